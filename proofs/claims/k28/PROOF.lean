import PyProof.Rows.All
import Wide.All
import OpenK.AllK
import Wide.FinOn
import PySem.Str
import PySem.PyData
import PyProof.P3Statements
import PyProof.EqLayable
import PyProof.ReprReads
import HandS.List
import HandS.Text
import HandS.ForMost
import HandS.Exc
import HandS.CallSlots
import HandS.Style
import PyProof.ListOps
import HandS.OwnEq
import HandS.Defaults
import HandS.ExcOwn
import HandS.WordsExc
import HandS.TupAny
import HandS.IsInst
import HandS.RaiseMore
import HandS.NoneIn
import HandS.Zip
import HandS.ExcInit
import HandS.TryOnly
import PyProof.ReprRoads
import HandS.Iter
import HandS.Steps
import HandS.ExcField
import HandS.ExcIs
import HandS.Strs
import HandS.Wide
import HandS.Property
import HandS.Records
import PyProof.AssignAttr
import KE.GoesMore
import HandS.SortInts
import HandS.Deep
import HandS.Small
import PyProof.P3Eq
import PySem.Challenge.RW_slipsights_k28_spans_stepped_and_sighted
set_option linter.all false
set_option Elab.async false
set_option maxRecDepth 100000
set_option maxHeartbeats 40000000
/-! A small language with tree values, and what it means. -/
namespace Pi
open PySem

inductive D where
  | non | bl (b : Bool) | int (i : Int) | str (x : Str)
  | tup (ds : List D) | lst (ds : List D)
  | ins (c : Nat) (fs : List (Nat × D))
  | ref (n : Nat)
  deriving Inhabited

inductive MO where
  | lst (ds : List D) | ins (c : Nat) (fs : List (Nat × D))

inductive SV where
  | un | v (d : D) | own (ds : List D) | ob (c : Nat) (fs : List (Nat × D))

structure S where
  l : List SV
  g : List MO

inductive R (α : Type) where
  | ok (a : α) (s : S) | ex (c : Nat) (fs : List (Nat × D)) (s : S) | no

def R.bind {α β : Type} (r : R α) (k : α → S → R β) : R β := match r with
  | .ok a s => k a s
  | .ex c fs s => .ex c fs s
  | .no => .no
def R.of {α : Type} (o : Option α) (s : S) : R α := match o with
  | some a => .ok a s
  | none => .no

/-- a call's end, without the caller's names -/
inductive C where
  | ok (d : D) (g : List MO) | ex (c : Nat) (fs : List (Nat × D)) (g : List MO) | no
inductive CI where
  | ok (fs : List (Nat × D)) (g : List MO) | ex (c : Nat) (fs : List (Nat × D)) (g : List MO) | no

inductive Ty where
  | int | bool | str | tuple | list | cls (c : Nat)
inductive Op where
  | add | sub | mulL | mulR | fdiv | mod | pow | eq | ne | lt | le | gt | ge | isn | ntn | cat | inS | catL | mulW | fdivW | eqE | neE | inL | ninL
inductive Bi where
  | len | abs | int | str | repr | tuple | list | all | any | max2 | min2 | sum | lset | sort

structure O where
  call : Nat → List D → List MO → C
  init : Nat → List D → List MO → CI
  meth : Nat → Nat → Option Nat
  cont : Nat → Option Nat
  sub : Nat → Nat → Bool
  eqm : Nat → Option Nat := fun _ => none
  strm : Nat → Option Nat := fun _ => none

def big : Nat := 100000

def view (g : List MO) : D → D
  | .ref n => match g[n]? with
    | some (.lst ds) => .lst ds
    | _ => .ref n
  | d => d

mutual
def toPy : D → Option PyData
  | .non => some .none
  | .bl b => some (.bool b)
  | .int i => some (.int i)
  | .str x => some (.str x)
  | .tup ds => (toPys ds).map .tuple
  | .lst ds => (toPys ds).map .list
  | .ins _ _ => none
  | .ref _ => none
def toPys : List D → Option (List PyData)
  | [] => some []
  | d :: ds => match toPy d, toPys ds with
    | some x, some xs => some (x :: xs)
    | _, _ => none
end

/-- equality of plain data -/
def deq (a b : D) : Option Bool := match toPy a, toPy b with
  | some x, some y => bif SeqAt.shaped x && SeqAt.shaped y then some (PyData.eqv x y) else none
  | _, _ => none
def scalD : D → D → Bool
  | .int _, .int _ => true
  | .bl _, .bl _ => true
  | .str _, .str _ => true
  | .non, .non => true
  | _, _ => false
def flat : D → Bool
  | .int _ => true
  | .str _ => true
  | .bl _ => true
  | .non => true
  | _ => false
def small64 (i : Int) : Bool := decide (-(2 ^ 64) < i) && decide (i < 2 ^ 64)

def addV : D → D → Option D
  | .int i, .int j => some (.int (i + j))
  | .str x, .str y => bif decide (x.length + y.length ≤ big) then some (.str (x ++ y)) else none
  | _, _ => none
def i2V (f : Int → Int → Option D) : D → D → Option D
  | .int i, .int j => f i j
  | _, _ => none
def eqV : D → D → Option Bool
  | .int i, .int j => some (decide (i = j))
  | .str i, .str j => some (decide (i = j))
  | .bl i, .bl j => some (decide (i = j))
  | a, b => deq a b
def isnV : D → D → Option Bool
  | .non, .non => some true
  | _, .non => some false
  | .bl a, .bl b => some (decide (a = b))
  | _, _ => none
def catV : D → D → Option D
  | .tup (x :: a), .tup (y :: b) => bif decide ((x :: a).length + (y :: b).length ≤ big) then some (.tup ((x :: a) ++ (y :: b))) else none
  | _, _ => none
def catLV : D → D → Option D
  | .lst a, .lst b => bif decide (a.length + b.length ≤ big) then some (.lst (a ++ b)) else none
  | _, _ => none
def inSV : D → D → Option D
  | .str x, .str z => match x.cps.toList with
    | [c] => some (.bl (decide (c ∈ z.cps.toList)))
    | _ => none
  | _, _ => none
/-- a tuple against () -/
def eqEV : D → D → Option Bool
  | .tup a, .tup [] => some a.isEmpty
  | _, _ => none
/-- data in a list of data -/
def inLV (a b : D) : Option Bool := match toPy a, toPy b with
  | some d, some (.list ds) => bif SeqAt.shaped d && SeqAt.shaped (.list ds) then some (ds.any fun z => PyData.eqv z d) else none
  | _, _ => none
def op2V : Op → D → D → Option D
  | .add, a, b => addV a b
  | .sub, a, b => i2V (fun i j => some (.int (i - j))) a b
  | .mulL, a, b => i2V (fun i j => bif small64 i then some (.int (i * j)) else none) a b
  | .mulR, a, b => i2V (fun i j => bif small64 j then some (.int (i * j)) else none) a b
  | .fdiv, a, b => i2V (fun i j => bif decide (0 < j) && decide (j < 1073741824) then some (.int (i / j)) else none) a b
  | .eqE, a, b => (eqEV a b).map .bl
  | .neE, a, b => (eqEV a b).map fun k => .bl !k
  | .mulW, a, b => i2V (fun i j => bif decide (i.natAbs.log2 + j.natAbs.log2 < 1000000) then some (.int (i * j)) else none) a b
  | .fdivW, a, b => i2V (fun i j => bif decide (0 < j) && decide (j.natAbs.log2 < 9000) then some (.int (i / j)) else none) a b
  | .mod, a, b => i2V (fun i j => bif decide (0 < j) then some (.int (i % j)) else none) a b
  | .pow, a, b => i2V (fun i j => bif decide (0 ≤ j) && decide (j ≤ 1000000) && decide (i.natAbs < 2 ^ 64) then some (.int (i ^ j.toNat)) else none) a b
  | .lt, a, b => i2V (fun i j => some (.bl (decide (i < j)))) a b
  | .le, a, b => i2V (fun i j => some (.bl (decide (i ≤ j)))) a b
  | .gt, a, b => i2V (fun i j => some (.bl (decide (j < i)))) a b
  | .ge, a, b => i2V (fun i j => some (.bl (decide (j ≤ i)))) a b
  | .eq, a, b => (eqV a b).map .bl
  | .ne, a, b => (eqV a b).map fun k => .bl !k
  | .isn, a, b => (isnV a b).map .bl
  | .ntn, a, b => (isnV a b).map fun k => .bl !k
  | .cat, a, b => catV a b
  | .inS, a, b => inSV a b
  | .catL, a, b => catLV a b
  | .inL, a, b => (inLV a b).map .bl
  | .ninL, a, b => (inLV a b).map fun k => .bl !k
def op2S (g : List MO) (k : Op) (a b : D) : Option D := op2V k (view g a) (view g b)

def eqF : D → D → Bool
  | .non, .non => true
  | .bl a, .bl b => a == b
  | .bl a, .int b => (if a then 1 else 0) == b
  | .int a, .bl b => a == (if b then 1 else 0)
  | .int a, .int b => a == b
  | .str a, .str b => a == b
  | _, _ => false
/-- x in a row of plain things -/
def inD (x : D) (ds : List D) : Option Bool := bif flat x && ds.all flat then some (ds.any fun y => eqF y x) else none

def isiS (o : O) : D → Ty → Bool
  | .int _, .int => true
  | .bl _, .int => true
  | .bl _, .bool => true
  | .str _, .str => true
  | .tup _, .tuple => true
  | .lst _, .list => true
  | .ins c _, .cls k => o.sub c k
  | _, _ => false
def isiA (o : O) (d : D) : List Ty → Bool
  | [] => false
  | t :: ts => isiS o d t || isiA o d ts

def bools : List D → Option (List Bool)
  | [] => some []
  | .bl b :: r => (bools r).map (b :: ·)
  | _ => none
def allB (ds : List D) : Option Bool := (bools ds).map (·.all id)
def anyB (ds : List D) : Option Bool := (bools ds).map (·.any id)

def lenD : D → Option Nat
  | .lst ds => some ds.length
  | .tup ds => some ds.length
  | .str x => bif decide (x.length ≤ big) then some x.length else none
  | _ => none
def seqD : D → Option (List D)
  | .lst ds => some ds
  | .tup ds => some ds
  | _ => none

def chars : D → Option (List D)
  | .str x => some (x.cps.toList.map fun c => .str ⟨#[c]⟩)
  | _ => none

def arg1 (f : D → Option D) : List D → Option D
  | [d] => f d
  | _ => none
def arg2 (f : D → D → Option D) : List D → Option D
  | [d, e] => f d e
  | _ => none
def absV : D → Option D
  | .int i => some (.int (if i < 0 then -i else i))
  | _ => none
def intV : D → Option D
  | .int i => some (.int i)
  | _ => none
def strV : D → Option D
  | .int i => bif decide (i.natAbs.log2 < 1920) then some (.str (toString i)) else none
  | .str x => some (.str x)
  | _ => none
def reprP (d : D) : Option D := match toPy d with
  | some p => bif PyData.showable p && SeqAt.shaped p && decide ((PyData.shown p).length ≤ big) then some (.str (PyData.shown p)) else none
  | none => none
def reprV : D → Option D
  | .bl b => some (.str (if b then "True" else "False"))
  | .int i => bif decide (i.natAbs.log2 < 1920) then some (.str (toString i)) else none
  | .str x => bif decide ((reprText x).length ≤ big) then some (.str (reprText x)) else none
  | .non => some (.str "None")
  | .tup ds => reprP (.tup ds)
  | .lst ds => reprP (.lst ds)
  | _ => none
def lst1 (f : List D → Option D) : D → Option D
  | .lst ds => f ds
  | _ => none
/-- how many texts, none twice -/
def dcF (p : List Str × Nat) (x : Str) : List Str × Nat := (p.1 ++ [x], if p.1.any (· == x) then p.2 else p.2 + 1)
def dct (l : List Str) : Nat := (l.foldl dcF ([], 0)).2
def strsD : List D → Option (List Str)
  | [] => some []
  | .str x :: r => (strsD r).map (x :: ·)
  | _ => none
def intsD : List D → Option (List Int)
  | [] => some []
  | .int i :: r => (intsD r).map (i :: ·)
  | _ => none
def lsetV (ds : List D) : Option D := match strsD ds with
  | some xs => bif decide (xs.length < 4000) then some (.int (dct xs)) else none
  | none => none
def ins1 (x : Int) : List Int → List Int
  | [] => [x]
  | y :: r => bif decide (x ≤ y) then x :: y :: r else y :: ins1 x r
def isort : List Int → List Int
  | [] => []
  | x :: r => ins1 x (isort r)
def sortV (ds : List D) : Option D := (intsD ds).map fun is => .lst ((isort is).map .int)
def biV : Bi → List D → Option D
  | .len => arg1 fun d => (lenD d).map fun (n : Nat) => D.int (n : Int)
  | .abs => arg1 absV
  | .int => arg1 intV
  | .str => arg1 strV
  | .repr => arg1 reprV
  | .tuple => arg1 fun d => (seqD d).map .tup
  | .list => arg1 fun d => (seqD d).map .lst
  | .all => arg1 (lst1 fun ds => (allB ds).map .bl)
  | .any => arg1 (lst1 fun ds => (anyB ds).map .bl)
  | .max2 => arg2 (i2V fun i j => some (.int (if j > i then j else i)))
  | .min2 => arg2 (i2V fun i j => some (.int (if j < i then j else i)))
  | .sum => arg1 (lst1 fun ds => (intsD ds).map fun is => .int is.sum)
  | .lset => arg1 (lst1 lsetV)
  | .sort => arg1 (lst1 sortV)
def biS (g : List MO) (k : Bi) (ds : List D) : Option D := biV k (ds.map (view g))

def cutD {α : Type} (ds : List α) (lo hi : Option Int) : List α := (ds.drop (HT.sIx ds.length 0 lo)).take (HT.sIx ds.length ds.length hi - HT.sIx ds.length 0 lo)
def ixS (a i : D) : Option D := match a, i with
  | .lst ds, .int k => L2.atI ds k
  | .tup ds, .int k => L2.atI ds k
  | _, _ => none
def slS (a : D) (lo hi : Option Int) : Option D := match a with
  | .lst ds => some (.lst (cutD ds lo hi))
  | .tup ds => some (.tup (cutD ds lo hi))
  | .str x => bif decide (x.length ≤ big) then some (.str (L2.cutS x lo hi)) else none
  | _ => none
def revS (a : D) : Option D := match a with
  | .lst ds => some (.lst ds.reverse)
  | _ => none
def fldS (g : List MO) (a : D) (n : Nat) : Option D := match a with
  | .ins _ fs => fs.lookup n
  | .ref k => match g[k]? with
    | some (.ins _ fs) => fs.lookup n
    | _ => none
  | _ => none
def clsS (g : List MO) (a : D) : Option Nat := match a with
  | .ins c _ => some c
  | .ref k => match g[k]? with
    | some (.ins c _) => some c
    | _ => none
  | _ => none
def tyD (g : List MO) : D → Option D
  | .ref n => match g[n]? with
    | some (.lst ds) => some (.lst ds)
    | some (.ins c fs) => some (.ins c fs)
    | none => none
  | d => some d
def truS : D → Option Bool
  | .bl b => some b
  | .int i => some (i != 0)
  | .non => some false
  | .str x => bif decide (x.length ≤ big) then some (x.length != 0) else none
  | .lst ds => some (!ds.isEmpty)
  | .tup ds => some (!ds.isEmpty)
  | _ => none
def putN (n : Nat) (d : D) : List (Nat × D) → List (Nat × D)
  | [] => [(n, d)]
  | (m, x) :: r => bif m == n then (m, d) :: r else (m, x) :: putN n d r

inductive Tgt where
  | one (i : Nat) | tup (is : List Nat) | nest (ts : List (Nat ⊕ List Nat))
def setAll : List Nat → List D → List SV → Option (List SV)
  | [], [], l => some l
  | i :: is, d :: ds, l => setAll is ds (l.set i (.v d))
  | _, _, _ => none
def setNest : List (Nat ⊕ List Nat) → List D → List SV → Option (List SV)
  | [], [], l => some l
  | .inl i :: ts, d :: ds, l => setNest ts ds (l.set i (.v d))
  | .inr is :: ts, .tup xs :: ds, l => match setAll is xs l with
    | some l' => setNest ts ds l'
    | none => none
  | _, _, _ => none
def tgS : Tgt → D → List SV → Option (List SV)
  | .one i, d, l => some (l.set i (.v d))
  | .tup is, .tup ds, l => setAll is ds l
  | .tup is, .lst ds, l => setAll is ds l
  | .tup _, _, _ => none
  | .nest ts, .tup ds, l => setNest ts ds l
  | .nest _, _, _ => none

def Tgt.slots : Tgt → List Nat
  | .one i => [i]
  | .tup is => is
  | .nest ts => (ts.map fun t => match t with
    | .inl i => [i]
    | .inr is => is).flatten
def clr : List Nat → List SV → List SV
  | [], l => l
  | i :: is, l => (clr is l).set i .un
inductive T where
  | c (d : D) | v (i : Nat) | gl (d : D)
  | op2 (k : Op) (a b : T)
  | opo (k : Op) (i : Nat) (b : T)
  | ch (k k' : Op) (a b c : T)
  | neg (a : T)
  | and (a b : T) | or (a b : T) | not (a : T) | tru (a : T) | ite (c a b : T)
  | tup (a : T) | lst (a : T) | nil | cons (a b : T) | star (a b : T)
  | ix (a i : T) | ixo (i : Nat) (a : T) | sl (a lo hi : T) | rev (a : T)
  | call (f : Nat) (a : T) (df : List D) | mk (c : Nat) (a : T) (df : List D) | meth (m : Nat) (a b : T) (df : List D) | fld (a : T) (n : Nat)
  | inr (neg : Bool) (a b : T) | ino (neg : Bool) (a b : T)
  | isi (a : T) (ts : List Ty)
  | bi (k : Bi) (a : T) | bio (k : Bi) (i : Nat)
  | comp (t : Tgt) (it c e : T)
  | rng1 (a : T) | rng2 (a b : T) | rngd (a b c : T) | it (a : T) | its (a : T)
  | popo (i : Nat) (a : T)
  | mkr (a : T) | revr (a : T) | popr (a : T)
  | eqo (neg : Bool) (a b : T) | inq (neg : Bool) (a b : T)
  | zip (a b : T) | enm (a : T) | enmT (a : T)
  | prp (m : Nat) (a : T) | tro (m : Nat) (a : T) | opm (m : Nat) (a b : T)

def isOwn (l : List SV) (i : Nat) : Bool := match l[i]? with
  | some (.own _) => true
  | _ => false
def wipe1 : SV → SV
  | .un => .un
  | .v d => .v d
  | .own _ => .un
  | .ob _ _ => .un
def wipeOwn (l : List SV) : List SV := l.map wipe1

def loopC (f : D → List MO → R (Option D)) : List D → List D → List MO → R (List D)
  | [], acc, g => .ok acc ⟨[], g⟩
  | d :: ds, acc, g => match f d g with
    | .ok (some x) s => loopC f ds (acc ++ [x]) s.g
    | .ok none s => loopC f ds acc s.g
    | .ex _ _ _ => .no
    | .no => .no

def R.ofC (l : List SV) : C → R D
  | .ok d g => .ok d ⟨l, g⟩
  | .ex c fs g => .ex c fs ⟨l, g⟩
  | .no => .no
def R.ofCI (l : List SV) (c : Nat) : CI → R D
  | .ok fs g => .ok (.ins c fs) ⟨l, g⟩
  | .ex c fs g => .ex c fs ⟨l, g⟩
  | .no => .no


/-- what may stand on the right of an own == -/
def okR (o : O) (g : List MO) (k : Nat) (y : D) : Bool := match tyD g y with
  | some (.ins k' _) => k' == k || !o.sub k' k
  | some _ => true
  | none => false
/-- x == y by the own __eq__ of x -/
def eqoC (o : O) (x y : D) (g : List MO) : C := match clsS g x with
  | some k => (match o.eqm k with
    | some f => bif okR o g k y then o.call f [x, y] g else .no
    | none => .no)
  | none => .no
def notB (neg : Bool) (k : Bool) : Bool := bif neg then !k else k
def eqoS (o : O) (neg : Bool) (x y : D) (s : S) : R D := match eqoC o x y s.g with
  | .ok (.bl k) g => .ok (.bl (notB neg k)) ⟨s.l, g⟩
  | _ => .no
/-- x in a row of plain things: one after another is compared with x, whose own __eq__ answers -/
def plainY : D → Bool
  | .non => true
  | .str _ => true
  | .tup _ => true
  | _ => false
def inqC (o : O) (x : D) : List D → List MO → C
  | [], g => .ok (.bl false) g
  | y :: ys, g => bif plainY y then (match eqoC o x y g with
    | .ok (.bl true) g => .ok (.bl true) g
    | .ok (.bl false) g => inqC o x ys g
    | _ => .no) else .no
def inqS (o : O) (neg : Bool) (x : D) (l : List SV) (ds : List D) (g : List MO) : R D := match inqC o x ds g with
  | .ok (.bl k) g => .ok (.bl (notB neg k)) ⟨l, g⟩
  | _ => .no
/-- what an own method says of x, of x and y of one class -/
def own1 (o : O) (m : Nat) (x : D) (g : List MO) : C := match clsS g x with
  | some k => (match o.meth k m with
    | some f => o.call f [x] g
    | none => .no)
  | none => .no
def own2 (o : O) (m : Nat) (x y : D) (g : List MO) : C := match clsS g x with
  | some k => bif clsS g y == some k then (match o.meth k m with
    | some f => o.call f [x, y] g
    | none => .no) else .no
  | none => .no
def R.okC (l : List SV) : C → R D
  | .ok d g => .ok d ⟨l, g⟩
  | _ => .no
def R.okB (l : List SV) : C → R D
  | .ok (.bl b) g => .ok (.bl b) ⟨l, g⟩
  | _ => .no
def zipD (x y : D) : Option (List D) := match x, y with
  | .lst a, .lst b => some ((a.zip b).map fun p => .tup [p.1, p.2])
  | .tup a, .tup b => some ((a.zip b).map fun p => .tup [p.1, p.2])
  | _, _ => none
def enmTD (x : D) : Option (List D) := match x with
  | .tup a => some ((List.range a.length).zip a |>.map fun p => .tup [.int p.1, p.2])
  | _ => none
def enmD (x : D) : Option (List D) := match x with
  | .lst a => some ((List.range a.length).zip a |>.map fun p => .tup [.int p.1, p.2])
  | _ => none

mutual
def ev (o : O) : T → S → R D
  | .c d, s => .ok d s
  | .gl d, s => .ok d s
  | .v i, s => match s.l[i]? with
    | some (.v d) => .ok d s
    | _ => .no
  | .op2 k a b, s => (ev o a s).bind fun x s => (ev o b s).bind fun y s => R.of (op2S s.g k x y) s
  | .opo k i b, s => bif isOwn s.l i then (ev o b s).bind fun y s => match s.l[i]? with
    | some (.own ds) => R.of (op2S s.g k (.lst ds) y) s
    | _ => .no else .no
  | .ch k k' a b c, s => (ev o a s).bind fun x s => (ev o b s).bind fun y s => match op2S s.g k x y with
    | some (.bl true) => (ev o c s).bind fun z s => R.of (op2S s.g k' y z) s
    | some (.bl false) => .ok (.bl false) s
    | _ => .no
  | .neg a, s => (ev o a s).bind fun x s => match x with
    | .int i => .ok (.int (-i)) s
    | _ => .no
  | .and a b, s => (ev o a s).bind fun x s => match x with
    | .bl true => ev o b s
    | .bl false => .ok (.bl false) s
    | _ => .no
  | .or a b, s => (ev o a s).bind fun x s => match x with
    | .bl true => .ok (.bl true) s
    | .bl false => ev o b s
    | _ => .no
  | .not a, s => (ev o a s).bind fun x s => match x with
    | .bl b => .ok (.bl (!b)) s
    | _ => .no
  | .tru a, s => (ev o a s).bind fun x s => R.of ((truS (view s.g x)).map .bl) s
  | .ite c a b, s => (ev o c s).bind fun x s => match x with
    | .bl true => ev o a s
    | .bl false => ev o b s
    | _ => .no
  | .tup a, s => (evA o a s).bind fun ds s => bif decide (ds.length ≤ big) then .ok (.tup ds) s else .no
  | .lst a, s => (evA o a s).bind fun ds s => bif decide (ds.length ≤ big) then .ok (.lst ds) s else .no
  | .ix a i, s => (ev o a s).bind fun x s => (ev o i s).bind fun y s => R.of (ixS (view s.g x) y) s
  | .ixo i a, s => bif isOwn s.l i then (ev o a s).bind fun y s => match s.l[i]? with
    | some (.own ds) => R.of (ixS (.lst ds) y) s
    | _ => .no else .no
  | .sl a lo hi, s => (ev o a s).bind fun x s => (evO o lo s).bind fun i s => (evO o hi s).bind fun j s => R.of (slS (view s.g x) i j) s
  | .rev a, s => (ev o a s).bind fun x s => R.of (revS (view s.g x)) s
  | .call f a df, s => (evA o a s).bind fun ds s => R.ofC s.l (o.call f (ds ++ df) s.g)
  | .mk c a df, s => (evA o a s).bind fun ds s => R.ofCI s.l c (o.init c (ds ++ df) s.g)
  | .meth m a b df, s => (ev o a s).bind fun x s => match clsS s.g x with
    | some c => (match o.meth c m with
      | some f => (evA o b s).bind fun ds s => R.ofC s.l (o.call f (x :: (ds ++ df)) s.g)
      | none => .no)
    | none => .no
  | .fld a n, s => (ev o a s).bind fun x s => R.of (fldS s.g x n) s
  | .inr neg a b, s => (ev o a s).bind fun x s => (ev o b s).bind fun y s => match seqD (view s.g y) with
    | some ds => R.of ((inD x ds).map fun k => .bl (bif neg then !k else k)) s
    | none => .no
  | .ino neg a b, s => (ev o a s).bind fun x s => (ev o b s).bind fun y s => match clsS s.g y with
    | some c => (match o.cont c with
      | some f => (match o.call f [y, x] s.g with
        | .ok (.bl k) g => .ok (.bl (bif neg then !k else k)) ⟨s.l, g⟩
        | _ => .no)
      | none => .no)
    | none => .no
  | .isi a ts, s => (ev o a s).bind fun x s => match tyD s.g x with
    | some d => .ok (.bl (isiA o d ts)) s
    | none => .no
  | .bi k a, s => (evA o a s).bind fun ds s => R.of (biS s.g k ds) s
  | .bio k i, s => match s.l[i]? with
    | some (.own ds) => R.of (biS s.g k [.lst ds]) s
    | _ => .no
  | .comp tg it c e, s => (evI o it s).bind fun ds s => bif decide (ds.length ≤ big) then
    match loopC (fun d g => match tgS tg d (clr tg.slots (wipeOwn s.l)) with
      | some l => (ev o c ⟨l, g⟩).bind fun t s' => (match t with
        | .bl true => (ev o e s').bind fun x s'' => .ok (some x) s''
        | .bl false => .ok none s'
        | _ => .no)
      | none => .no) ds [] s.g with
    | .ok xs s' => .ok (.lst xs) ⟨s.l, s'.g⟩
    | _ => .no else .no
  | .popo i a, s => bif isOwn s.l i then (ev o a s).bind fun y s => match s.l[i]?, y with
    | some (.own ds), .int k => bif decide (0 ≤ k) && decide (k < ds.length) && decide (ds.length ≤ big) then (match ds[k.toNat]? with
      | some d => .ok d ⟨s.l.set i (.own (ds.eraseIdx k.toNat)), s.g⟩
      | none => .no) else .no
    | _, _ => .no else .no
  | .mkr a, s => (evA o a s).bind fun ds s => bif decide (ds.length ≤ big) then .ok (.ref s.g.length) ⟨s.l, s.g ++ [.lst ds]⟩ else .no
  | .revr a, s => (ev o a s).bind fun x s => match view s.g x with
    | .lst ds => .ok (.ref s.g.length) ⟨s.l, s.g ++ [.lst ds.reverse]⟩
    | _ => .no
  | .popr a, s => (ev o a s).bind fun x s => match x with
    | .ref n => (match s.g[n]? with
      | some (.lst ds) => (match ds.getLast? with
        | some d => .ok d ⟨s.l, s.g.set n (.lst ds.dropLast)⟩
        | none => .no)
      | _ => .no)
    | _ => .no
  | .eqo neg a b, s => (ev o a s).bind fun x s => (ev o b s).bind fun y s => eqoS o neg x y s
  | .inq neg a b, s => (ev o a s).bind fun x s => (ev o b s).bind fun y s => match y with
    | .tup ds => inqS o neg x s.l ds s.g
    | _ => .no
  | .prp m a, s => (ev o a s).bind fun x s => R.okC s.l (own1 o m x s.g)
  | .tro m a, s => (ev o a s).bind fun x s => R.okB s.l (own1 o m x s.g)
  | .opm m a b, s => (ev o a s).bind fun x s => (ev o b s).bind fun y s => R.okC s.l (own2 o m x y s.g)
  | .zip _ _, _ => .no
  | .enm _, _ => .no
  | .enmT _, _ => .no
  | .nil, _ => .no
  | .cons _ _, _ => .no
  | .star _ _, _ => .no
  | .rng1 _, _ => .no
  | .rng2 _ _, _ => .no
  | .rngd _ _ _, _ => .no
  | .it _, _ => .no
  | .its _, _ => .no
def evA (o : O) : T → S → R (List D)
  | .nil, s => .ok [] s
  | .cons a b, s => (ev o a s).bind fun x s => (evA o b s).bind fun xs s => .ok (x :: xs) s
  | _, _ => .no
def evO (o : O) : T → S → R (Option Int)
  | .nil, s => .ok none s
  | .cons a _, s => (ev o a s).bind fun x s => match x with
    | .int i => .ok (some i) s
    | _ => .no
  | _, _ => .no
def evI (o : O) : T → S → R (List D)
  | .rng1 a, s => (ev o a s).bind fun x s => match x with
    | .int j => bif decide (-(2 ^ 62) ≤ j) && decide (j < 2 ^ 62) then .ok ((List.range j.toNat).map fun (k : Nat) => .int k) s else .no
    | _ => .no
  | .rng2 a b, s => (ev o a s).bind fun x s => (ev o b s).bind fun y s => match x, y with
    | .int i, .int j => bif decide (-(2 ^ 62) ≤ i) && decide (i < 2 ^ 62) && decide (-(2 ^ 62) ≤ j) && decide (j < 2 ^ 62) then .ok ((List.range (j - i).toNat).map fun (k : Nat) => .int (i + k)) s else .no
    | _, _ => .no
  | .rngd a b c, s => (ev o a s).bind fun x s => (ev o b s).bind fun y s => (ev o c s).bind fun z s => match x, y, z with
    | .int i, .int j, .int k => bif decide (-(2 ^ 62) ≤ i) && decide (i < 2 ^ 62) && decide (-(2 ^ 62) ≤ j) && decide (j < 2 ^ 62) && decide (k = -1) then .ok ((List.range (i - j).toNat).map fun (k : Nat) => .int (i + k * (-1))) s else .no
    | _, _, _ => .no
  | .it a, s => (ev o a s).bind fun x s => R.of (seqD x) s
  | .its a, s => (ev o a s).bind fun x s => R.of (chars x) s
  | .zip a b, s => (ev o a s).bind fun x s => (ev o b s).bind fun y s => R.of (zipD x y) s
  | .enm a, s => (ev o a s).bind fun x s => R.of (enmD x) s
  | .enmT a, s => (ev o a s).bind fun x s => R.of (enmTD x) s
  | _, _ => .no
end

inductive F where
  | nx | rt (d : D) | bk | ct

/-- what an except suite says of the exception: its class, its fields -/
inductive HT where
  | isi (p : Nat → Bool) | not (a : HT) | and (a b : HT)
inductive HX where
  | t (e : T) | wd (n : Nat) | lst1 (a : HX) | ite (q : HT) (a b : HX)
def hq (k : Nat) : HT → Bool
  | .isi p => p k
  | .not a => !hq k a
  | .and a b => hq k a && hq k b
def hv (o : O) (k : Nat) (fs : List (Nat × D)) : HX → S → R D
  | .t e, s => ev o e s
  | .wd n, s => R.of (fs.lookup n) s
  | .lst1 a, s => (hv o k fs a s).bind fun d s => .ok (.lst [d]) s
  | .ite q a b, s => bif hq k q then hv o k fs a s else hv o k fs b s
inductive TS where
  | nil | seq (a b : TS)
  | asg (t : Tgt) (e : T)
  | ex (e : T)
  | ite (c : T) (a b : TS)
  | ret (e : T) | retn
  | raise (c n : Nat) (as : T)
  | fr (t : Tgt) (it : T) (b : TS)
  | whl (n : Nat) (c : T) (b : TS)
  | brk | cnt
  | setF (k n : Nat) (e : T) | setFs (k : Nat) (ns : List Nat) (e : T) | seto (i : Nat) (a e : T)
  | mko (i : Nat) (a : T) | app (i : Nat) (e : T) | ext (i : Nat) (e : T) | extv (i : Nat) (e : T) | frz (i : Nat)
  | trya (b : TS) (xc : Nat → Option Bool) (i j : Nat) (h : HX) | tryr (b : TS) (xc : Nat → Option Bool) (d : D)
  | par (is : List Nat) (a : T)
  | par2 (i : Nat) (bi : Bool) (a : T) (j : Nat) (bj : Bool) (b : T)
  | mkf (i : Nat) (a : T)
  | appr (a e : T) | setr (a i e : T) | setr2 (a i : T) (j : Nat) (e : T)

def loopS (f : D → S → R F) : List D → S → R F
  | [], s => .ok .nx s
  | d :: ds, s => match f d s with
    | .ok .nx s => loopS f ds s
    | .ok .ct s => loopS f ds s
    | .ok .bk s => .ok .nx s
    | .ok (.rt d) s => .ok (.rt d) s
    | .ex c fs s => .ex c fs s
    | .no => .no
def contW (k : S → R F) : R F → R F
  | .ok .nx s => k s
  | .ok .ct s => k s
  | .ok .bk s => .ok .nx s
  | .ok (.rt d) s => .ok (.rt d) s
  | .ex c fs s => .ex c fs s
  | .no => .no
def testW (f k : S → R F) : D → S → R F
  | .bl true, s => contW k (f s)
  | .bl false, s => .ok .nx s
  | _, _ => .no
def loopW (f : S → R F) (c : S → R D) : Nat → S → R F
  | 0, _ => .no
  | n + 1, s => (c s).bind (testW f (loopW f c n))

/-- a value for a slot: a new list that the frame owns, or any value -/
def slotK (own : Bool) (d : D) (s : S) : R SV := match own, d with
  | true, .lst ds => bif decide (ds.length ≤ big) then .ok (.own ds) s else .no
  | true, _ => .no
  | false, d => .ok (.v d) s
def evP (o : O) (own : Bool) (a : T) (s : S) : R SV := (ev o a s).bind (slotK own)
theorem ev_lst {o : O} {a : T} {s : S} : ev o (.lst a) s = (evA o a s).bind fun ds s => bif decide (ds.length ≤ big) then R.ok (D.lst ds) s else R.no := rfl
theorem ev_bi {o : O} {k : Bi} {a : T} {s : S} : ev o (.bi k a) s = (evA o a s).bind fun ds s => R.of (biS s.g k ds) s := rfl
def putNs : List Nat → List D → List (Nat × D) → Option (List (Nat × D))
  | [], [], fs => some fs
  | n :: ns, d :: ds, fs => putNs ns ds (putN n d fs)
  | _, _, _ => none
def evS (o : O) : TS → S → R F
  | .nil, s => .ok .nx s
  | .seq a b, s => match evS o a s with
    | .ok .nx s => evS o b s
    | r => r
  | .asg t e, s => (ev o e s).bind fun d s => match tgS t d s.l with
    | some l => .ok .nx ⟨l, s.g⟩
    | none => .no
  | .ex e, s => (ev o e s).bind fun _ s => .ok .nx s
  | .ite c a b, s => (ev o c s).bind fun x s => match x with
    | .bl true => evS o a s
    | .bl false => evS o b s
    | _ => .no
  | .ret e, s => (ev o e s).bind fun d s => .ok (.rt d) s
  | .retn, s => .ok (.rt .non) s
  | .raise c n as, s => (evA o as s).bind fun ds s => match ds with
    | [d] => .ex c [(n, d)] s
    | _ => .no
  | .fr t it b, s => (evI o it s).bind fun ds s => loopS (fun d s => match tgS t d s.l with
    | some l => evS o b ⟨l, s.g⟩
    | none => .no) ds s
  | .whl n c b, s => loopW (evS o b) (ev o c) n s
  | .brk, s => .ok .bk s
  | .cnt, s => .ok .ct s
  | .setF k n e, s => (ev o e s).bind fun d s => match s.l[(0 : Nat)]? with
    | some (.ob c fs) => bif c == k && decide (fs.length < 900) then .ok .nx ⟨s.l.set 0 (.ob c (putN n d fs)), s.g⟩ else .no
    | _ => .no
  | .setFs k ns e, s => (ev o e s).bind fun d s => match d, s.l[(0 : Nat)]? with
    | .tup ds, some (.ob c fs) => (match putNs ns ds fs with
      | some fs' => bif c == k && decide (fs.length + ns.length < 900) then .ok .nx ⟨s.l.set 0 (.ob c fs'), s.g⟩ else .no
      | none => .no)
    | _, _ => .no
  | .seto i a e, s => (ev o e s).bind fun d s => bif isOwn s.l i then (ev o a s).bind fun y s => match s.l[i]?, y with
    | some (.own ds), .int k => (match L2.ixN ds.length k with
      | some j => .ok .nx ⟨s.l.set i (.own (ds.set j d)), s.g⟩
      | none => .no)
    | _, _ => .no else .no
  | .mko i a, s => (evA o a s).bind fun ds s => bif decide (ds.length ≤ big) then .ok .nx ⟨s.l.set i (.own ds), s.g⟩ else .no
  | .app i e, s => bif isOwn s.l i then (ev o e s).bind fun d s => match s.l[i]? with
    | some (.own ds) => bif decide (ds.length < big) then .ok .nx ⟨s.l.set i (.own (ds ++ [d])), s.g⟩ else .no
    | _ => .no else .no
  | .ext i e, s => bif isOwn s.l i then (evA o e s).bind fun xs s => match s.l[i]? with
    | some (.own ds) => bif decide (ds.length + xs.length ≤ big) then .ok .nx ⟨s.l.set i (.own (ds ++ xs)), s.g⟩ else .no
    | _ => .no else .no
  | .extv i e, s => bif isOwn s.l i then (ev o e s).bind fun x s => match view s.g x, s.l[i]? with
    | .lst xs, some (.own ds) => bif decide (ds.length + xs.length ≤ big) then .ok .nx ⟨s.l.set i (.own (ds ++ xs)), s.g⟩ else .no
    | _, _ => .no else .no
  | .frz i, s => match s.l[i]? with
    | some (.own ds) => .ok .nx ⟨s.l.set i (.v (.lst ds)), s.g⟩
    | _ => .no
  | .par is a, s => (evA o a s).bind fun ds s => match setAll is ds s.l with
    | some l => .ok .nx ⟨l, s.g⟩
    | none => .no
  | .par2 i p a j q b, s => (evP o p a s).bind fun x s => (evP o q b s).bind fun y s => .ok .nx ⟨(s.l.set i x).set j y, s.g⟩
  | .mkf i a, s => (evP o true a s).bind fun x s => .ok .nx ⟨s.l.set i x, s.g⟩
  | .appr a e, s => (ev o a s).bind fun x s => match x with
    | .ref n => (match s.g[n]? with
      | some (.lst _) => (ev o e s).bind fun d s => (match s.g[n]? with
        | some (.lst ds) => bif decide (ds.length < big) then .ok .nx ⟨s.l, s.g.set n (.lst (ds ++ [d]))⟩ else .no
        | _ => .no)
      | _ => .no)
    | _ => .no
  | .setr a i e, s => (ev o e s).bind fun d s => (ev o a s).bind fun x s => (ev o i s).bind fun y s => match x, y with
    | .ref n, .int k => (match s.g[n]? with
      | some (.lst ds) => (match L2.ixN ds.length k with
        | some j => .ok .nx ⟨s.l, s.g.set n (.lst (ds.set j d))⟩
        | none => .no)
      | _ => .no)
    | _, _ => .no
  | .setr2 a i q e, s => (ev o e s).bind fun d s => match d with
    | .tup [d0, d1] => (ev o a s).bind fun x s => (ev o i s).bind fun y s => (match x, y with
      | .ref n, .int k => (match s.g[n]? with
        | some (.lst ds) => (match L2.ixN ds.length k with
          | some j => .ok .nx ⟨s.l.set q (.v d1), s.g.set n (.lst (ds.set j d0))⟩
          | none => .no)
        | _ => .no)
      | _, _ => .no)
    | _ => .no
  | .trya b xc i j h, s => match evS o b s with
    | .ex k fs s' => (match xc k with
      | some true => bif decide (i < s'.l.length) then (match hv o k fs h ⟨s'.l.set i .un, s'.g⟩ with
        | .ok d s => .ok .nx ⟨(s.l.set j (.v d)).set i .un, s.g⟩
        | _ => .no) else .no
      | some false => .ex k fs s'
      | none => .no)
    | r => r
  | .tryr b xc d, s => match evS o b s with
    | .ex k fs s' => (match xc k with
      | some true => .ok (.rt d) s'
      | some false => .ex k fs s'
      | none => .no)
    | r => r

/-- a def, an __init__ -/
def R.toC : R F → C
  | .ok .nx s => .ok .non s.g
  | .ok (.rt d) s => .ok d s.g
  | .ok _ _ => .no
  | .ex c fs s => .ex c fs s.g
  | .no => .no
def R.fin (k : Nat) (s : S) : CI := match s.l[(0 : Nat)]? with
  | some (.ob k' fs) => bif k' == k then .ok fs s.g else .no
  | _ => .no
def R.toCI (k : Nat) : R F → CI
  | .ok .nx s => R.fin k s
  | .ok (.rt .non) s => R.fin k s
  | .ok _ _ => .no
  | .ex c fs s => .ex c fs s.g
  | .no => .no
def slots (n : Nat) (ds : List D) : List SV := ds.map .v ++ List.replicate (n - ds.length) .un
def runD (o : O) (n : Nat) (b : TS) (ds : List D) (g : List MO) : C := (evS o b ⟨slots n ds, g⟩).toC
def runN (o : O) (n k : Nat) (b : TS) (ds : List D) (g : List MO) : CI := (evS o b ⟨.ob k [] :: slots (n - 1) ds, g⟩).toCI k
theorem ins1_perm (x : Int) : ∀ l, (ins1 x l).Perm (x :: l)
  | [] => .refl _
  | y :: r => by
    unfold ins1
    cases decide (x ≤ y) with
    | true => exact .refl _
    | false => exact ((ins1_perm x r).cons y).trans (.swap x y r)
theorem isort_perm : ∀ l, (isort l).Perm l
  | [] => .refl _
  | x :: r => (ins1_perm x _).trans ((isort_perm r).cons x)
theorem ins1_sorted (x : Int) : ∀ l : List Int, l.Pairwise (· ≤ ·) → (ins1 x l).Pairwise (· ≤ ·)
  | [], _ => List.pairwise_singleton _ _
  | y :: r, h => by
    unfold ins1
    have h' := List.pairwise_cons.mp h
    by_cases q : x ≤ y
    · rw [decide_eq_true q]
      refine List.pairwise_cons.mpr ⟨fun z hz => ?_, h⟩
      rcases List.mem_cons.mp hz with rfl | hz
      · exact q
      · have := h'.1 z hz; omega
    · rw [decide_eq_false q]
      refine List.pairwise_cons.mpr ⟨fun z hz => ?_, ins1_sorted x r h'.2⟩
      rcases List.mem_cons.mp ((ins1_perm x r).mem_iff.mp hz) with rfl | hz
      · omega
      · exact h'.1 z hz
theorem isort_sorted : ∀ l, (isort l).Pairwise (· ≤ ·)
  | [] => .nil
  | x :: r => ins1_sorted x _ (isort_sorted r)
end Pi
/-! How the values of Python stand for the trees; what a step may change. -/
namespace Pi
open PySem L2

/-- what is known of the text: addresses of classes, names of attributes -/
structure En where
  K : PySem.W.Frag
  cl : Nat → Addr
  at_ : Nat → Str
  nat : Nat
  inj : ∀ i j, i < nat → j < nat → at_ i = at_ j → i = j
  co : Nat → Bool
  cok : ∀ c, co c = true → Cls K (cl c) ∧ PySem.W.findIn K (.ref (cl c)) "__class__" = some (some (.builtin "object.__class__")) ∧ PySem.W.specialIn K (.builtin "object.__class__") "__get__" = some (some (.builtin "getset_descriptor.__get__")) ∧
    PySem.W.takesIn K (.builtin "object.__class__") = some true ∧ PySem.W.mroIn K (cl c) (.type "object") = some true
  fo : Nat → Nat → Bool
  fok : ∀ c n, fo c n = true → n < nat ∧ NoAttr K (cl c) (at_ n)
def En.fits (E : En) (c : Nat) (fs : List (Nat × D)) : Prop := E.co c = true ∧ ∀ p ∈ fs, E.fo c p.1 = true

mutual
inductive Rep (E : En) (S : Hp) (ρ : List Addr) : V → D → Prop
  | non : Rep E S ρ .non .non
  | bl (b : Bool) : Rep E S ρ (.bl b) (.bl b)
  | int (i : Int) : Rep E S ρ (.int i) (.int i)
  | str (x : Str) : Rep E S ρ (.str x) (.str x)
  | tup {a : Addr} {vs : List V} {ds : List D} : SqT E.K S a vs → Reps E S ρ vs ds → Rep E S ρ (.ref a) (.tup ds)
  | lst {a : Addr} {vs : List V} {ds : List D} : SqL E.K S a vs → Reps E S ρ vs ds → Rep E S ρ (.ref a) (.lst ds)
  | ins {a dx : Addr} {c : Nat} {fv : List (Str × V)} {fs : List (Nat × D)} : S a = some (.ins (E.cl c) dx fv) → E.fits c fs → RepF E S ρ fv fs → Rep E S ρ (.ref a) (.ins c fs)
  | ref {a : Addr} {n : Nat} : ρ[n]? = some a → Rep E S ρ (.ref a) (.ref n)
inductive Reps (E : En) (S : Hp) (ρ : List Addr) : List V → List D → Prop
  | nil : Reps E S ρ [] []
  | cons {v : V} {d : D} {vs : List V} {ds : List D} : Rep E S ρ v d → Reps E S ρ vs ds → Reps E S ρ (v :: vs) (d :: ds)
inductive RepF (E : En) (S : Hp) (ρ : List Addr) : List (Str × V) → List (Nat × D) → Prop
  | nil : RepF E S ρ [] []
  | cons {n : Nat} {v : V} {d : D} {fv : List (Str × V)} {fs : List (Nat × D)} : n < E.nat → Rep E S ρ v d → RepF E S ρ fv fs → RepF E S ρ ((E.at_ n, v) :: fv) ((n, d) :: fs)
end

structure Inc (S : Hp) (ρ : List Addr) (S' : Hp) (ρ' : List Addr) : Prop where
  sub : ∀ a o, S a = some o → S' a = some o
  pre : ∀ (n : Nat) a, ρ[n]? = some a → ρ'[n]? = some a
theorem Inc.refl (S : Hp) (ρ : List Addr) : Inc S ρ S ρ := ⟨fun _ _ h => h, fun _ _ h => h⟩
theorem Inc.trans {S S1 S2 : Hp} {ρ ρ1 ρ2 : List Addr} (a : Inc S ρ S1 ρ1) (b : Inc S1 ρ1 S2 ρ2) : Inc S ρ S2 ρ2 := ⟨fun x o h => b.sub x o (a.sub x o h), fun n x h => b.pre n x (a.pre n x h)⟩
theorem sqL_mono {K : PySem.W.Frag} {S S' : Hp} {a : Addr} {vs : List V} (k : ∀ a o, S a = some o → S' a = some o) (h : SqL K S a vs) : SqL K S' a vs := by
  rcases h with (h | ⟨o, h⟩) | h
  · exact .inl (.inl (k _ _ h))
  · exact .inl (.inr ⟨o, k _ _ h⟩)
  · exact .inr h
theorem sqT_mono {K : PySem.W.Frag} {S S' : Hp} {a : Addr} {vs : List V} (k : ∀ a o, S a = some o → S' a = some o) (h : SqT K S a vs) : SqT K S' a vs := by
  rcases h with (h | ⟨o, h⟩) | h
  · exact .inl (.inl (k _ _ h))
  · exact .inl (.inr ⟨o, k _ _ h⟩)
  · exact .inr h
section
variable {E : En} {S S' : Hp} {ρ ρ' : List Addr}
mutual
theorem Rep.mono (i : Inc S ρ S' ρ') : ∀ {v : V} {d : D}, Rep E S ρ v d → Rep E S' ρ' v d
  | _, _, .non => .non
  | _, _, .bl b => .bl b
  | _, _, .int n => .int n
  | _, _, .str x => .str x
  | _, _, .tup h r => .tup (sqT_mono i.sub h) (Reps.mono i r)
  | _, _, .lst h r => .lst (sqL_mono i.sub h) (Reps.mono i r)
  | _, _, .ins h f r => .ins (i.sub _ _ h) f (RepF.mono i r)
  | _, _, .ref h => .ref (i.pre _ _ h)
theorem Reps.mono (i : Inc S ρ S' ρ') : ∀ {v : List V} {d : List D}, Reps E S ρ v d → Reps E S' ρ' v d
  | _, _, .nil => .nil
  | _, _, .cons h r => .cons (Rep.mono i h) (Reps.mono i r)
theorem RepF.mono (i : Inc S ρ S' ρ') : ∀ {v : List (Str × V)} {d : List (Nat × D)}, RepF E S ρ v d → RepF E S' ρ' v d
  | _, _, .nil => .nil
  | _, _, .cons n h r => .cons n (Rep.mono i h) (RepF.mono i r)
end
theorem Reps.len : ∀ {v : List V} {d : List D}, Reps E S ρ v d → v.length = d.length
  | _, _, .nil => rfl
  | _, _, .cons _ r => by simp [Reps.len r]
theorem RepF.len : ∀ {v : List (Str × V)} {d : List (Nat × D)}, RepF E S ρ v d → v.length = d.length
  | _, _, .nil => rfl
  | _, _, .cons _ _ r => by simp [RepF.len r]
theorem Reps.append : ∀ {v w : List V} {d e : List D}, Reps E S ρ v d → Reps E S ρ w e → Reps E S ρ (v ++ w) (d ++ e)
  | _, _, _, _, .nil, s => s
  | _, _, _, _, .cons h r, s => .cons h (Reps.append r s)
theorem Reps.get : ∀ {v : List V} {d : List D} {i : Nat} {x : D}, Reps E S ρ v d → d[i]? = some x → ∃ y, v[i]? = some y ∧ Rep E S ρ y x
  | _, _, _, _, .nil, e => by simp at e
  | _, _, 0, _, .cons h _, e => by simp at e; subst e; exact ⟨_, rfl, h⟩
  | _, _, i + 1, x, .cons _ r, e => by
    obtain ⟨y, h1, h2⟩ := Reps.get (i := i) (x := x) r (by simpa using e)
    exact ⟨y, by simpa using h1, h2⟩
theorem Reps.get' : ∀ {v : List V} {d : List D} {i : Nat} {y : V}, Reps E S ρ v d → v[i]? = some y → ∃ x, d[i]? = some x ∧ Rep E S ρ y x
  | _, _, _, _, .nil, e => by simp at e
  | _, _, 0, _, .cons h _, e => by simp at e; subst e; exact ⟨_, rfl, h⟩
  | _, _, i + 1, x, .cons _ r, e => by
    obtain ⟨y, h1, h2⟩ := Reps.get' (i := i) (y := x) r (by simpa using e)
    exact ⟨y, by simpa using h1, h2⟩
theorem Reps.take : ∀ {v : List V} {d : List D} (n : Nat), Reps E S ρ v d → Reps E S ρ (v.take n) (d.take n)
  | _, _, 0, _ => .nil
  | _, _, _ + 1, .nil => .nil
  | _, _, n + 1, .cons r t => .cons r (Reps.take n t)
theorem Reps.drop : ∀ {v : List V} {d : List D} (n : Nat), Reps E S ρ v d → Reps E S ρ (v.drop n) (d.drop n)
  | _, _, 0, r => r
  | _, _, _ + 1, .nil => .nil
  | _, _, n + 1, .cons _ t => Reps.drop n t
theorem Reps.reverse : ∀ {v : List V} {d : List D}, Reps E S ρ v d → Reps E S ρ v.reverse d.reverse
  | _, _, .nil => .nil
  | _, _, .cons r t => by
    rw [List.reverse_cons, List.reverse_cons]
    exact (Reps.reverse t).append (.cons r .nil)
theorem Reps.eraseIdx : ∀ {v : List V} {d : List D} (n : Nat), Reps E S ρ v d → Reps E S ρ (v.eraseIdx n) (d.eraseIdx n)
  | _, _, _, .nil => .nil
  | _, _, 0, .cons _ t => t
  | _, _, n + 1, .cons r t => .cons r (Reps.eraseIdx n t)
theorem RepF.look {fv : List (Str × V)} : ∀ {fs : List (Nat × D)} {n : Nat} {d : D}, RepF E S ρ fv fs → n < E.nat → fs.lookup n = some d → ∃ v, fv.lookup (E.at_ n) = some v ∧ Rep E S ρ v d := by
  intro fs
  induction fs generalizing fv with
  | nil => intro n d h _ e; simp at e
  | cons p r ih =>
    intro n d h hn e
    cases h with
    | cons hm hv hr =>
      rename_i m v d' fv'
      by_cases q : n = m
      · subst q
        simp at e
        subst e
        exact ⟨v, by simp, hv⟩
      · have q' : (n == m) = false := by simpa using q
        rw [List.lookup_cons, q'] at e
        obtain ⟨v', h1, h2⟩ := ih hr hn e
        refine ⟨v', ?_, h2⟩
        have q2 : (E.at_ n == E.at_ m) = false := by
          rw [beq_eq_false_iff_ne]
          exact fun z => q (E.inj _ _ hn hm z)
        rw [List.lookup_cons, q2]
        exact h1
theorem RepF.put {fv : List (Str × V)} : ∀ {fs : List (Nat × D)} {n : Nat} {d : D} {v : V}, RepF E S ρ fv fs → n < E.nat → Rep E S ρ v d → RepF E S ρ (putF (E.at_ n) v fv) (putN n d fs) := by
  intro fs
  induction fs generalizing fv with
  | nil =>
    intro n d v h hn hv
    cases h
    exact .cons hn hv .nil
  | cons p r ih =>
    intro n d v h hn hv
    cases h with
    | cons hm hv' hr =>
      rename_i m v' d' fv'
      show RepF E S ρ (if E.at_ m = E.at_ n then (E.at_ m, v) :: fv' else (E.at_ m, v') :: putF (E.at_ n) v fv') (bif m == n then (m, d) :: r else (m, d') :: putN n d r)
      by_cases q : m = n
      · subst q
        rw [if_pos rfl]
        simp only [beq_self_eq_true, cond_true]
        exact .cons hm hv hr
      · have q' : (m == n) = false := by simpa using q
        rw [if_neg (fun z => q (E.inj _ _ hm hn z)), q']
        exact .cons hm hv' (ih hr hn hv)
theorem RepF.out {fv : List (Str × V)} {fs : List (Nat × D)} {f : Str} (h : RepF E S ρ fv fs) (hf : ∀ n, n < E.nat → E.at_ n ≠ f) : fv.lookup f = none := by
  induction fs generalizing fv with
  | nil => cases h; rfl
  | cons p r ih =>
    cases h with
    | cons hm hv hr =>
      rename_i m v' d' fv'
      have q2 : (f == E.at_ m) = false := by
        rw [beq_eq_false_iff_ne]
        exact fun z => hf m hm z.symm
      rw [List.lookup_cons, q2]
      exact ih hr
end

/-- the store of the objects that change -/
def MoRel (E : En) (S : Hp) (ρ : List Addr) (H : Hp) (a : Addr) : MO → Prop
  | .lst ds => ∃ vs, H a = some (.lst vs) ∧ Reps E S ρ vs ds
  | .ins c fs => ∃ dx fv, H a = some (.ins (E.cl c) dx fv) ∧ E.fits c fs ∧ RepF E S ρ fv fs
structure Gr (E : En) (ρ : List Addr) (S : Hp) (g : List MO) (H : Hp) : Prop where
  sub : ∀ a o, S a = some o → H a = some o
  len : ρ.length = g.length
  nd : ρ.Nodup
  off : ∀ a ∈ ρ, S a = none
  ob : ∀ (n : Nat) a m, ρ[n]? = some a → g[n]? = some m → MoRel E S ρ H a m

/-- the addresses that the frame owns -/
structure Bs where
  h : Addr → Prop
  o : Addr → Prop
instance : CoeFun Bs (fun _ => Addr → Prop) := ⟨Bs.h⟩
def OwP (σ : St) (l : List SV) (a : Addr) : Prop := ∃ (i : Nat), σ[i]? = some (some (.ref a)) ∧ ((∃ ds, l[i]? = some (.own ds)) ∨ ∃ c fs, l[i]? = some (.ob c fs))
def ObP (σ : St) (l : List SV) (a : Addr) : Prop := ∃ (i : Nat), σ[i]? = some (some (.ref a)) ∧ ∃ c fs, l[i]? = some (.ob c fs)
abbrev Ow (σ : St) (l : List SV) : Bs := ⟨OwP σ l, ObP σ l⟩
structure Sl (E : En) (ρ : List Addr) (S H : Hp) (σ : St) (l : List SV) : Prop where
  len : σ.length = l.length
  v : ∀ (i : Nat) d, l[i]? = some (.v d) → ∃ v, σ[i]? = some (some v) ∧ Rep E S ρ v d
  own : ∀ (i : Nat) ds, l[i]? = some (.own ds) → ∃ a vs, σ[i]? = some (some (.ref a)) ∧ H a = some (.lst vs) ∧ Reps E S ρ vs ds ∧ S a = none ∧ a ∉ ρ
  ob : ∀ (i : Nat) c fs, l[i]? = some (.ob c fs) → ∃ a dx fv, σ[i]? = some (some (.ref a)) ∧ H a = some (.ins (E.cl c) dx fv) ∧ E.fits c fs ∧ RepF E S ρ fv fs ∧ S a = none ∧ a ∉ ρ
  dist : ∀ (i j : Nat) a, i ≠ j → ((∃ ds, l[i]? = some (.own ds)) ∨ ∃ c fs, l[i]? = some (.ob c fs)) → ((∃ ds, l[j]? = some (.own ds)) ∨ ∃ c fs, l[j]? = some (.ob c fs)) → σ[i]? = some (some (.ref a)) → σ[j]? ≠ some (some (.ref a))

/-- what may have changed: the store, what was owned -/
structure Step (ρ : List Addr) (S : Hp) (B : Bs) (H : Hp) (ρ' : List Addr) (S' : Hp) (B' : Bs) (H' : Hp) : Prop where
  inc : Inc S ρ S' ρ'
  nρ : ∀ a ∈ ρ', a ∈ ρ ∨ H a = none
  nS : ∀ a o, S' a = some o → S a = some o ∨ H a = none ∨ B a
  nB : ∀ a, B' a → B a ∨ H a = none
  fr : ∀ a o, H a = some o → a ∉ ρ → ¬ B a → H' a = some o
  dom : ∀ a, H' a = none → H a = none
  nO : ∀ a, B'.o a → B.o a
section
variable {ρ ρ1 ρ2 : List Addr} {S S1 S2 H H1 H2 : Hp} {B B1 B2 : Bs}
theorem Step.refl : Step ρ S B H ρ S B H := ⟨.refl _ _, fun _ h => .inl h, fun _ _ h => .inl h, fun _ h => .inl h, fun _ _ h _ _ => h, fun _ h => h, fun _ h => h⟩
theorem Step.trans (a : Step ρ S B H ρ1 S1 B1 H1) (b : Step ρ1 S1 B1 H1 ρ2 S2 B2 H2) : Step ρ S B H ρ2 S2 B2 H2 where
  inc := a.inc.trans b.inc
  nρ := fun x h => by
    rcases b.nρ x h with h | h
    · exact a.nρ x h
    · exact .inr (a.dom x h)
  nS := fun x o h => by
    rcases b.nS x o h with h | h | h
    · exact a.nS x o h
    · exact .inr (.inl (a.dom x h))
    · rcases a.nB x h with h | h
      · exact .inr (.inr h)
      · exact .inr (.inl h)
  nB := fun x h => by
    rcases b.nB x h with h | h
    · exact a.nB x h
    · exact .inr (a.dom x h)
  fr := fun x o h n m => b.fr x o (a.fr x o h n m) (fun z => by
    rcases a.nρ x z with z | z
    · exact n z
    · rw [h] at z; cases z) fun z => by
    rcases a.nB x z with z | z
    · exact m z
    · rw [h] at z; cases z
  dom := fun x h => a.dom x (b.dom x h)
  nO := fun x h => a.nO x (b.nO x h)
end

structure Wd (E : En) (ρ : List Addr) (S : Hp) (s : Pi.S) (σ : St) (H : Hp) : Prop where
  gr : Gr E ρ S s.g H
  sl : Sl E ρ S H σ s.l
end Pi
namespace Pi
open PySem L2

/-- what stands behind, seen from where it began -/
def Post (E : En) (W : WX) (σ : St) (ρ : List Addr) (S : Hp) (l : List SV) (H : Hp) (r : R D) (Q : VK) : Prop := match r with
  | .ok d s' => ∀ v ρ' S' H', Step ρ S (Ow σ l) H ρ' S' (Ow σ s'.l) H' → Wd E ρ' S' s' σ H' → Rep E S' ρ' v d → Q v H'
  | .ex c fs s' => ∀ ρ' S' H' x fv, Step ρ S (Ow σ l) H ρ' S' (Ow σ s'.l) H' → Wd E ρ' S' s' σ H' → S' x = some (.xd fv) → RepF E S' ρ' fv fs → W (.ref (E.cl c)) (some x) σ H'
  | .no => False
def PostA (E : En) (W : WX) (σ : St) (ρ : List Addr) (S : Hp) (l : List SV) (H : Hp) (r : R (List D)) (Q : List V → Hp → Prop) : Prop := match r with
  | .ok d s' => ∀ v ρ' S' H', Step ρ S (Ow σ l) H ρ' S' (Ow σ s'.l) H' → Wd E ρ' S' s' σ H' → Reps E S' ρ' v d → Q v H'
  | .ex c fs s' => ∀ ρ' S' H' x fv, Step ρ S (Ow σ l) H ρ' S' (Ow σ s'.l) H' → Wd E ρ' S' s' σ H' → S' x = some (.xd fv) → RepF E S' ρ' fv fs → W (.ref (E.cl c)) (some x) σ H'
  | .no => False
def tI (E : En) (W : WX) (m : Pi.S → R D) : TE := fun σ H Q => ∃ ρ S s, Wd E ρ S s σ H ∧ Post E W σ ρ S s.l H (m s) Q
def tIA (E : En) (W : WX) (m : Pi.S → R (List D)) : TA := fun σ H Q => ∃ ρ S s, Wd E ρ S s σ H ∧ PostA E W σ ρ S s.l H (m s) Q

section
variable {E : En} {W : WX} {σ : St} {ρ ρ1 : List Addr} {S S1 H H1 : Hp} {l l1 : List SV} {Q Q' : VK} {s s1 : Pi.S}
theorem Post.step {r : R D} (st : Step ρ S (Ow σ l) H ρ1 S1 (Ow σ l1) H1) (p : Post E W σ ρ S l H r Q) : Post E W σ ρ1 S1 l1 H1 r Q := by
  cases r with
  | ok d s' => exact fun v ρ' S' H' st' => p v ρ' S' H' (st.trans st')
  | ex c fs s' => exact fun ρ' S' H' x fv st' => p ρ' S' H' x fv (st.trans st')
  | no => exact p
theorem PostA.step {r : R (List D)} {Q : List V → Hp → Prop} (st : Step ρ S (Ow σ l) H ρ1 S1 (Ow σ l1) H1) (p : PostA E W σ ρ S l H r Q) : PostA E W σ ρ1 S1 l1 H1 r Q := by
  cases r with
  | ok d s' => exact fun v ρ' S' H' st' => p v ρ' S' H' (st.trans st')
  | ex c fs s' => exact fun ρ' S' H' x fv st' => p ρ' S' H' x fv (st.trans st')
  | no => exact p
theorem Post.imp {r : R D} (p : Post E W σ ρ S l H r Q) (h : ∀ v H, Q v H → Q' v H) : Post E W σ ρ S l H r Q' := by
  cases r with
  | ok d s' => exact fun v ρ' S' H' st w r => h _ _ (p v ρ' S' H' st w r)
  | ex c fs s' => exact p
  | no => exact p
/-- the place where one stands behind an expression -/
structure At (E : En) (ρ : List Addr) (S : Hp) (ρ1 : List Addr) (S1 : Hp) (s1 : Pi.S) (σ : St) (H1 : Hp) : Prop where
  inc : Inc S ρ S1 ρ1
  wd : Wd E ρ1 S1 s1 σ H1
theorem Post.bind {r : R D} {k : D → Pi.S → R D} (p : Post E W σ ρ S l H (r.bind k) Q) :
    Post E W σ ρ S l H r (fun x H1 => ∃ ρ1 S1 s1 d, At E ρ S ρ1 S1 s1 σ H1 ∧ Rep E S1 ρ1 x d ∧ Post E W σ ρ1 S1 s1.l H1 (k d s1) Q) := by
  cases r with
  | ok d s' => exact fun v ρ' S' H' st w r => ⟨ρ', S', s', d, ⟨st.inc, w⟩, r, Post.step st p⟩
  | ex c fs s' => exact p
  | no => exact p
theorem Post.bindA {r : R (List D)} {k : List D → Pi.S → R D} (p : Post E W σ ρ S l H (r.bind k) Q) :
    PostA E W σ ρ S l H r (fun x H1 => ∃ ρ1 S1 s1 d, At E ρ S ρ1 S1 s1 σ H1 ∧ Reps E S1 ρ1 x d ∧ Post E W σ ρ1 S1 s1.l H1 (k d s1) Q) := by
  cases r with
  | ok d s' => exact fun v ρ' S' H' st w r => ⟨ρ', S', s', d, ⟨st.inc, w⟩, r, Post.step st p⟩
  | ex c fs s' => exact p
  | no => exact p
theorem PostA.bind {r : R D} {k : D → Pi.S → R (List D)} {Q : List V → Hp → Prop} (p : PostA E W σ ρ S l H (r.bind k) Q) :
    Post E W σ ρ S l H r (fun x H1 => ∃ ρ1 S1 s1 d, At E ρ S ρ1 S1 s1 σ H1 ∧ Rep E S1 ρ1 x d ∧ PostA E W σ ρ1 S1 s1.l H1 (k d s1) Q) := by
  cases r with
  | ok d s' => exact fun v ρ' S' H' st w r => ⟨ρ', S', s', d, ⟨st.inc, w⟩, r, PostA.step st p⟩
  | ex c fs s' => exact p
  | no => exact p
theorem PostA.bindA {r : R (List D)} {k : List D → Pi.S → R (List D)} {Q : List V → Hp → Prop} (p : PostA E W σ ρ S l H (r.bind k) Q) :
    PostA E W σ ρ S l H r (fun x H1 => ∃ ρ1 S1 s1 d, At E ρ S ρ1 S1 s1 σ H1 ∧ Reps E S1 ρ1 x d ∧ PostA E W σ ρ1 S1 s1.l H1 (k d s1) Q) := by
  cases r with
  | ok d s' => exact fun v ρ' S' H' st w r => ⟨ρ', S', s', d, ⟨st.inc, w⟩, r, PostA.step st p⟩
  | ex c fs s' => exact p
  | no => exact p
/-- nothing changed -/
theorem Post.here {d : D} {v : V} (w : Wd E ρ S s σ H) (r : Rep E S ρ v d) (p : Post E W σ ρ S s.l H (.ok d s) Q) : Q v H := p v ρ S H Step.refl w r
theorem PostA.here {d : List D} {v : List V} {Q : List V → Hp → Prop} (w : Wd E ρ S s σ H) (r : Reps E S ρ v d) (p : PostA E W σ ρ S s.l H (.ok d s) Q) : Q v H := p v ρ S H Step.refl w r

/-! ### a new object -/
theorem Inc.new {o : HO} {p : Addr} (hp : S p = none) : Inc S ρ (upd S p o) ρ := ⟨fun a u e => by rw [upd_ne (ne_of_none e hp)]; exact e, fun _ _ h => h⟩
theorem Gr.tracked (w : Gr E ρ S s.g H) {n : Nat} {a : Addr} (h : ρ[n]? = some a) : ∃ o, H a = some o := by
  have hl : n < s.g.length := by rw [← w.len]; exact (List.getElem?_eq_some_iff.mp h).1
  have := w.ob n a _ h (List.getElem?_eq_getElem hl)
  cases hm : s.g[n] with
  | lst ds => rw [hm] at this; obtain ⟨vs, e, _⟩ := this; exact ⟨_, e⟩
  | ins c fs => rw [hm] at this; obtain ⟨dx, fv, e, _⟩ := this; exact ⟨_, e⟩
theorem Gr.mem_tracked (w : Gr E ρ S s.g H) {a : Addr} (h : a ∈ ρ) : ∃ o, H a = some o := by
  obtain ⟨n, hn⟩ := List.mem_iff_getElem?.mp h
  exact w.tracked hn
theorem Gr.fresh (w : Gr E ρ S s.g H) {p : Addr} (hp : H p = none) : S p = none ∧ p ∉ ρ := by
  refine ⟨?_, fun z => ?_⟩
  · cases e : S p with
    | none => rfl
    | some o => rw [w.sub _ _ e] at hp; cases hp
  · obtain ⟨o, e⟩ := w.mem_tracked z
    rw [hp] at e; cases e
theorem MoRel.mono {m : MO} {a : Addr} (i : Inc S ρ S1 ρ1) (k : ∀ o, H a = some o → H1 a = some o) (h : MoRel E S ρ H a m) : MoRel E S1 ρ1 H1 a m := by
  cases m with
  | lst ds => obtain ⟨vs, e, r⟩ := h; exact ⟨vs, k _ e, r.mono i⟩
  | ins c fs => obtain ⟨dx, fv, e, f, r⟩ := h; exact ⟨dx, fv, k _ e, f, r.mono i⟩
theorem Gr.new (w : Gr E ρ S s.g H) {p : Addr} {o : HO} (hp : H p = none) : Gr E ρ (upd S p o) s.g (upd H p o) := by
  obtain ⟨h1, h2⟩ := w.fresh hp
  refine ⟨fun a u e => ?_, w.len, w.nd, fun a ha => ?_, fun n a m e1 e2 => ?_⟩
  · by_cases q : a = p
    · subst q; rw [upd_same] at e; rw [upd_same]; exact e
    · rw [upd_ne q] at e; rw [upd_ne q]; exact w.sub _ _ e
  · rw [upd_ne (show a ≠ p from fun z => h2 (z ▸ ha))]; exact w.off a ha
  · have hm : a ∈ ρ := List.mem_iff_getElem?.mpr ⟨n, e1⟩
    exact (w.ob n a m e1 e2).mono (.new h1) fun u q => by rw [upd_ne (show a ≠ p from fun z => h2 (z ▸ hm))]; exact q
theorem Sl.keep (w : Sl E ρ S H σ l) (i : Inc S ρ S1 ρ1) (k : ∀ a, Ow σ l a → ∀ o, H a = some o → H1 a = some o) (k2 : ∀ a, Ow σ l a → H a ≠ none → S a = none → S1 a = none) (k3 : ∀ a, Ow σ l a → H a ≠ none → a ∉ ρ → a ∉ ρ1) : Sl E ρ1 S1 H1 σ l := by
  refine ⟨w.len, fun j d e => ?_, fun j ds e => ?_, fun j c fs e => ?_, w.dist⟩
  · obtain ⟨v, h1, h2⟩ := w.v j d e
    exact ⟨v, h1, h2.mono i⟩
  · obtain ⟨a, vs, h1, h2, h3, h4, h5⟩ := w.own j ds e
    have o : Ow σ l a := ⟨j, h1, .inl ⟨ds, e⟩⟩
    have ne : H a ≠ none := by rw [h2]; exact fun z => nomatch z
    exact ⟨a, vs, h1, k a o _ h2, h3.mono i, k2 a o ne h4, k3 a o ne h5⟩
  · obtain ⟨a, dx, fv, h1, h2, hf, h3, h4, h5⟩ := w.ob j c fs e
    have o : Ow σ l a := ⟨j, h1, .inr ⟨c, fs, e⟩⟩
    have ne : H a ≠ none := by rw [h2]; exact fun z => nomatch z
    exact ⟨a, dx, fv, h1, k a o _ h2, hf, h3.mono i, k2 a o ne h4, k3 a o ne h5⟩
theorem Wd.new (w : Wd E ρ S s σ H) {p : Addr} {o : HO} (hp : H p = none) : Wd E ρ (upd S p o) s σ (upd H p o) := by
  obtain ⟨h1, h2⟩ := w.gr.fresh hp
  refine ⟨w.gr.new hp, w.sl.keep (.new h1) (fun a _ u e => by rw [upd_ne (ne_of_none e hp)]; exact e) (fun a _ ne e => ?_) fun _ _ _ h => h⟩
  rw [upd_ne (show a ≠ p from fun z => ne (z ▸ hp))]; exact e
theorem Step.new {B : Bs} (w : Gr E ρ S s.g H) {p : Addr} {o : HO} (hp : H p = none) : Step ρ S B H ρ (upd S p o) B (upd H p o) := by
  obtain ⟨h1, h2⟩ := w.fresh hp
  refine ⟨.new h1, fun _ h => .inl h, fun a u e => ?_, fun _ h => .inl h, fun a u e _ _ => by rw [upd_ne (ne_of_none e hp)]; exact e, fun a e => ?_, fun _ h => h⟩
  · by_cases q : a = p
    · subst q; exact .inr (.inl hp)
    · rw [upd_ne q] at e; exact .inl e
  · by_cases q : a = p
    · subst q; exact hp
    · rw [upd_ne q] at e; exact e

/-! ### operands -/
inductive Opd (E : En) (S : Hp) (ρ : List Addr) (H : Hp) : V → D → Prop
  | rep {v : V} {d : D} : Rep E S ρ v d → Opd E S ρ H v d
  | cell {a : Addr} {vs : List V} {ds : List D} : H a = some (.lst vs) → Reps E S ρ vs ds → Opd E S ρ H (.ref a) (.lst ds)
theorem Opd.view (w : Gr E ρ S s.g H) {v : V} {d : D} (r : Rep E S ρ v d) : Opd E S ρ H v (view s.g d) := by
  cases r with
  | ref h =>
    rename_i a n
    show Opd E S ρ H (.ref a) (match s.g[n]? with
      | some (.lst ds) => .lst ds
      | _ => .ref n)
    split
    · rename_i ds e
      obtain ⟨vs, h1, h2⟩ := w.ob n a _ h e
      exact .cell h1 h2
    · exact .rep (.ref h)
  | non => exact .rep .non
  | bl b => exact .rep (.bl b)
  | int b => exact .rep (.int b)
  | str b => exact .rep (.str b)
  | tup a b => exact .rep (.tup a b)
  | lst a b => exact .rep (.lst a b)
  | ins a b c => exact .rep (.ins a b c)
theorem Opd.lst {v : V} {ds : List D} (w : Gr E ρ S s.g H) (h : Opd E S ρ H v (.lst ds)) : ∃ a vs, v = .ref a ∧ SqL E.K H a vs ∧ Reps E S ρ vs ds := by
  cases h with
  | rep r => cases r with | lst h r => exact ⟨_, _, rfl, sqL_mono w.sub h, r⟩
  | cell h r => exact ⟨_, _, rfl, SqL.of h, r⟩
theorem Opd.tup {v : V} {ds : List D} (w : Gr E ρ S s.g H) (h : Opd E S ρ H v (.tup ds)) : ∃ a vs, v = .ref a ∧ SqT E.K H a vs ∧ Reps E S ρ vs ds := by
  cases h with
  | rep r => cases r with | tup h r => exact ⟨_, _, rfl, sqT_mono w.sub h, r⟩
theorem Opd.int {v : V} {i : Int} (h : Opd E S ρ H v (.int i)) : v = .int i := by
  cases h with | rep r => cases r; rfl
theorem Opd.bl {v : V} {i : Bool} (h : Opd E S ρ H v (.bl i)) : v = .bl i := by
  cases h with | rep r => cases r; rfl
theorem Opd.str {v : V} {i : Str} (h : Opd E S ρ H v (.str i)) : v = .str i := by
  cases h with | rep r => cases r; rfl
theorem Opd.non {v : V} (h : Opd E S ρ H v .non) : v = .non := by
  cases h with | rep r => cases r; rfl
/-- a value is handed on: it stands already, or it is a new list, a new tuple -/
structure Give (E : En) (S : Hp) (ρ : List Addr) (H : Hp) (d : D) (Q : VK) : Prop where
  old : ∀ v, Rep E S ρ v d → Q v H
  lst : ∀ p vs ds, d = .lst ds → Reps E S ρ vs ds → H p = none → Q (.ref p) (upd H p (.lst vs))
  tup : ∀ p vs ds, d = .tup ds → Reps E S ρ vs ds → H p = none → Q (.ref p) (upd H p (.tup vs))
theorem Post.give {d : D} (w : Wd E ρ S s σ H) (p : Post E W σ ρ S s.l H (.ok d s) Q) : Give E S ρ H d Q := by
  refine ⟨fun v r => p.here w r, fun q vs ds e r hq => ?_, fun q vs ds e r hq => ?_⟩
  · subst e
    exact p _ ρ _ _ (Step.new w.gr hq) (w.new hq) (.lst (SqL.of upd_same) (r.mono (.new (w.gr.fresh hq).1)))
  · subst e
    exact p _ ρ _ _ (Step.new w.gr hq) (w.new hq) (.tup (SqT.of upd_same) (r.mono (.new (w.gr.fresh hq).1)))
theorem Post.of {x : Option D} (p : Post E W σ ρ S l H (R.of x s) Q) : ∃ d, x = some d ∧ Post E W σ ρ S l H (.ok d s) Q := by
  cases x with
  | none => exact False.elim p
  | some d => exact ⟨d, rfl, p⟩
end
end Pi
namespace Pi
open PySem L2

theorem le_line {n : Nat} (h : n ≤ big) : n ≤ sizeLine := Nat.le_trans h (by decide)
theorem lt_line {n : Nat} (h : n < big) : n < sizeLine := Nat.lt_of_lt_of_le h (by decide)
theorem pe_le {X : Cx} {e : Expr} {t t' : TE} (h : PE X e t) (k : ∀ σ H Q, t' σ H Q → t σ H Q) : PE X e t' := ⟨fun pins s σ H Q I w => h.run pins s σ H Q I (k σ H Q w)⟩
theorem pt_le {X : Cx} {e : Expr} {t t' : TT} (h : PT X e t) (k : ∀ σ H Q, t' σ H Q → t σ H Q) : PT X e t' := ⟨fun pins s σ H Q I w => h.run pins s σ H Q I (k σ H Q w)⟩
theorem pw_le {X : Cx} {e : Expr} {t t' : TT} (h : PW X e t) (k : ∀ σ H Q, t' σ H Q → t σ H Q) : PW X e t' := ⟨fun wh pins s σ H Q I w => h.run wh pins s σ H Q I (k σ H Q w)⟩
theorem pa_le {X : Cx} {e : List Expr} {t t' : TA} (h : PA X e t) (k : ∀ σ H Q, t' σ H Q → t σ H Q) : PA X e t' := ⟨fun p pins s σ H Q I w => h.run p pins s σ H Q I (k σ H Q w)⟩
theorem po_le {X : Cx} {e : Option Expr} {t t' : TO} (h : PO X e t) (k : ∀ σ H Q, t' σ H Q → t σ H Q) : PO X e t' := ⟨fun pins s σ H Q I w => h.run pins s σ H Q I (k σ H Q w)⟩

/-- what the derivations speak of -/
structure Cn where
  E : En
  o : O
  W : WX
abbrev PEI (c : Cn) (X : Cx) (e : Expr) (t : T) : Prop := PE X e (tI c.E c.W (ev c.o t))
abbrev PTI (c : Cn) (X : Cx) (e : Expr) (t : T) : Prop := PT X e (tB (tI c.E c.W (ev c.o t)))
abbrev PWI (c : Cn) (X : Cx) (e : Expr) (t : T) : Prop := PW X e (tB (tI c.E c.W (ev c.o t)))
abbrev PAI (c : Cn) (X : Cx) (e : List Expr) (t : T) : Prop := PA X e (tIA c.E c.W (evA c.o t))

section
variable {c : Cn} {X : Cx} {e a b d : Expr} {ta tb td : T} {pos : Pos}

/-! ### names, constants -/
theorem pi_v (i : Nat) {x : Str} {pos : Pos} (hN : X.N[i]? = some x := by rfl) (hv : Vis X.env.scope x := by first | exact Or.inl rfl | exact Or.inr (Or.inl rfl) | exact Or.inr (Or.inr rfl)) (hd : (x == ("__debug__" : Str)) = false := by decide)
    (hcd : (x == ("__classdict__" : Str)) = false := by decide) : PEI c X (.Name x pos) (.v i) :=
  pe_le (pe_var hN hv hd hcd) fun σ H Q h => by
    obtain ⟨ρ, S, s, w, p⟩ := h
    unfold ev at p
    split at p
    · rename_i d e
      obtain ⟨v, h1, h2⟩ := w.sl.v i d e
      exact ⟨v, h1, p.here w h2⟩
    · exact p.elim
theorem pi_c {x : D} {v : V} (h : PE X e (tC v)) (hr : ∀ S ρ, Rep c.E S ρ v x) : PEI c X e (.c x) :=
  pe_le h fun σ H Q h => by
    obtain ⟨ρ, S, s, w, p⟩ := h
    exact Post.here w (hr _ _) p
theorem pi_int {i : Int} {j pos} : PEI c X (.Constant (.int i) j pos) (.c (.int i)) := pi_c pe_int fun _ _ => .int i
theorem pi_bl {i : Bool} {j pos} : PEI c X (.Constant (.bool i) j pos) (.c (.bl i)) := pi_c pe_bl fun _ _ => .bl i
theorem pi_str {i : Str} {j pos} : PEI c X (.Constant (.str i) j pos) (.c (.str i)) := pi_c pe_str fun _ _ => .str i
theorem pi_non {j pos} : PEI c X (.Constant .none j pos) (.c .non) := pi_c pe_non fun _ _ => .non
/-- a constant of the module -/
theorem pi_gl {x : Str} {v : V} {u : Value} {z : D} {pos : Pos} (hg : Gl X x) (hm : X.mg x = some u) (r : RelV v u) (hr : ∀ S ρ, Rep c.E S ρ v z) (hd : (x == ("__debug__" : Str)) = false := by decide) : PEI c X (.Name x pos) (.gl z) :=
  pe_le (pe_glob hg hm r hd) fun σ H Q h => by
    obtain ⟨ρ, S, s, w, p⟩ := h
    exact Post.here w (hr _ _) p

/-! ### operators -/
def rOp (E : En) (k : Op) : R2 := fun x y H Q => ∃ ρ S g d1 d2 z, Gr E ρ S g H ∧ Opd E S ρ H x d1 ∧ Opd E S ρ H y d2 ∧ op2V k d1 d2 = some z ∧ Give E S ρ H z Q
theorem op2_le {k : Op} {σ : St} {H : Hp} {Q : VK} (h : tI c.E c.W (ev c.o (.op2 k ta tb)) σ H Q) : tOp (rOp c.E k) (tI c.E c.W (ev c.o ta)) (tI c.E c.W (ev c.o tb)) σ H Q := by
  obtain ⟨ρ, S, s, w, p⟩ := h
  refine ⟨ρ, S, s, w, (Post.bind p).imp ?_⟩
  rintro x H1 ⟨ρ1, S1, s1, d1, a1, r1, p1⟩
  refine ⟨ρ1, S1, s1, a1.wd, (Post.bind p1).imp ?_⟩
  rintro y H2 ⟨ρ2, S2, s2, d2, a2, r2, p2⟩
  obtain ⟨z, e, p3⟩ := Post.of p2
  exact ⟨ρ2, S2, s2.g, _, _, z, a2.wd.gr, Opd.view (s := s2) a2.wd.gr (r1.mono a2.inc), Opd.view (s := s2) a2.wd.gr r2, e, Post.give a2.wd p3⟩
theorem pi_bin {op : Operator} {k : Op} (ho : OpR X (binaryOp op) (rOp c.E k)) (ha : PEI c X a ta) (hb : PEI c X b tb) : PEI c X (.BinOp a op b pos) (.op2 k ta tb) :=
  pe_le (pe_op ho ha hb) fun _ _ _ => op2_le
theorem pi_cmp {op : CmpOp} {k : Op} (ho : OpR X (compareOp op) (rOp c.E k)) (ha : PEI c X a ta) (hb : PEI c X b tb) (hm : behindInMarks op b = false) : PEI c X (.Compare a [op] [b] pos) (.op2 k ta tb) :=
  pe_le (pe_cmpR ho ha hb hm) fun _ _ _ => op2_le
theorem pit_cmp {op : CmpOp} {k : Op} (ho : OpR X (compareOp op) (rOp c.E k)) (ha : PEI c X a ta) (hb : PEI c X b tb) (hm : behindInMarks op b = false) : PTI c X (.Compare a [op] [b] pos) (.op2 k ta tb) :=
  pt_le (pt_cmpR ho ha hb hm) fun _ _ _ => op2_le
theorem ch_le {k k' : Op} {σ : St} {H : Hp} {Q : VK} (h : tI c.E c.W (ev c.o (.ch k k' ta tb td)) σ H Q) : tChain (rOp c.E k) (rOp c.E k') (tI c.E c.W (ev c.o ta)) (tI c.E c.W (ev c.o tb)) (tI c.E c.W (ev c.o td)) σ H Q := by
  obtain ⟨ρ, S, s, w, p⟩ := h
  refine ⟨ρ, S, s, w, (Post.bind p).imp ?_⟩
  rintro x H1 ⟨ρ1, S1, s1, d1, a1, r1, p1⟩
  refine ⟨ρ1, S1, s1, a1.wd, (Post.bind p1).imp ?_⟩
  rintro y H2 ⟨ρ2, S2, s2, d2, a2, r2, p2⟩
  split at p2
  · rename_i e
    refine ⟨ρ2, S2, s2.g, _, _, .bl true, a2.wd.gr, Opd.view (s := s2) a2.wd.gr (r1.mono a2.inc), Opd.view (s := s2) a2.wd.gr r2, e, ⟨fun v r => ?_, fun _ _ _ z => (nomatch z), fun _ _ _ z => (nomatch z)⟩⟩
    cases r
    refine ⟨true, rfl, ?_⟩
    rw [if_pos rfl]
    refine ⟨ρ2, S2, s2, a2.wd, (Post.bind p2).imp ?_⟩
    rintro z H3 ⟨ρ3, S3, s3, d3, a3, r3, p3⟩
    obtain ⟨z', e', p4⟩ := Post.of p3
    exact ⟨ρ3, S3, s3.g, _, _, z', a3.wd.gr, Opd.view (s := s3) a3.wd.gr (r2.mono a3.inc), Opd.view (s := s3) a3.wd.gr r3, e', Post.give a3.wd p4⟩
  · rename_i e
    refine ⟨ρ2, S2, s2.g, _, _, .bl false, a2.wd.gr, Opd.view (s := s2) a2.wd.gr (r1.mono a2.inc), Opd.view (s := s2) a2.wd.gr r2, e, ⟨fun v r => ?_, fun _ _ _ z => (nomatch z), fun _ _ _ z => (nomatch z)⟩⟩
    cases r
    refine ⟨false, rfl, ?_⟩
    rw [if_neg Bool.false_ne_true]
    exact Post.here a2.wd (.bl false) p2
  · exact p2.elim
end

/-! ### what the operators do -/
section
variable {X : Cx} {E : En}
theorem opi_add : OpR X (binaryOp .Add) (rOp E .add) := by
  intro pins s σ H x y v u Q I rx ry h
  obtain ⟨ρ, S, g, d1, d2, z, w, h1, h2, e, gv⟩ := h
  cases d1 <;> cases d2 <;> first
    | (cases (show (none : Option D) = some z from e); done)
    | skip
  · cases h1.int
    cases h2.int
    cases e
    exact op_add pins s σ H _ _ v u Q I rx ry ⟨_, _, rfl, rfl, gv.old _ (.int _)⟩
  · cases h1.str
    cases h2.str
    rename_i i j
    cases hb : decide (i.length + j.length ≤ big) with
    | true =>
      have e' : (bif decide (i.length + j.length ≤ big) then some (D.str (i ++ j)) else none) = some z := e
      rw [hb] at e'
      cases e'
      exact op_add_str pins s σ H _ _ v u Q I rx ry ⟨_, _, rfl, rfl, le_line (of_decide_eq_true hb), gv.old _ (.str _)⟩
    | false =>
      have e' : (bif decide (i.length + j.length ≤ big) then some (D.str (i ++ j)) else none) = some z := e
      rw [hb] at e'
      cases e'
theorem i2V_inv {f : Int → Int → Option D} {a b : D} {z : D} (h : i2V f a b = some z) : ∃ i j, a = .int i ∧ b = .int j ∧ f i j = some z := by
  cases a <;> cases b <;> first
    | (cases (show (none : Option D) = some z from h); done)
    | exact ⟨_, _, rfl, rfl, h⟩
theorem bif_inv {α : Type} {b : Bool} {x z : α} (h : (bif b then some x else none) = some z) : b = true ∧ x = z := by
  cases b with
  | true => exact ⟨rfl, by cases h; rfl⟩
  | false => cases h
theorem opi_i2 {f : Value → Value → Sem Value} {C : Int → Int → Prop} {g : Int → Int → V} {k : Op} (ho : OpR X f (L2.rI C g))
    (hk : ∀ a b z, op2V k a b = some z → ∃ i j, a = .int i ∧ b = .int j ∧ C i j ∧ ∀ S ρ, Rep E S ρ (g i j) z) : OpR X f (rOp E k) := by
  intro pins s σ H x y v u Q I rx ry h
  obtain ⟨ρ, S, m, d1, d2, z, w, h1, h2, e, gv⟩ := h
  obtain ⟨i, j, rfl, rfl, hc, hr⟩ := hk _ _ _ e
  cases h1.int
  cases h2.int
  exact ho pins s σ H _ _ v u Q I rx ry ⟨i, j, rfl, rfl, hc, gv.old _ (hr _ _)⟩
theorem opi_i20 {f : Value → Value → Sem Value} {g : Int → Int → V} {k : Op} (ho : OpR X f (rI0 g))
    (hk : ∀ a b z, op2V k a b = some z → ∃ i j, a = .int i ∧ b = .int j ∧ ∀ S ρ, Rep E S ρ (g i j) z) : OpR X f (rOp E k) := by
  intro pins s σ H x y v u Q I rx ry h
  obtain ⟨ρ, S, m, d1, d2, z, w, h1, h2, e, gv⟩ := h
  obtain ⟨i, j, rfl, rfl, hr⟩ := hk _ _ _ e
  cases h1.int
  cases h2.int
  exact ho pins s σ H _ _ v u Q I rx ry ⟨i, j, rfl, rfl, gv.old _ (hr _ _)⟩
theorem opi_sub : OpR X (binaryOp .Sub) (rOp E .sub) := opi_i20 op_sub fun a b z h => by
  obtain ⟨i, j, rfl, rfl, h⟩ := i2V_inv h
  cases h
  exact ⟨i, j, rfl, rfl, fun _ _ => .int _⟩
theorem opi_lt : OpR X (compareOp .Lt) (rOp E .lt) := opi_i20 op_lt fun a b z h => by
  obtain ⟨i, j, rfl, rfl, h⟩ := i2V_inv h
  cases h
  exact ⟨i, j, rfl, rfl, fun _ _ => .bl _⟩
theorem opi_le : OpR X (compareOp .LtE) (rOp E .le) := opi_i20 op_le fun a b z h => by
  obtain ⟨i, j, rfl, rfl, h⟩ := i2V_inv h
  cases h
  exact ⟨i, j, rfl, rfl, fun _ _ => .bl _⟩
theorem opi_gt : OpR X (compareOp .Gt) (rOp E .gt) := opi_i20 op_gt fun a b z h => by
  obtain ⟨i, j, rfl, rfl, h⟩ := i2V_inv h
  cases h
  exact ⟨i, j, rfl, rfl, fun _ _ => .bl _⟩
theorem opi_ge : OpR X (compareOp .GtE) (rOp E .ge) := opi_i20 op_ge fun a b z h => by
  obtain ⟨i, j, rfl, rfl, h⟩ := i2V_inv h
  cases h
  exact ⟨i, j, rfl, rfl, fun _ _ => .bl _⟩
theorem small64_ok {i : Int} (h : small64 i = true) : -(2 ^ 64) < i ∧ i < 2 ^ 64 := by
  unfold small64 at h
  rw [Bool.and_eq_true] at h
  exact ⟨of_decide_eq_true h.1, of_decide_eq_true h.2⟩
theorem opi_mulL : OpR X (binaryOp .Mult) (rOp E .mulL) := opi_i2 op_mul fun a b z h => by
  obtain ⟨i, j, rfl, rfl, h⟩ := i2V_inv h
  obtain ⟨h1, rfl⟩ := bif_inv h
  exact ⟨i, j, rfl, rfl, .inl (small64_ok h1), fun _ _ => .int _⟩
theorem opi_mulR : OpR X (binaryOp .Mult) (rOp E .mulR) := opi_i2 op_mul fun a b z h => by
  obtain ⟨i, j, rfl, rfl, h⟩ := i2V_inv h
  obtain ⟨h1, rfl⟩ := bif_inv h
  exact ⟨i, j, rfl, rfl, .inr (small64_ok h1), fun _ _ => .int _⟩
theorem opi_fdiv : OpR X (binaryOp .FloorDiv) (rOp E .fdiv) := opi_i2 op_fdiv fun a b z h => by
  obtain ⟨i, j, rfl, rfl, h⟩ := i2V_inv h
  obtain ⟨h1, rfl⟩ := bif_inv h
  rw [Bool.and_eq_true] at h1
  exact ⟨i, j, rfl, rfl, ⟨of_decide_eq_true h1.1, of_decide_eq_true h1.2⟩, fun _ _ => .int _⟩
theorem opi_mod : OpR X (binaryOp .Mod) (rOp E .mod) := opi_i2 op_mod fun a b z h => by
  obtain ⟨i, j, rfl, rfl, h⟩ := i2V_inv h
  obtain ⟨h1, rfl⟩ := bif_inv h
  exact ⟨i, j, rfl, rfl, of_decide_eq_true h1, fun _ _ => .int _⟩
theorem opi_pow : OpR X (binaryOp .Pow) (rOp E .pow) := opi_i2 op_pow fun a b z h => by
  obtain ⟨i, j, rfl, rfl, h⟩ := i2V_inv h
  obtain ⟨h1, rfl⟩ := bif_inv h
  rw [Bool.and_eq_true, Bool.and_eq_true] at h1
  exact ⟨i, j, rfl, rfl, ⟨of_decide_eq_true h1.1.1, of_decide_eq_true h1.1.2, of_decide_eq_true h1.2⟩, fun _ _ => .int _⟩

/-! equality -/
section
variable {S H : Hp} {ρ : List Addr}
mutual
theorem Rep.dp (hs : ∀ a o, S a = some o → H a = some o) : ∀ {v : V} {d : D} {p : PyData}, Rep E S ρ v d → toPy d = some p → Dp E.K H v p
  | _, _, _, .non, h => by cases h; exact .non
  | _, _, _, .bl b, h => by cases h; exact .bl b
  | _, _, _, .int i, h => by cases h; exact .int i
  | _, _, _, .str i, h => by cases h; exact .str i
  | _, .tup ds, p, .tup h r, e => by
    unfold toPy at e
    cases q : toPys ds with
    | none => rw [q] at e; cases e
    | some ps => rw [q] at e; cases e; exact .tup (sqT_mono hs h) (Reps.dp hs r q)
  | _, .lst ds, p, .lst h r, e => by
    unfold toPy at e
    cases q : toPys ds with
    | none => rw [q] at e; cases e
    | some ps => rw [q] at e; cases e; exact .lst (sqL_mono hs h) (Reps.dp hs r q)
  | _, _, _, .ins _ _ _, e => by cases e
  | _, _, _, .ref _, e => by cases e
theorem Reps.dp (hs : ∀ a o, S a = some o → H a = some o) : ∀ {v : List V} {d : List D} {p : List PyData}, Reps E S ρ v d → toPys d = some p → DpAll E.K H v p
  | _, _, _, .nil, h => by cases h; exact .nil
  | _, d :: ds, p, .cons h r, e => by
    unfold toPys at e
    split at e
    · rename_i x xs e1 e2
      cases e
      exact .cons (Rep.dp hs h e1) (Reps.dp hs r e2)
    · cases e
end
theorem Opd.dp {g : List MO} (w : Gr E ρ S g H) {v : V} {d : D} {p : PyData} (h : Opd E S ρ H v d) (e : toPy d = some p) : Dp E.K H v p := by
  cases h with
  | rep r => exact r.dp w.sub e
  | cell h r =>
    unfold toPy at e
    rename_i a vs ds
    cases q : toPys ds with
    | none => rw [q] at e; cases e
    | some ps => rw [q] at e; cases e; exact .lst (SqL.of h) (Reps.dp w.sub r q)
end
theorem deq_inv {a b : D} {k : Bool} (h : deq a b = some k) : ∃ p q, toPy a = some p ∧ toPy b = some q ∧ SeqAt.shaped p = true ∧ SeqAt.shaped q = true ∧ k = PyData.eqv p q := by
  unfold deq at h
  split at h
  · rename_i x y e1 e2
    cases hb : SeqAt.shaped x && SeqAt.shaped y with
    | true =>
      rw [hb] at h
      cases h
      rw [Bool.and_eq_true] at hb
      exact ⟨x, y, e1, e2, hb.1, hb.2, rfl⟩
    | false => rw [hb] at h; cases h
  · cases h
theorem map_inv {α β : Type} {x : Option α} {f : α → β} {z : β} (h : x.map f = some z) : ∃ a, x = some a ∧ f a = z := by
  cases x with
  | none => cases h
  | some a => cases h; exact ⟨a, rfl, rfl⟩
theorem eqV_inv {a b : D} {k : Bool} (h : eqV a b = some k) : (∃ i j, a = .int i ∧ b = .int j ∧ k = decide (i = j)) ∨ (∃ i j, a = .str i ∧ b = .str j ∧ k = decide (i = j)) ∨ (∃ i j, a = .bl i ∧ b = .bl j ∧ k = decide (i = j)) ∨ deq a b = some k := by
  unfold eqV at h
  split at h
  · cases h; exact .inl ⟨_, _, rfl, rfl, rfl⟩
  · cases h; exact .inr (.inl ⟨_, _, rfl, rfl, rfl⟩)
  · cases h; exact .inr (.inr (.inl ⟨_, _, rfl, rfl, rfl⟩))
  · exact .inr (.inr (.inr h))
theorem dec_congr {p q : Prop} [Decidable p] [Decidable q] (h : p ↔ q) : decide p = decide q := by
  by_cases z : p
  · rw [decide_eq_true z, decide_eq_true (h.mp z)]
  · rw [decide_eq_false z, decide_eq_false (fun y => z (h.mpr y))]
theorem opi_eq (hK : X.K = E.K) (hu : X.A.units + 64 < cLine) : OpR X (compareOp .Eq) (rOp E .eq) := by
  intro pins s σ H x y v u Q I rx ry h
  obtain ⟨ρ, S, g, d1, d2, z, w, h1, h2, e, gv⟩ := h
  obtain ⟨k, e1, rfl⟩ := map_inv (show (eqV d1 d2).map D.bl = some z from e)
  rcases eqV_inv e1 with ⟨i, j, rfl, rfl, rfl⟩ | ⟨i, j, rfl, rfl, rfl⟩ | ⟨i, j, rfl, rfl, rfl⟩ | q
  · cases h1.int
    cases h2.int
    exact op_eq pins s σ H _ _ v u Q I rx ry ⟨rfl, gv.old _ (by rw [dec_congr (q := i = j) ⟨fun z => V.int.inj z, fun z => by rw [z]⟩]; exact .bl _)⟩
  · cases h1.str
    cases h2.str
    exact op_eq pins s σ H _ _ v u Q I rx ry ⟨rfl, gv.old _ (by rw [dec_congr (q := i = j) ⟨fun z => V.str.inj z, fun z => by rw [z]⟩]; exact .bl _)⟩
  · cases h1.bl
    cases h2.bl
    exact op_eq pins s σ H _ _ v u Q I rx ry ⟨rfl, gv.old _ (by rw [dec_congr (q := i = j) ⟨fun z => V.bl.inj z, fun z => by rw [z]⟩]; exact .bl _)⟩
  · obtain ⟨p, q', e2, e3, s1, s2, rfl⟩ := deq_inv q
    exact op_eqD hu pins s σ H _ _ v u Q I rx ry ⟨p, q', hK ▸ h1.dp w e2, hK ▸ h2.dp w e3, s1, s2, gv.old _ (.bl _)⟩
theorem opi_ne (hK : X.K = E.K) (hu : X.A.units + 64 < cLine) : OpR X (compareOp .NotEq) (rOp E .ne) := by
  intro pins s σ H x y v u Q I rx ry h
  obtain ⟨ρ, S, g, d1, d2, z, w, h1, h2, e, gv⟩ := h
  obtain ⟨k, e1, rfl⟩ := map_inv (show (eqV d1 d2).map (fun k => D.bl !k) = some z from e)
  rcases eqV_inv e1 with ⟨i, j, rfl, rfl, rfl⟩ | ⟨i, j, rfl, rfl, rfl⟩ | ⟨i, j, rfl, rfl, rfl⟩ | q
  · cases h1.int
    cases h2.int
    exact op_ne pins s σ H _ _ v u Q I rx ry ⟨rfl, gv.old _ (by rw [dec_congr (q := i = j) ⟨fun z => V.int.inj z, fun z => by rw [z]⟩]; exact .bl _)⟩
  · cases h1.str
    cases h2.str
    exact op_ne pins s σ H _ _ v u Q I rx ry ⟨rfl, gv.old _ (by rw [dec_congr (q := i = j) ⟨fun z => V.str.inj z, fun z => by rw [z]⟩]; exact .bl _)⟩
  · cases h1.bl
    cases h2.bl
    exact op_ne pins s σ H _ _ v u Q I rx ry ⟨rfl, gv.old _ (by rw [dec_congr (q := i = j) ⟨fun z => V.bl.inj z, fun z => by rw [z]⟩]; exact .bl _)⟩
  · obtain ⟨p, q', e2, e3, s1, s2, rfl⟩ := deq_inv q
    exact op_neD hu pins s σ H _ _ v u Q I rx ry ⟨p, q', hK ▸ h1.dp w e2, hK ▸ h2.dp w e3, s1, s2, gv.old _ (.bl _)⟩
theorem rep_non {S : Hp} {ρ : List Addr} {v : V} {d : D} (h : Rep E S ρ v d) : decide (v = .non) = (match d with
    | .non => true
    | _ => false) := by
  cases h <;> rfl
theorem Opd.isn {S H : Hp} {ρ : List Addr} {v : V} {d : D} (h : Opd E S ρ H v d) : isnV d .non = some (decide (v = .non)) := by
  cases h with
  | rep r => cases r <;> rfl
  | cell _ _ => rfl
theorem isnV_inv {a b : D} {k : Bool} (h : isnV a b = some k) : b = .non ∨ ∃ p q, a = .bl p ∧ b = .bl q ∧ k = decide (p = q) := by
  cases b <;> first
    | exact .inl rfl
    | (cases a <;> first
      | (cases (show (none : Option Bool) = some k from h); done)
      | exact .inr ⟨_, _, rfl, rfl, (Option.some.inj h).symm⟩)
theorem opi_isn : OpR X (compareOp .Is) (rOp E .isn) := by
  intro pins s σ H x y v u Q I rx ry h
  obtain ⟨ρ, S, g, d1, d2, z, w, h1, h2, e, gv⟩ := h
  obtain ⟨k, e1, rfl⟩ := map_inv (show (isnV d1 d2).map D.bl = some z from e)
  rcases isnV_inv e1 with rfl | ⟨p, q, rfl, rfl, rfl⟩
  · cases h2.non
    rw [h1.isn] at e1
    cases e1
    exact op_isN pins s σ H _ _ v u Q I rx ry ⟨rfl, gv.old _ (.bl _)⟩
  · cases h1.bl
    cases h2.bl
    exact op_isBl pins s σ H _ _ v u Q I rx ry ⟨p, q, rfl, rfl, gv.old _ (.bl _)⟩
theorem opi_ntn : OpR X (compareOp .IsNot) (rOp E .ntn) := by
  intro pins s σ H x y v u Q I rx ry h
  obtain ⟨ρ, S, g, d1, d2, z, w, h1, h2, e, gv⟩ := h
  obtain ⟨k, e1, rfl⟩ := map_inv (show (isnV d1 d2).map (fun k => D.bl !k) = some z from e)
  rcases isnV_inv e1 with rfl | ⟨p, q, rfl, rfl, rfl⟩
  · cases h2.non
    rw [h1.isn] at e1
    cases e1
    exact op_notN pins s σ H _ _ v u Q I rx ry ⟨rfl, gv.old _ (.bl _)⟩
  · cases h1.bl
    cases h2.bl
    exact op_notBl pins s σ H _ _ v u Q I rx ry ⟨p, q, rfl, rfl, gv.old _ (.bl _)⟩
theorem opi_cat (hK : X.K = E.K) : OpR X (binaryOp .Add) (rOp E .cat) := by
  intro pins s σ H x y v u Q I rx ry h
  obtain ⟨ρ, S, g, d1, d2, z, w, h1, h2, e, gv⟩ := h
  have e' : catV d1 d2 = some z := e
  unfold catV at e'
  split at e'
  · rename_i d a d' b
    obtain ⟨hb, rfl⟩ := bif_inv e'
    obtain ⟨p, vs, rfl, sq, r⟩ := h1.tup (s := ⟨[], g⟩) w
    obtain ⟨p', vs', rfl, sq', r'⟩ := h2.tup (s := ⟨[], g⟩) w
    have l1 := r.len
    have l2 := r'.len
    have n1 : vs ≠ [] := fun z => by rw [z] at l1; cases l1
    have n2 : vs' ≠ [] := fun z => by rw [z] at l2; cases l2
    refine op_catT pins s σ H _ _ v u Q I rx ry ⟨p, p', vs, vs', rfl, rfl, hK ▸ sq, hK ▸ sq', n1, ?_, fun z => absurd z n2, fun _ q hq => ?_⟩
    · rw [l1, l2]
      exact le_line (of_decide_eq_true hb)
    · exact gv.tup q _ _ rfl (r.append r') hq
  · cases e'
end
end Pi
/-! list + list, wherever the lists stand -/
namespace PySem
open Sem AutoSeq1 SeqRoads2
theorem pi_add_lists (l : Addr) (items : Array Value) (n : Nat) (b : Addr) (items2 : Array Value) (n2 : Nat) (dd dd2 : Option Addr) (sl sl2 : Array (Option Value)) (hc0 : items.size + items2.size ≤ sizeLine) :
    Meets (Builtin.«list.__add__» ⟨[.ref l, .ref b], []⟩) (fun _ R s => s.heap.get? l = some { cls := .type "list", dict := dd, data := .seq items n, slots := sl } ∧ s.heap.get? b = some { cls := .type "list", dict := dd2, data := .seq items2 n2, slots := sl2 } ∧ R (.ok (.ret (Value.ref s.heap.objs.size))) { s with heap := s.heap.push { cls := Value.type "list", data := Data.seq (items ++ items2) } }) :=
  .of_wp fun prog w A R s h => by
    obtain ⟨hp, g, d, tk, os⟩ := s; obtain ⟨hl, hb, h⟩ := h; have f1 := idx_int; have f2 := sub_tuple_tuple; have f3 := sub_list_list; have f4 := sub_tuple_list; have f5 := sub_list_tuple
    wp_walk using AutoSeq1.wpAny_loadPart' hl, AutoSeq1.wpAny_loadPart' hb; exact ⟨_, rfl, h⟩
end PySem
namespace Pi
open PySem L2
variable {X : Cx} {E : En}
theorem opi_catL (hK : X.K = E.K) : OpR X (binaryOp .Add) (rOp E .catL) := by
  intro pins s σ H x y v u Q I rx ry h
  obtain ⟨ρ, S, g, d1, d2, z, w, h1, h2, e, gv⟩ := h
  have e' : catLV d1 d2 = some z := e
  unfold catLV at e'
  split at e'
  · rename_i a b
    obtain ⟨hb, rfl⟩ := bif_inv e'
    obtain ⟨p, vs, rfl, sq, r⟩ := h1.lst (s := ⟨[], g⟩) w
    obtain ⟨p', vs', rfl, sq', r'⟩ := h2.lst (s := ⟨[], g⟩) w
    cases rx
    cases ry
    obtain ⟨its, rv, ⟨o1, n1, q1, c1, k1, t1⟩, z1⟩ := I.list (hK ▸ sq : SqL X.K H p vs)
    obtain ⟨its2, rv2, ⟨o2, n2, q2, c2, k2, t2⟩, z2⟩ := I.list (hK ▸ sq' : SqL X.K H p' vs')
    obtain ⟨cl1, dd1, da1, sl1⟩ := o1
    obtain ⟨cl2, dd2, da2, sl2⟩ := o2
    simp only at c1 k1 t1 c2 k2 t2
    subst c1 k1 t1 c2 k2 t2
    have l1 := rv.length
    have l2 := rv2.length
    have hz : vs.length + vs'.length ≤ sizeLine := by
      rw [r.len, r'.len]
      exact le_line (of_decide_eq_true hb)
    refine concat_meets ⟨_, q1, rfl⟩ ⟨_, q2, rfl⟩ noFill_list_add seq_list_add F.slot_list_add F.entry_list_add (F.args_list_add_2 _ _) (pi_add_lists p its.toArray n1 p' its2.toArray n2 none none sl1 sl2 (by rw [List.size_toArray, List.size_toArray]; omega)) ⟨q1, q2, ?_⟩
    have ea : its.toArray ++ its2.toArray = (its ++ its2).toArray := by simp
    rw [ea]
    exact ⟨.ref _, _, I.lnew (t' := s.toks) (rv.append rv2) (by rw [List.length_append]; omega), rfl, gv.lst _ _ _ rfl (r.append r') I.fresh⟩
  · cases e'
end Pi
/-! Defs that are called while no repr and no comparison of rows runs: the frame's guards are known. (For repr of nested values.) -/
namespace Pi
open PySem PySem.Spec PyProof.Rows L2
/-- FnOk where the guards are known to be none -/
structure FnG (P : Program) (w : World) (K : PySem.W.Frag) (mg : Str → Option Value) (base : Heap) (k : Nat) (f : Addr) (fd : FuncData) (ps : List Str) (sp : Sp) : Prop where
  len : ∀ vs H Q E, sp vs H Q E → vs.length = ps.length
  run : ∀ (A : Around) (outer : List Env) (s : Shared) (H : Hp) (args : Args) (us : List Value) (vs : List V) (Q : VK) (E : XK), A.guards = some [] → Room k A → Env0 P w K mg base A outer s H → BindsTo s fd args (ps.zip us) → Vals vs us → sp vs H Q E →
    codeAny (model P w) A (Code.call (Value.ref f) args) (CR (L2.CX P w) outer P w H s Q E) s
theorem FnG.of {P : Program} {w : World} {K : PySem.W.Frag} {mg : Str → Option Value} {base : Heap} {k : Nat} {f : Addr} {fd : FuncData} {ps : List Str} {sp : Sp} (F : FnOk P w K mg base (L2.CX P w) k f fd ps sp) : FnG P w K mg base k f fd ps sp :=
  ⟨F.len, fun A outer s H args us vs Q E _ hr e0 hb r h => F.run A outer s H args us vs Q E hr e0 hb r h⟩
theorem FnG.mono {P : Program} {w : World} {K : PySem.W.Frag} {mg : Str → Option Value} {base : Heap} {j k : Nat} {f : Addr} {fd : FuncData} {ps : List Str} {sp : Sp} (F : FnG P w K mg base j f fd ps sp) (h : j ≤ k) : FnG P w K mg base k f fd ps sp :=
  ⟨F.len, fun A outer s H args us vs Q E hg hr e0 hb r h' => F.run A outer s H args us vs Q E hg (hr.mono h) e0 hb r h'⟩
theorem FnG.imp {P : Program} {w : World} {K : PySem.W.Frag} {mg : Str → Option Value} {base : Heap} {k : Nat} {f : Addr} {fd : FuncData} {ps : List Str} {sp sp' : Sp} (F : FnG P w K mg base k f fd ps sp) (h : ∀ vs H Q E, sp' vs H Q E → sp vs H Q E) : FnG P w K mg base k f fd ps sp' :=
  ⟨fun vs H Q E z => F.len _ _ _ _ (h _ _ _ _ z), fun A outer s H args us vs Q E hg hr e0 hb r h' => F.run A outer s H args us vs Q E hg hr e0 hb r (h _ _ _ _ h')⟩
/-- a def by its body, the guards known -/
theorem FnG.def {P : Program} {w : World} {K : PySem.W.Frag} {mg : Str → Option Value} {base : Heap} {k : Nat} {f : Addr} {fd : FuncData} {x qual : Str} {params : Arguments} {body : List Stmt} {scope : PySem.Scope} {dvs : List V} {kws : List (Str × V)} {N ps : List Str} {sp : Sp}
    (D : FunD K x qual params body scope dvs kws f fd) (Sc : FnScope N ps scope) (len : ∀ vs H Q E, sp vs H Q E → vs.length = ps.length)
    (hb : ∀ (cdv : Value) (A : Around) (outer : List Env) (s : Shared) (H : Hp) (vs : List V) (Q : VK) (E : XK), A.guards = some [] → Room k (A.deeper (envOfC qual scope s.heap.objs.size f cdv)) → sp vs H Q E →
      ∃ t, PSs (cxOf (L2.CX P w) P w K mg base N qual scope f cdv A outer s H E) body t ∧ t { nx := fun _ H' => Q .non H', rt := Q } (L2.start N vs) H) :
    FnG P w K mg base (k + 1) f fd ps sp := by
  obtain ⟨oc, od, dV, kV, doc, pm, an, cdv, ct, osl, rfl, lk, hcd, _, _⟩ := D.ex
  refine ⟨len, fun A outer s H args us vs Q E hg hr e0 hbind r hsp => ?_⟩
  have nP : vs.length = ps.length := len vs H Q E hsp
  have old : ∀ (b : Addr) (u : Obj), base.get? b = some u → s.heap.get? b = some u := fun b u z => (e0.bs b u z).1
  have inK : K.In s.heap := e0.mod.kin.keeps old
  have noL : s.heap.NoLimit := e0.mod.nolimit.keeps old
  have kinds : ∀ y ∈ ps.zip us, scope.names.lookup y.1 = some NameKind.local ∨
      (scope.names.lookup y.1 = some NameKind.cell ∧ ((cellsFrom (s.heap.objs.size + 1) scope.names []).lookup y.1).isSome = true) := by
    rintro ⟨n, v⟩ hy
    have hn := Sc.par n (List.of_mem_zip hy).1
    exact hn.imp id fun q => ⟨q, PySem.W.cellsFrom_some _ _ _ (Or.inl q)⟩
  apply codeAny_call_function hr.depth (inK _ _ lk) rfl Sc.co Sc.gen rfl (PySem.W.codeRec_of inK hcd)
  apply hbind
  apply wpAny_newFunctionEnv_cells Sc.kind kinds
  rintro env rfl s1 cr
  refine ⟨noL.keeps cr.toInCall.keep, codeAny_func ?_⟩
  have ⟨t, rule, holds⟩ := hb cdv A outer s H vs Q E hg (hr.deeper _) hsp
  have ready := inv_start (CX := L2.CX P w) (E := E) (mg := mg) (base := base) Sc hr.hd e0 nP r cr
  have went := rule.run [] s1 (L2.start N vs) H _ ready holds
  apply wpAny_mono went
  · intro fl s' ends
    cases fl with
    | brk => exact ends.elim fun _ z => z.elim fun _ z => z.2.elim
    | cont => exact ends.elim fun _ z => z.elim fun _ z => z.2.elim
    | next =>
      obtain ⟨σ2, H2, J, q⟩ := ends
      exact ⟨V.non, H2, J.os, J.bare, J.base, J.hok, rfl, q⟩
    | ret u =>
      obtain ⟨v, σ2, H2, J, rv, q⟩ := ends
      exact ⟨v, H2, J.os, J.bare, J.base, J.hok, rv, q⟩
  · exact fun _ _ z => z
section
variable {X : Cx} {k : Nat} {f C : Addr} {fd : FuncData} {ps : List Str} {sp : Sp} {dvs : List V} {ds : List Value} {x : Str} {p pos : Pos} {e : Expr} {es : List Expr} {t : TA}
/-- a call that stands in a frame with no guards -/
theorem run_gD {W : L2.St → XK} {pins : List (Addr × Obj)} {σ : L2.St} {H : Hp} {s : Shared} {Q : VK} {us : List Value} {vs : List V} (G : FnG X.prog X.w X.K X.mg X.base k f fd ps sp) (hg : X.A.guards = some []) (hr : Room k X.A) (hb : Binds X.K fd ps ds) (hd : Vals dvs ds)
    (hx : PassesAt (L2.CX X.prog X.w) X σ (W σ)) (I : L2.Inv X pins σ H s) (rv : Vals vs us) (h : sp (vs ++ dvs) H Q (W σ)) : wpAny (model X.prog X.w) X.A (call (Value.ref f) us) (EP X pins σ Q) X.xe s := by
  have both := rv.append hd
  have many := both.length.symm.trans (G.len _ _ _ _ h)
  apply wpAny_call
  apply codeAny_mono (G.run X.A X.stack s H _ _ _ Q (W σ) hg hr I.env0 (hb s us I.kIn many) both h)
  intro out s2 ends
  match out, ends with
  | .error e, ends => exact hx pins H s e s2 I ends
  | .ok (.ret u), ends => exact I.after ends
  | .ok .next, ends => exact ends.elim
  | .ok .brk, ends => exact ends.elim
  | .ok .cont, ends => exact ends.elim
theorem run_g {Z : XK} {pins : List (Addr × Obj)} {σ : L2.St} {H : Hp} {s : Shared} {Q : VK} {us : List Value} {vs : List V} (G : FnG X.prog X.w X.K X.mg X.base k f fd ps sp) (hg : X.A.guards = some []) (hr : Room k X.A) (hb : Binds X.K fd ps ds) (hd : Vals dvs ds)
    (hx : Passes (L2.CX X.prog X.w) X Z) (I : L2.Inv X pins σ H s) (rv : Vals vs us) (h : sp (vs ++ dvs) H Q Z) : wpAny (model X.prog X.w) X.A (call (Value.ref f) us) (EP X pins σ Q) X.xe s :=
  run_gD (W := fun _ => Z) G hg hr hb hd (fun pins H s e s' I z => hx pins σ H s e s' I z) I rv h
/-- f(..) of the module -/
theorem pe_callG {W : L2.St → XK} (G : FnG X.prog X.w X.K X.mg X.base k f fd ps sp) (hgd : X.A.guards = some []) (hr : Room k X.A) (hg : Gl X x) (hm : X.mg x = some (.ref f)) (hk : PySem.W.keepIn X.K (.ref f) = true) (hb : Binds X.K fd ps ds) (hd : Vals dvs ds) (hx : ∀ σ, PassesAt (L2.CX X.prog X.w) X σ (W σ))
    (ha : PA X (e :: es) t) (hdb : (x == ("__debug__" : Str)) = false := by decide) (he : starEach (e :: es) X.env = (false, eval e X.env) :: starEach es X.env := by rfl) (hpl : (backTo pos (starEach es X.env)).any (·.1) = false := by rfl) :
    PE X (.Call (.Name x p) (e :: es) [] pos) (tCallSD sp dvs W t) :=
  ⟨fun pins s σ H Q I h => wpAny_Call_Name_kw (ld_glob I hg hm (by
    apply PySem.W.callWith_K (h₀ := X.base) I.ok.mod.kin hk _ he hpl
    apply thn (ha.run pos pins s σ H _ I h)
    rintro us s1 ⟨vs, H1, I1, rv, q⟩
    exact ⟨I1.kIn, run_gD G hgd hr hb hd (hx σ) I1 rv q⟩) hdb)⟩
/-- C(..), an own class: its __init__ in a frame with no guards -/
theorem make_g {Z : XK} {pins : List (Addr × Obj)} {σ : L2.St} {H : Hp} {s : Shared} {Q : VK} {us : List Value} {vs : List V} (M : Mk X.K C f) (G : FnG X.prog X.w X.K X.mg X.base k f fd ps sp) (hg : X.A.guards = some []) (hr : Room (k + 1) X.A) (hb : Binds X.K fd ps ds) (hd : Vals dvs ds)
    (hx : Passes (L2.CX X.prog X.w) X Z) (I : L2.Inv X pins σ H s) (rv : Vals vs us)
    (h : ∀ a dx, H a = none → H dx = none → dx ≠ a → sp (.ref a :: (vs ++ dvs)) (upd (upd H dx (.own a)) a (.ins C dx [])) (fun v H2 => v = .non ∧ Q (.ref a) H2) Z) :
    wpAny (model X.prog X.w) X.A (call (Value.ref C) us) (EP X pins σ Q) X.xe s := by
  have n0 : s.heap.objs.size ≤ s.heap.objs.size := Nat.le_refl _
  have said := h (s.heap.objs.size + 1) s.heap.objs.size (I.hok.fresh (Nat.le_succ _)) (I.hok.fresh n0) (Nat.ne_of_lt (Nat.lt_succ_self _))
  have J := Inv.made (C := C) I
  have both : Vals (V.ref (s.heap.objs.size + 1) :: (vs ++ dvs)) (Value.ref (s.heap.objs.size + 1) :: (us ++ ds)) := .cons rfl (rv.append hd)
  have many : (Value.ref (s.heap.objs.size + 1) :: us ++ ds).length = ps.length := both.length.symm.trans (G.len _ _ _ _ said)
  apply wpAny_call
  apply make_map (f := f) I.kIn M.makes M.init (beq_iff_eq.mp M.fn)
  apply codeAny_mono (G.run _ X.stack _ _ _ _ _ _ Z ?gd (hr.make C us []) (J.env0.make C us []) (hb _ _ J.kIn many) both said)
  · intro out s2 ends
    match out, ends with
    | .error e, ends => exact hx pins σ _ _ e s2 J ends
    | .ok (.ret u), ends =>
      obtain ⟨v, H2, J2, r2, e2, q⟩ := J.after ends
      subst e2
      exact ⟨r2, V.ref _, H2, J2, rfl, q⟩
    | .ok .next, ends => exact ends.elim
    | .ok .brk, ends => exact ends.elim
    | .ok .cont, ends => exact ends.elim
  case gd =>
    unfold Around.under
    show pushGuards (Code.guards (Code.builtin "type.__call__" { pos := Value.ref C :: us })) X.A.guards = some []
    rw [hg]
    rfl
theorem pe_makeG {Z : XK} (M : Mk X.K C f) (G : FnG X.prog X.w X.K X.mg X.base k f fd ps sp) (hgd : X.A.guards = some []) (hr : Room (k + 1) X.A) (hg : Gl X x) (hm : X.mg x = some (.ref C)) (hb : Binds X.K fd ps ds) (hd : Vals dvs ds) (hx : Passes (L2.CX X.prog X.w) X Z)
    (ha : PA X (e :: es) t) (hdb : (x == ("__debug__" : Str)) = false := by decide) (he : starEach (e :: es) X.env = (false, eval e X.env) :: starEach es X.env := by rfl) (hpl : (backTo pos (starEach es X.env)).any (·.1) = false := by rfl) :
    PE X (.Call (.Name x p) (e :: es) [] pos) (tMake C sp dvs Z t) :=
  ⟨fun pins s σ H Q I h => wpAny_Call_Name_kw (ld_glob I hg hm (by
    apply PySem.W.callWith_K (h₀ := X.base) I.ok.mod.kin M.kp _ he hpl
    apply thn (ha.run pos pins s σ H _ I h)
    rintro us s1 ⟨vs, H1, I1, rv, q⟩
    exact ⟨I1.kIn, make_g M G hgd hr hb hd hx I1 rv q⟩) hdb)⟩
end
example : callerA.guards = some [] := rfl
end Pi
namespace Pi
open PySem L2

section
variable {c : Cn} {X : Cx} {e a b d : Expr} {ta tb td : T} {pos : Pos} {rest : List Expr}

/-! ### and, or, not, tests -/
theorem pi_one {op} {t : T} (h : PEI c X a t) : PEI c X (.BoolOp op [a] pos) t := pe_one h
theorem bl_of {E : En} {S : Hp} {ρ : List Addr} {v : V} {k : Bool} (r : Rep E S ρ v (.bl k)) : v = .bl k := by cases r; rfl
theorem pi_and (ha : PEI c X a ta) (hb : PEI c X (.BoolOp .And (b :: rest) pos) tb) : PEI c X (.BoolOp .And (a :: b :: rest) pos) (.and ta tb) :=
  pe_le (pe_and ha hb) fun σ H Q h => by
    obtain ⟨ρ, S, s, w, p⟩ := h
    refine ⟨ρ, S, s, w, (Post.bind p).imp ?_⟩
    rintro x H1 ⟨ρ1, S1, s1, d1, a1, r1, p1⟩
    cases d1 <;> first
      | (exact (show False from p1).elim)
      | skip
    rename_i k
    cases bl_of r1
    refine ⟨k, rfl, ?_⟩
    cases k with
    | true => rw [if_pos rfl]; exact ⟨ρ1, S1, s1, a1.wd, p1⟩
    | false => rw [if_neg Bool.false_ne_true]; exact Post.here a1.wd (.bl false) p1
theorem pi_or (ha : PEI c X a ta) (hb : PEI c X (.BoolOp .Or (b :: rest) pos) tb) : PEI c X (.BoolOp .Or (a :: b :: rest) pos) (.or ta tb) :=
  pe_le (pe_or ha hb) fun σ H Q h => by
    obtain ⟨ρ, S, s, w, p⟩ := h
    refine ⟨ρ, S, s, w, (Post.bind p).imp ?_⟩
    rintro x H1 ⟨ρ1, S1, s1, d1, a1, r1, p1⟩
    cases d1 <;> first
      | (exact (show False from p1).elim)
      | skip
    rename_i k
    cases bl_of r1
    refine ⟨k, rfl, ?_⟩
    cases k with
    | true => rw [if_pos rfl]; exact Post.here a1.wd (.bl true) p1
    | false => rw [if_neg Bool.false_ne_true]; exact ⟨ρ1, S1, s1, a1.wd, p1⟩
theorem pi_not (ha : PEI c X a ta) : PEI c X (.UnaryOp .Not a pos) (.not ta) :=
  pe_le (pe_not ha) fun σ H Q h => by
    obtain ⟨ρ, S, s, w, p⟩ := h
    refine ⟨ρ, S, s, w, (Post.bind p).imp ?_⟩
    rintro x H1 ⟨ρ1, S1, s1, d1, a1, r1, p1⟩
    cases d1 <;> first
      | (exact (show False from p1).elim)
      | skip
    rename_i k
    cases bl_of r1
    exact ⟨k, rfl, Post.here a1.wd (.bl _) p1⟩
theorem pwi_and1 (ha : PTI c X a ta) : PWI c X (.BoolOp .And [a] pos) ta := pw_and1 ha
theorem pwi_or1 (ha : PTI c X a ta) : PWI c X (.BoolOp .Or [a] pos) ta := pw_or1 ha
theorem pwi_and (ha : PTI c X a ta) (hb : PWI c X (.BoolOp .And (b :: rest) pos) tb) : PWI c X (.BoolOp .And (a :: b :: rest) pos) (.and ta tb) :=
  pw_le (pw_and ha hb) fun σ H Q h => by
    obtain ⟨ρ, S, s, w, p⟩ := h
    refine ⟨ρ, S, s, w, (Post.bind p).imp ?_⟩
    rintro x H1 ⟨ρ1, S1, s1, d1, a1, r1, p1⟩
    cases d1 <;> first
      | (exact (show False from p1).elim)
      | skip
    rename_i k
    cases bl_of r1
    refine ⟨k, rfl, ?_⟩
    cases k with
    | true => rw [if_pos rfl]; exact ⟨ρ1, S1, s1, a1.wd, p1⟩
    | false =>
      rw [if_neg Bool.false_ne_true]
      obtain ⟨q, e, h⟩ := Post.here a1.wd (.bl false) p1
      cases e
      exact h
theorem pwi_or (ha : PTI c X a ta) (hb : PWI c X (.BoolOp .Or (b :: rest) pos) tb) : PWI c X (.BoolOp .Or (a :: b :: rest) pos) (.or ta tb) :=
  pw_le (pw_or ha hb) fun σ H Q h => by
    obtain ⟨ρ, S, s, w, p⟩ := h
    refine ⟨ρ, S, s, w, (Post.bind p).imp ?_⟩
    rintro x H1 ⟨ρ1, S1, s1, d1, a1, r1, p1⟩
    cases d1 <;> first
      | (exact (show False from p1).elim)
      | skip
    rename_i k
    cases bl_of r1
    refine ⟨k, rfl, ?_⟩
    cases k with
    | true =>
      rw [if_pos rfl]
      obtain ⟨q, e, h⟩ := Post.here a1.wd (.bl true) p1
      cases e
      exact h
    | false => rw [if_neg Bool.false_ne_true]; exact ⟨ρ1, S1, s1, a1.wd, p1⟩
theorem pit_w {t : T} (h : PWI c X e t) : PTI c X e t := h.pt
theorem pit_not (ha : PTI c X a ta) : PTI c X (.UnaryOp .Not a pos) (.not ta) :=
  pt_le (pt_not ha) fun σ H Q h => by
    obtain ⟨ρ, S, s, w, p⟩ := h
    refine ⟨ρ, S, s, w, (Post.bind p).imp ?_⟩
    rintro x H1 ⟨ρ1, S1, s1, d1, a1, r1, p1⟩
    cases d1 <;> first
      | (exact (show False from p1).elim)
      | skip
    rename_i k
    cases bl_of r1
    obtain ⟨q, e, h⟩ := Post.here a1.wd (.bl _) p1
    cases e
    exact ⟨k, rfl, h⟩
theorem pit_val {t : T} (h : PEI c X e t) (he : ∀ whole, isTrue e X.env whole = (do let v ← whole; standAt e.pos; holding [v] (truthy v)) := by intro _; rfl) : PTI c X e t := pt_val h he
theorem pi_ite (hd : PTI c X d td) (ha : PEI c X a ta) (hb : PEI c X b tb) : PEI c X (.IfExp d a b pos) (.ite td ta tb) :=
  pe_le (pe_ifExp hd ha hb) fun σ H Q h => by
    obtain ⟨ρ, S, s, w, p⟩ := h
    refine ⟨ρ, S, s, w, (Post.bind p).imp ?_⟩
    rintro x H1 ⟨ρ1, S1, s1, d1, a1, r1, p1⟩
    cases d1 <;> first
      | (exact (show False from p1).elim)
      | skip
    rename_i k
    cases bl_of r1
    refine ⟨k, rfl, ?_⟩
    cases k with
    | true => rw [if_pos rfl]; exact ⟨ρ1, S1, s1, a1.wd, p1⟩
    | false => rw [if_neg Bool.false_ne_true]; exact ⟨ρ1, S1, s1, a1.wd, p1⟩

/-! ### rows of arguments, displays -/
theorem pai_nil : PAI c X [] .nil := pa_le pa_nil fun σ H Q h => by
  obtain ⟨ρ, S, s, w, p⟩ := h
  exact PostA.here w .nil p
theorem pai_cons {es : List Expr} (ha : PEI c X e ta) (hr : PAI c X es tb) (hs : starEach (e :: es) X.env = (false, eval e X.env) :: starEach es X.env := by rfl) : PAI c X (e :: es) (.cons ta tb) :=
  pa_le (pa_cons ha hr hs) fun σ H Q h => by
    obtain ⟨ρ, S, s, w, p⟩ := h
    refine ⟨ρ, S, s, w, (PostA.bind p).imp ?_⟩
    rintro x H1 ⟨ρ1, S1, s1, d1, a1, r1, p1⟩
    refine ⟨ρ1, S1, s1, a1.wd, ?_⟩
    have p2 := PostA.bindA p1
    cases q : evA c.o tb s1 with
    | ok ds s2 =>
      rw [q] at p2
      intro v ρ' S' H' st w' r'
      obtain ⟨ρ2, S2, s2', d2, a2, r2, p3⟩ := p2 v ρ' S' H' st w' r'
      exact PostA.here a2.wd (.cons (r1.mono a2.inc) r2) p3
    | ex k fs s2 => rw [q] at p2; exact p2
    | no => rw [q] at p2; exact p2
theorem PostA.imp {E : En} {W : WX} {σ : St} {ρ : List Addr} {S H : Hp} {l : List SV} {Q Q' : List V → Hp → Prop} {r : R (List D)} (p : PostA E W σ ρ S l H r Q) (h : ∀ v H, Q v H → Q' v H) : PostA E W σ ρ S l H r Q' := by
  cases r with
  | ok d s' => exact fun v ρ' S' H' st w r => h _ _ (p v ρ' S' H' st w r)
  | ex c fs s' => exact p
  | no => exact p
theorem Post.bif {E : En} {W : WX} {σ : St} {ρ : List Addr} {S H : Hp} {l : List SV} {Q : VK} {k : Bool} {r : R D} (p : Post E W σ ρ S l H (bif k then r else .no) Q) : k = true ∧ Post E W σ ρ S l H r Q := by
  cases k with
  | true => exact ⟨rfl, p⟩
  | false => exact p.elim
theorem pi_tup {es : List Expr} {x1} (h : PAI c X es ta) : PEI c X (.Tuple es x1 pos) (.tup ta) :=
  pe_le (pe_tup h) fun σ H Q h => by
    obtain ⟨ρ, S, s, w, p⟩ := h
    refine ⟨ρ, S, s, w, (Post.bindA p).imp ?_⟩
    rintro x H1 ⟨ρ1, S1, s1, d1, a1, r1, p1⟩
    obtain ⟨hb, p2⟩ := Post.bif p1
    refine ⟨by rw [r1.len]; exact le_line (of_decide_eq_true hb), fun q hq => ?_⟩
    exact (Post.give a1.wd p2).tup q _ _ rfl r1 hq
theorem pi_lst {es : List Expr} (h : PAI c X es ta) : PEI c X (.List es pos) (.lst ta) :=
  pe_le (pe_lst h) fun σ H Q h => by
    obtain ⟨ρ, S, s, w, p⟩ := h
    refine ⟨ρ, S, s, w, (Post.bindA p).imp ?_⟩
    rintro x H1 ⟨ρ1, S1, s1, d1, a1, r1, p1⟩
    obtain ⟨hb, p2⟩ := Post.bif p1
    refine ⟨by rw [r1.len]; exact le_line (of_decide_eq_true hb), fun q hq => ?_⟩
    exact (Post.give a1.wd p2).lst q _ _ rfl r1 hq

/-! ### what is called -/
abbrev noB : Bs := ⟨fun _ => False, fun _ => False⟩
def PostC (E : En) (ρ : List Addr) (S H : Hp) (r : Pi.C) (Q : VK) (Z : XK) : Prop := match r with
  | .ok d g' => ∀ v ρ' S' H', Step ρ S noB H ρ' S' noB H' → Gr E ρ' S' g' H' → Rep E S' ρ' v d → Q v H'
  | .ex c fs g' => ∀ ρ' S' H' x fv, Step ρ S noB H ρ' S' noB H' → Gr E ρ' S' g' H' → S' x = some (.xd fv) → RepF E S' ρ' fv fs → Z (.ref (E.cl c)) (some x) H'
  | .no => False
def spI (E : En) (n : Nat) (m : List D → List MO → Pi.C) : Sp := fun vs H Q Z => vs.length = n ∧ ∃ ρ S g ds, Gr E ρ S g H ∧ Reps E S ρ vs ds ∧ PostC E ρ S H (m ds g) Q Z
theorem lift {E : En} {ρ ρ' : List Addr} {S S' H H' : Hp} {s : Pi.S} {g' : List MO} {σ : St} (st : Step ρ S noB H ρ' S' noB H') (w : Wd E ρ S s σ H) (gr : Gr E ρ' S' g' H') :
    Wd E ρ' S' ⟨s.l, g'⟩ σ H' ∧ Step ρ S (Ow σ s.l) H ρ' S' (Ow σ s.l) H' := by
  have off : ∀ a, Ow σ s.l a → a ∉ ρ := fun a ⟨i, h1, h2⟩ => by
    rcases h2 with ⟨ds, h2⟩ | ⟨k, fs, h2⟩
    · obtain ⟨a', vs, q1, q2, q3, q4, q5⟩ := w.sl.own i ds h2
      rw [h1] at q1; cases q1; exact q5
    · obtain ⟨a', dx, fv, q1, q2, qf, q3, q4, q5⟩ := w.sl.ob i k fs h2
      rw [h1] at q1; cases q1; exact q5
  refine ⟨⟨gr, w.sl.keep st.inc (fun a o u e => st.fr a u e (off a o) fun z => z) (fun a _ ne e => ?_) fun a _ ne n z => ?_⟩, ⟨st.inc, st.nρ, fun a o e => ?_, fun a h => .inl h, fun a o e n _ => st.fr a o e n fun z => z, st.dom, fun _ h => h⟩⟩
  · cases q : S' a with
    | none => rfl
    | some o =>
      rcases st.nS a o q with z | z | z
      · rw [e] at z; cases z
      · exact absurd z ne
      · exact z.elim
  · rcases st.nρ a z with y | y
    · exact n y
    · exact ne y
  · rcases st.nS a o e with z | z | z
    · exact .inl z
    · exact .inr (.inl z)
    · exact z.elim
theorem Post.call {E : En} {W : WX} {ρ : List Addr} {S H : Hp} {s : Pi.S} {σ : St} {r : Pi.C} {Q : VK} (w : Wd E ρ S s σ H) (p : Post E W σ ρ S s.l H (R.ofC s.l r) Q) : PostC E ρ S H r Q (WE W σ) := by
  cases r with
  | ok d g => exact fun v ρ' S' H' st gr rp => p v ρ' S' H' (lift st w gr).2 (lift st w gr).1 rp
  | ex k fs g => exact fun ρ' S' H' x fv st gr e rf => p ρ' S' H' x fv (lift st w gr).2 (lift st w gr).1 e rf
  | no => exact p
theorem Post.bindA2 {E : En} {W : WX} {σ : St} {ρ : List Addr} {S H : Hp} {l : List SV} {Q : VK} {r : R (List D)} {k : List D → Pi.S → R D} (p : Post E W σ ρ S l H (r.bind k) Q) :
    PostA E W σ ρ S l H r (fun x H1 => ∃ ρ1 S1 s1 d, r = .ok d s1 ∧ At E ρ S ρ1 S1 s1 σ H1 ∧ Reps E S1 ρ1 x d ∧ Post E W σ ρ1 S1 s1.l H1 (k d s1) Q) := by
  cases r with
  | ok d s' => exact fun v ρ' S' H' st w r => ⟨ρ', S', s', d, rfl, ⟨st.inc, w⟩, r, Post.step st p⟩
  | ex c fs s' => exact p
  | no => exact p
def T.len : T → Nat
  | .cons _ b => b.len + 1
  | _ => 0
theorem evA_len {o : O} : ∀ {t : T} {s s' : Pi.S} {ds : List D}, evA o t s = .ok ds s' → ds.length = t.len
  | .nil, s, s', ds, h => by cases h; rfl
  | .cons a b, s, s', ds, h => by
    unfold evA at h
    cases q : ev o a s with
    | ok d s1 =>
      rw [q] at h
      cases q2 : evA o b s1 with
      | ok es s2 =>
        have h' : (R.ok (d :: es) s2) = R.ok ds s' := by
          have : (R.bind (R.ok d s1) fun x s => (evA o b s).bind fun xs s => R.ok (x :: xs) s) = R.ok ds s' := h
          have e : (R.bind (R.ok d s1) fun x s => (evA o b s).bind fun xs s => R.ok (x :: xs) s) = (evA o b s1).bind fun xs s => R.ok (d :: xs) s := rfl
          rw [e, q2] at this
          exact this
        cases h'
        show es.length + 1 = b.len + 1
        rw [evA_len q2]
      | ex k fs s2 =>
        have e : (R.bind (R.ok d s1) fun x s => (evA o b s).bind fun xs s => R.ok (x :: xs) s) = (evA o b s1).bind fun xs s => R.ok (d :: xs) s := rfl
        rw [e, q2] at h
        cases h
      | no =>
        have e : (R.bind (R.ok d s1) fun x s => (evA o b s).bind fun xs s => R.ok (x :: xs) s) = (evA o b s1).bind fun xs s => R.ok (d :: xs) s := rfl
        rw [e, q2] at h
        cases h
    | ex k fs s1 => rw [q] at h; cases h
    | no => rw [q] at h; cases h
  | .c _, _, _, _, h => by cases h
  | .v _, _, _, _, h => by cases h
  | .gl _, _, _, _, h => by cases h
  | .op2 _ _ _, _, _, _, h => by cases h
  | .opo _ _ _, _, _, _, h => by cases h
  | .ch _ _ _ _ _, _, _, _, h => by cases h
  | .neg _, _, _, _, h => by cases h
  | .and _ _, _, _, _, h => by cases h
  | .or _ _, _, _, _, h => by cases h
  | .not _, _, _, _, h => by cases h
  | .tru _, _, _, _, h => by cases h
  | .ite _ _ _, _, _, _, h => by cases h
  | .tup _, _, _, _, h => by cases h
  | .lst _, _, _, _, h => by cases h
  | .star _ _, _, _, _, h => by cases h
  | .ix _ _, _, _, _, h => by cases h
  | .ixo _ _, _, _, _, h => by cases h
  | .sl _ _ _, _, _, _, h => by cases h
  | .rev _, _, _, _, h => by cases h
  | .call _ _ _, _, _, _, h => by cases h
  | .mk _ _ _, _, _, _, h => by cases h
  | .meth _ _ _ _, _, _, _, h => by cases h
  | .fld _ _, _, _, _, h => by cases h
  | .inr _ _ _, _, _, _, h => by cases h
  | .ino _ _ _, _, _, _, h => by cases h
  | .isi _ _, _, _, _, h => by cases h
  | .bi _ _, _, _, _, h => by cases h
  | .bio _ _, _, _, _, h => by cases h
  | .comp _ _ _ _, _, _, _, h => by cases h
  | .rng1 _, _, _, _, h => by cases h
  | .rng2 _ _, _, _, _, h => by cases h
  | .rngd _ _ _, _, _, _, h => by cases h
  | .it _, _, _, _, h => by cases h
  | .its _, _, _, _, h => by cases h
  | .popo _ _, _, _, _, h => by cases h
  | .mkr _, _, _, _, h => by cases h
  | .revr _, _, _, _, h => by cases h
  | .popr _, _, _, _, h => by cases h
/-- a def that may be called from here -/
structure Callee (c : Cn) (X : Cx) (x : Str) (f : Nat) (n : Nat) (df : List D) : Prop where
  ex : ∃ (k : Nat) (a : Addr) (fd : FuncData) (ps : List Str) (dvs : List V) (ds : List Value), FnG X.prog X.w X.K X.mg X.base k a fd ps (spI c.E n (c.o.call f)) ∧ X.A.guards = some [] ∧ Room k X.A ∧
    X.mg x = some (.ref a) ∧ PySem.W.keepIn X.K (.ref a) = true ∧ Binds X.K fd ps ds ∧ Vals dvs ds ∧ ∀ S ρ, Reps c.E S ρ dvs df
theorem pi_call {x : Str} {p : Pos} {es : List Expr} {f n : Nat} {df : List D} (tk : Takes X c.W) (F : Callee c X x f n df) (hg : Gl X x) (ha : PAI c X (e :: es) ta) (hl : ta.len + df.length = n := by rfl) (hdb : (x == ("__debug__" : Str)) = false := by decide)
    (he : starEach (e :: es) X.env = (false, eval e X.env) :: starEach es X.env := by rfl) (hpl : (backTo pos (starEach es X.env)).any (·.1) = false := by rfl) : PEI c X (.Call (.Name x p) (e :: es) [] pos) (.call f ta df) := by
  obtain ⟨k, a, fd, ps, dvs, ds, G, hgd, hr, hm, hk, hb, hd, hdf⟩ := F.ex
  refine pe_le (pe_callG (W := fun σ => WE c.W σ) G hgd hr hg hm hk hb hd (fun σ => passAt tk σ) ha hdb he hpl) fun σ H Q h => ?_
  obtain ⟨ρ, S, s, w, p⟩ := h
  refine ⟨ρ, S, s, w, (Post.bindA2 p).imp ?_⟩
  rintro vs H1 ⟨ρ1, S1, s1, d1, e1, a1, r1, p1⟩
  refine ⟨?_, ρ1, S1, s1.g, _, a1.wd.gr, r1.append (hdf S1 ρ1), p1.call a1.wd⟩
  rw [List.length_append, r1.len, (hdf S1 ρ1).len, evA_len e1, hl]

/-! ### fields, items, slices -/
theorem pi_fld {n : Nat} {f : Str} (hK : X.K = c.E.K) (he : PEI c X e ta) (hf : c.E.at_ n = f) (hb : attributeBase e f X.env (eval e X.env) = eval e X.env := by rfl) : PEI c X (.Attribute e f pos) (.fld ta n) := by
  refine pe_le (pe_fld he hb) fun σ H Q h => ?_
  obtain ⟨ρ, S, s, w, p⟩ := h
  refine ⟨ρ, S, s, w, (Post.bind p).imp ?_⟩
  rintro x H1 ⟨ρ1, S1, s1, d1, a1, r1, p1⟩
  obtain ⟨z, e1, p2⟩ := Post.of p1
  have fin : ∀ {a dx : Addr} {k : Nat} {fv : List (Str × V)} {fs : List (Nat × D)}, H1 a = some (.ins (c.E.cl k) dx fv) → c.E.fits k fs → RepF c.E S1 ρ1 fv fs → fs.lookup n = some z →
      ∃ a' C dx fs v, V.ref a = .ref a' ∧ H1 a' = some (.ins C dx fs) ∧ Cls X.K C ∧ NoAttr X.K C f ∧ fs.lookup f = some v ∧ Q v H1 := fun {a dx k fv fs} h1 h2 h3 h4 => by
    have hin : (n, z) ∈ fs := by
      clear h1 h2 h3
      induction fs with
      | nil => cases h4
      | cons q r ih =>
        obtain ⟨m, y⟩ := q
        by_cases hq : n = m
        · subst hq
          simp at h4
          subst h4
          exact List.mem_cons_self
        · have hq' : (n == m) = false := by simpa using hq
          rw [List.lookup_cons, hq'] at h4
          exact List.mem_cons_of_mem _ (ih h4)
    obtain ⟨hn, ha⟩ := c.E.fok k n (h2.2 _ hin)
    have hc := (c.E.cok k h2.1).1
    obtain ⟨v, q1, q2⟩ := h3.look hn h4
    refine ⟨a, _, dx, fv, v, rfl, h1, hK ▸ hc, hf ▸ hK ▸ ha, hf ▸ q1, Post.here a1.wd q2 p2⟩
  cases r1 with
  | ins h1 h2 h3 => exact fin (a1.wd.gr.sub _ _ h1) h2 h3 e1
  | @ref a m h =>
    have e2 : (match s1.g[m]? with
      | some (.ins _ fs) => fs.lookup n
      | _ => none) = some z := e1
    split at e2
    · rename_i k fs q
      obtain ⟨dx, fv, q1, q2, q3⟩ := a1.wd.gr.ob m a _ h q
      exact fin q1 q2 q3 e2
    · cases e2
  | non => cases e1
  | bl _ => cases e1
  | int _ => cases e1
  | str _ => cases e1
  | tup _ _ => cases e1
  | lst _ _ => cases e1
/-- x[i], a list or a tuple -/
def rIx2 (K : PySem.W.Frag) : R2 := fun x y H Q => rIxL K x y H Q ∨ rIxT K x y H Q
theorem ix2 : IxR X (rIx2 X.K) := ix_list.or ix_tup
theorem atI_inv {α : Type} {xs : List α} {i : Int} {x : α} (h : atI xs i = some x) : ∃ j, ixN xs.length i = some j ∧ xs[j]? = some x := by
  unfold atI at h
  cases q : ixN xs.length i with
  | none => rw [q] at h; cases h
  | some j => rw [q] at h; exact ⟨j, rfl, h⟩
theorem Reps.atI {E : En} {S : Hp} {ρ : List Addr} {vs : List V} {ds : List D} {i : Int} {d : D} (r : Reps E S ρ vs ds) (h : L2.atI ds i = some d) : ∃ v, L2.atI vs i = some v ∧ Rep E S ρ v d := by
  obtain ⟨j, h1, h2⟩ := atI_inv h
  obtain ⟨v, q1, q2⟩ := r.get h2
  refine ⟨v, ?_, q2⟩
  unfold L2.atI
  rw [r.len, h1]
  exact q1
theorem ix_core {E : En} {K : PySem.W.Frag} (hK : K = E.K) {S H : Hp} {ρ : List Addr} {g : List MO} {x y : V} {d1 d2 z : D} {Q : VK} (w : Gr E ρ S g H) (h1 : Opd E S ρ H x d1) (h2 : Rep E S ρ y d2) (e : ixS d1 d2 = some z)
    (q : ∀ v, Rep E S ρ v z → Q v H) : rIx2 K x y H Q := by
  subst hK
  cases d1 with
  | lst ds =>
    cases h2 with
    | int i =>
      obtain ⟨a, vs, rfl, sq, r⟩ := h1.lst (s := ⟨[], g⟩) w
      obtain ⟨v, q1, q2⟩ := r.atI (show L2.atI ds i = some z from e)
      exact .inl ⟨a, vs, i, v, rfl, rfl, sq, q1, q v q2⟩
    | _ => cases (show (none : Option D) = some z from e)
  | tup ds =>
    cases h2 with
    | int i =>
      obtain ⟨a, vs, rfl, sq, r⟩ := h1.tup (s := ⟨[], g⟩) w
      obtain ⟨v, q1, q2⟩ := r.atI (show L2.atI ds i = some z from e)
      exact .inr ⟨a, vs, i, v, rfl, rfl, sq, q1, q v q2⟩
    | _ => cases (show (none : Option D) = some z from e)
  | _ => cases (show (none : Option D) = some z from e)
theorem pi_ix (hK : X.K = c.E.K) (ha : PEI c X a ta) (hb : PEI c X b tb) (hs : PlainIx b := by exact fun _ _ => rfl) : PEI c X (.Subscript a b pos) (.ix ta tb) := by
  refine pe_le (pe_ix ix2 ha hb hs) fun σ H Q h => ?_
  obtain ⟨ρ, S, s, w, p⟩ := h
  refine ⟨ρ, S, s, w, (Post.bind p).imp ?_⟩
  rintro x H1 ⟨ρ1, S1, s1, d1, a1, r1, p1⟩
  refine ⟨ρ1, S1, s1, a1.wd, (Post.bind p1).imp ?_⟩
  rintro y H2 ⟨ρ2, S2, s2, d2, a2, r2, p2⟩
  obtain ⟨z, e, p3⟩ := Post.of p2
  exact ix_core hK a2.wd.gr (Opd.view (s := s2) a2.wd.gr (r1.mono a2.inc)) r2 e fun v rv => Post.here a2.wd rv p3
theorem pi_ch {op op' : CmpOp} {k k' : Op} (ho : OpR X (compareOp op) (rOp c.E k)) (ho' : OpR X (compareOp op') (rOp c.E k')) (ha : PEI c X a ta) (hb : PEI c X b tb) (hd : PEI c X d td)
    (hm : lastMarks [op, op'] [b, d] = false := by with_unfolding_all rfl) : PEI c X (.Compare a [op, op'] [b, d] pos) (.ch k k' ta tb td) := pe_le (pe_chain ho ho' ha hb hd hm) fun _ _ _ => ch_le
theorem pit_ch {op op' : CmpOp} {k k' : Op} (ho : OpR X (compareOp op) (rOp c.E k)) (ho' : OpR X (compareOp op') (rOp c.E k')) (ha : PEI c X a ta) (hb : PEI c X b tb) (hd : PEI c X d td)
    (hm : lastMarks [op, op'] [b, d] = false := by with_unfolding_all rfl) : PTI c X (.Compare a [op, op'] [b, d] pos) (.ch k k' ta tb td) := pt_le (pt_chain ho ho' ha hb hd hm) fun _ _ _ => ch_le
theorem pi_neg (ha : PEI c X a ta) : PEI c X (.UnaryOp .USub a pos) (.neg ta) := by
  refine pe_le (pe_un un_neg ha) fun σ H Q h => ?_
  obtain ⟨ρ, S, s, w, p⟩ := h
  refine ⟨ρ, S, s, w, (Post.bind p).imp ?_⟩
  rintro x H1 ⟨ρ1, S1, s1, d1, a1, r1, p1⟩
  cases d1 <;> first
    | (exact (show False from p1).elim)
    | skip
  cases r1
  exact ⟨_, rfl, Post.here a1.wd (.int _) p1⟩
end
end Pi
namespace Pi
open PySem L2

section
variable {c : Cn} {X : Cx} {e a b d : Expr} {ta tb td tl th : T} {pos : Pos} {rest : List Expr}

/-! ### slices -/
def PostO (E : En) (W : WX) (σ : St) (ρ : List Addr) (S : Hp) (l : List SV) (H : Hp) (r : R (Option Int)) (Q : Option Int → Hp → Prop) : Prop := match r with
  | .ok d s' => ∀ ρ' S' H', Step ρ S (Ow σ l) H ρ' S' (Ow σ s'.l) H' → Wd E ρ' S' s' σ H' → Q d H'
  | .ex c fs s' => ∀ ρ' S' H' x fv, Step ρ S (Ow σ l) H ρ' S' (Ow σ s'.l) H' → Wd E ρ' S' s' σ H' → S' x = some (.xd fv) → RepF E S' ρ' fv fs → W (.ref (E.cl c)) (some x) σ H'
  | .no => False
def tIO (E : En) (W : WX) (m : Pi.S → R (Option Int)) : TO := fun σ H Q => ∃ ρ S s, Wd E ρ S s σ H ∧ PostO E W σ ρ S s.l H (m s) Q
abbrev POI (c : Cn) (X : Cx) (e : Option Expr) (t : T) : Prop := PO X e (tIO c.E c.W (evO c.o t))
theorem poi_none : POI c X none .nil := po_le po_none fun σ H Q h => by
  obtain ⟨ρ, S, s, w, p⟩ := h
  exact p ρ S H Step.refl w
theorem PostO.bind {E : En} {W : WX} {σ : St} {ρ : List Addr} {S H : Hp} {l : List SV} {r : R D} {k : D → Pi.S → R (Option Int)} {Q : Option Int → Hp → Prop} (p : PostO E W σ ρ S l H (r.bind k) Q) :
    Post E W σ ρ S l H r (fun x H1 => ∃ ρ1 S1 s1 d, At E ρ S ρ1 S1 s1 σ H1 ∧ Rep E S1 ρ1 x d ∧ PostO E W σ ρ1 S1 s1.l H1 (k d s1) Q) := by
  cases r with
  | ok d s' =>
    refine fun v ρ' S' H' st w r => ⟨ρ', S', s', d, ⟨st.inc, w⟩, r, ?_⟩
    have p' : PostO E W σ ρ S l H (k d s') Q := p
    show PostO E W σ ρ' S' s'.l H' (k d s') Q
    cases q : k d s' with
    | ok i s2 => rw [q] at p'; exact fun ρ2 S2 H2 st2 w2 => p' ρ2 S2 H2 (st.trans st2) w2
    | ex i fs s2 => rw [q] at p'; exact fun ρ2 S2 H2 x fv st2 => p' ρ2 S2 H2 x fv (st.trans st2)
    | no => rw [q] at p'; exact p'
  | ex c fs s' => exact p
  | no => exact p
theorem poi_some (h : PEI c X e ta) : POI c X (some e) (.cons ta .nil) := po_le (po_some h) fun σ H Q h => by
  obtain ⟨ρ, S, s, w, p⟩ := h
  refine ⟨ρ, S, s, w, (PostO.bind p).imp ?_⟩
  rintro x H1 ⟨ρ1, S1, s1, d1, a1, r1, p1⟩
  cases d1 <;> first
    | (exact (show False from p1).elim)
    | skip
  cases r1
  exact ⟨_, rfl, p1 ρ1 S1 H1 Step.refl a1.wd⟩
theorem Post.bindO {E : En} {W : WX} {σ : St} {ρ : List Addr} {S H : Hp} {l : List SV} {r : R (Option Int)} {k : Option Int → Pi.S → R D} {Q : VK} (p : Post E W σ ρ S l H (r.bind k) Q) :
    PostO E W σ ρ S l H r (fun i H1 => ∃ ρ1 S1 s1, At E ρ S ρ1 S1 s1 σ H1 ∧ Post E W σ ρ1 S1 s1.l H1 (k i s1) Q) := by
  cases r with
  | ok d s' => exact fun ρ' S' H' st w => ⟨ρ', S', s', ⟨st.inc, w⟩, Post.step st p⟩
  | ex c fs s' => exact p
  | no => exact p
theorem PostO.imp {E : En} {W : WX} {σ : St} {ρ : List Addr} {S H : Hp} {l : List SV} {Q Q' : Option Int → Hp → Prop} {r : R (Option Int)} (p : PostO E W σ ρ S l H r Q) (h : ∀ v H, Q v H → Q' v H) : PostO E W σ ρ S l H r Q' := by
  cases r with
  | ok d s' => exact fun ρ' S' H' st w => h _ _ (p ρ' S' H' st w)
  | ex c fs s' => exact p
  | no => exact p
def rSl3 (K : PySem.W.Frag) : V → Option Int → Option Int → Hp → VK → Prop := fun x lo hi H Q => rSlL K x lo hi H Q ∨ (rSlA K x lo hi H Q ∨ rSlS x lo hi H Q)
theorem sl3 : SlR X (rSl3 X.K) := sl_list.or (sl_tupA.or sl_str)
theorem cut_whole {α : Type} {n : Nat} {xs : List α} {lo hi : Option Int} (hn : xs.length = n) (h : HT.sIx n 0 lo = 0 ∧ HT.sIx n n hi = n) : (xs.drop (HT.sIx n 0 lo)).take (HT.sIx n n hi - HT.sIx n 0 lo) = xs := by
  rw [h.1, h.2, List.drop_zero, Nat.sub_zero, ← hn, List.take_length]
theorem sl_core {E : En} {K : PySem.W.Frag} (hK : K = E.K) {S H : Hp} {ρ : List Addr} {g : List MO} {x : V} {d1 z : D} {lo hi : Option Int} {Q : VK} (w : Gr E ρ S g H) (h1 : Opd E S ρ H x d1) (e : slS d1 lo hi = some z)
    (q : Give E S ρ H z Q) : rSl3 K x lo hi H Q := by
  subst hK
  cases d1 with
  | lst ds =>
    cases e
    obtain ⟨a, vs, rfl, sq, r⟩ := h1.lst (s := ⟨[], g⟩) w
    refine .inl ⟨a, vs, rfl, sq, fun p hp => q.lst p _ _ rfl ?_ hp⟩
    unfold cutV
    rw [r.len]
    exact (r.drop _).take _
  | tup ds =>
    cases e
    have h1' := h1
    obtain ⟨a, vs, rfl, sq, r⟩ := h1.tup (s := ⟨[], g⟩) w
    refine .inr (.inl ⟨a, vs, rfl, sq, fun hw => q.old _ ?_, fun hw p hp => q.tup p _ _ rfl ?_ hp⟩)
    · rw [r.len] at hw
      unfold cutD
      rw [cut_whole rfl hw]
      cases h1' with | rep r' => exact r'
    · unfold cutV
      rw [r.len]
      exact (r.drop _).take _
  | str y =>
    obtain ⟨hb, rfl⟩ := bif_inv (show (bif decide (y.length ≤ big) then some (D.str (L2.cutS y lo hi)) else none) = some z from e)
    cases h1.str
    exact .inr (.inr ⟨y, rfl, le_line (of_decide_eq_true hb), q.old _ (.str _)⟩)
  | _ => cases (show (none : Option D) = some z from e)
theorem pi_sl {lo hi : Option Expr} {p2 : Pos} (hK : X.K = c.E.K) (he : PEI c X e ta) (hl : POI c X lo tl) (hu : POI c X hi th) : PEI c X (.Subscript e (.Slice lo hi none p2) pos) (.sl ta tl th) := by
  refine pe_le (pe_slice sl3 he hl hu) fun σ H Q h => ?_
  obtain ⟨ρ, S, s, w, p⟩ := h
  refine ⟨ρ, S, s, w, (Post.bind p).imp ?_⟩
  rintro x H1 ⟨ρ1, S1, s1, d1, a1, r1, p1⟩
  refine ⟨ρ1, S1, s1, a1.wd, (Post.bindO p1).imp ?_⟩
  rintro i H2 ⟨ρ2, S2, s2, a2, p2⟩
  refine ⟨ρ2, S2, s2, a2.wd, (Post.bindO p2).imp ?_⟩
  rintro j H3 ⟨ρ3, S3, s3, a3, p3⟩
  obtain ⟨z, e, p4⟩ := Post.of p3
  exact sl_core hK a3.wd.gr (Opd.view (s := s3) a3.wd.gr (r1.mono (a2.inc.trans a3.inc))) e (Post.give a3.wd p4)

/-! ### isinstance -/
def kv (E : En) : D → Option Value
  | .non => some (.type "NoneType")
  | .bl _ => some (.type "bool")
  | .int _ => some (.type "int")
  | .str _ => some (.type "str")
  | .tup _ => some (.type "tuple")
  | .lst _ => some (.type "list")
  | .ins k _ => some (.ref (E.cl k))
  | .ref _ => none
def tu (E : En) : Ty → V
  | .int => .ty "int"
  | .bool => .ty "bool"
  | .str => .ty "str"
  | .tuple => .ty "tuple"
  | .list => .ty "list"
  | .cls k => .ref (E.cl k)
def tw (E : En) : Ty → Value
  | .int => .type "int"
  | .bool => .type "bool"
  | .str => .type "str"
  | .tuple => .type "tuple"
  | .list => .type "list"
  | .cls k => .ref (E.cl k)
theorem tu_cls (E : En) (t : Ty) : ClsV (tu E t) (tw E t) := by cases t <;> first | exact .ty _ | exact .own _
/-- what the text's classes are to isinstance -/
structure Kit (c : Cn) (t : Ty) : Prop where
  ok : ∀ d v, kv c.E d = some v → (∀ k fs, d = .ins k fs → c.E.co k = true) → PySem.W.kitOne c.E.K v (tw c.E t) = some (isiS c.o d t)
theorem Rep.ty {E : En} {S H : Hp} {ρ : List Addr} {g : List MO} {x : V} {d d' : D} (w : Gr E ρ S g H) (h : Rep E S ρ x d) (e : tyD g d = some d') : ∃ v, kv E d' = some v ∧ TyX E.K H x v ∧ ∀ k fs, d' = .ins k fs → E.co k = true := by
  have insq : ∀ {a dx k fv}, H a = some (.ins (E.cl k) dx fv) → E.co k = true → TyX E.K H (.ref a) (.ref (E.cl k)) := fun h f => by
    obtain ⟨q1, q2, q3, q4, q5⟩ := E.cok _ f
    exact .base (.ins h q1 q2 q3 q4 q5)
  cases h with
  | non => cases e; exact ⟨_, rfl, .base .non, fun _ _ z => (nomatch z)⟩
  | bl b => cases e; exact ⟨_, rfl, .base (.bl b), fun _ _ z => (nomatch z)⟩
  | int b => cases e; exact ⟨_, rfl, .base (.int b), fun _ _ z => (nomatch z)⟩
  | str b => cases e; exact ⟨_, rfl, .base (.str b), fun _ _ z => (nomatch z)⟩
  | tup h r =>
    cases e
    refine ⟨_, rfl, ?_, fun _ _ z => (nomatch z)⟩
    rcases h with (h | ⟨o, h⟩) | ⟨o, its, n, h, hc, _⟩
    · exact .base (.tup (w.sub _ _ h))
    · exact .fTuple (w.sub _ _ h)
    · exact .kTuple h hc
  | lst h r =>
    cases e
    refine ⟨_, rfl, ?_, fun _ _ z => (nomatch z)⟩
    rcases h with (h | ⟨o, h⟩) | ⟨o, its, n, h, hc, _⟩
    · exact .base (.lst (w.sub _ _ h))
    · exact .base (.frz (w.sub _ _ h))
    · exact .kList h hc
  | @ins a dx k fv fs h f r =>
    cases e
    exact ⟨_, rfl, insq (w.sub _ _ h) f.1, fun _ _ z => by cases z; exact f.1⟩
  | @ref a n h =>
    have e' : (match g[n]? with
      | some (.lst ds) => some (.lst ds)
      | some (.ins c fs) => some (.ins c fs)
      | none => none) = some d' := e
    split at e'
    · rename_i ds q
      cases e'
      obtain ⟨vs, q1, q2⟩ := w.ob n a _ h q
      exact ⟨_, rfl, .base (.lst q1), fun _ _ z => (nomatch z)⟩
    · rename_i k fs q
      cases e'
      obtain ⟨dx, fv, q1, q2, q3⟩ := w.ob n a _ h q
      exact ⟨_, rfl, insq q1 q2.1, fun _ _ z => by cases z; exact q2.1⟩
    · cases e'
/-- isinstance(x, T) -/
theorem pi_isi {t : Ty} {p : Pos} {et : Expr} (hK : X.K = c.E.K) (kt : Kit c t) (hg : Gl X "isinstance") (hm : X.mg "isinstance" = none) (ha : PEI c X a ta) (ht : PE X et (tC (tu c.E t)))
    (he : starEach (a :: [et]) X.env = (false, eval a X.env) :: starEach [et] X.env := by rfl) (hs2 : starEach (et :: []) X.env = (false, eval et X.env) :: starEach [] X.env := by rfl) (hpl : (backTo pos (starEach [et] X.env)).any (·.1) = false := by rfl) : PEI c X (.Call (.Name "isinstance" p) [a, et] [] pos) (.isi ta [t]) := by
  refine pe_le (pe_callB call_isi hg hm (by decide +kernel) (pa_cons ha (pa_cons ht pa_nil hs2) he) (by decide) (by decide) he hpl) fun σ H Q h => ?_
  obtain ⟨ρ, S, s, w, p⟩ := h
  refine ⟨ρ, S, s, w, (Post.bind p).imp ?_⟩
  rintro x H1 ⟨ρ1, S1, s1, d1, a1, r1, p1⟩
  split at p1
  · rename_i d' e1
    obtain ⟨v, q1, q2, q3⟩ := r1.ty a1.wd.gr e1
    refine ⟨x, tu c.E t, v, tw c.E t, _, rfl, tu_cls _ _, hK ▸ q2, ?_, Post.here a1.wd (.bl _) p1⟩
    rw [hK, kt.ok _ _ q1 q3]
    show some (isiS c.o d' t) = some (isiA c.o d' [t])
    simp [isiA]
  · exact p1.elim
/-- isinstance(x, (T, U)) -/
theorem kitAny_ok {c : Cn} {d : D} {v : Value} (q1 : kv c.E d = some v) (q3 : ∀ k fs, d = .ins k fs → c.E.co k = true) : ∀ {ts : List Ty}, (∀ t ∈ ts, Kit c t) → PySem.W.kitAny c.E.K v (ts.map (tw c.E)) = some (isiA c.o d ts)
  | [], _ => rfl
  | t :: ts, h => by
    have h1 := (h t List.mem_cons_self).ok d v q1 q3
    have h2 := kitAny_ok q1 q3 (ts := ts) fun u hu => h u (List.mem_cons_of_mem _ hu)
    show PySem.W.kitAny c.E.K v (tw c.E t :: ts.map (tw c.E)) = some (isiS c.o d t || isiA c.o d ts)
    unfold PySem.W.kitAny
    rw [h1]
    cases isiS c.o d t with
    | true => rfl
    | false => simpa using h2
theorem paired_tu (E : En) : ∀ ts : List Ty, Paired ClsV (ts.map (tu E)) (ts.map (tw E))
  | [] => .nil
  | t :: ts => .cons (tu_cls E t) (paired_tu E ts)
theorem pi_isiT {ts : List Ty} {p pt : Pos} {es : List Expr} {k1 : Nat} {tt : TA} (hK : X.K = c.E.K) (kt : ∀ t ∈ ts, Kit c t) (hg : Gl X "isinstance") (hm : X.mg "isinstance" = none) (ha : PEI c X a ta) (ht : PA X es tt)
    (hq : ∀ σ H (Q : List V → Hp → Prop), Q (ts.map (tu c.E)) H → tt σ H Q) (hl : ts.length ≤ big)
    (he : starEach (a :: [.Tuple es k1 pt]) X.env = (false, eval a X.env) :: starEach [.Tuple es k1 pt] X.env := by rfl) (hs2 : starEach (.Tuple es k1 pt :: []) X.env = (false, eval (.Tuple es k1 pt) X.env) :: starEach [] X.env := by rfl) (hpl : (backTo pos (starEach [.Tuple es k1 pt] X.env)).any (·.1) = false := by rfl) :
    PEI c X (.Call (.Name "isinstance" p) [a, .Tuple es k1 pt] [] pos) (.isi ta ts) := by
  refine pe_le (pe_callB call_isiT hg hm (by decide +kernel) (pa_cons ha (pa_cons (pe_tup ht) pa_nil hs2) he) (by decide) (by decide) he hpl) fun σ H Q h => ?_
  obtain ⟨ρ, S, s, w, p⟩ := h
  refine ⟨ρ, S, s, w, (Post.bind p).imp ?_⟩
  rintro x H1 ⟨ρ1, S1, s1, d1, a1, r1, p1⟩
  split at p1
  · rename_i d' e1
    refine hq _ _ _ ⟨by rw [List.length_map]; exact le_line hl, fun q hq => ?_⟩
    have w2 := a1.wd.new (o := .tup (ts.map (tu c.E))) hq
    have i2 := Inc.new (ρ := ρ1) (o := .tup (ts.map (tu c.E))) (a1.wd.gr.fresh hq).1
    obtain ⟨v, q1, q2, q3⟩ := (r1.mono i2).ty w2.gr e1
    refine ⟨x, q, _, v, ts.map (tw c.E), _, rfl, upd_same, paired_tu _ _, hK ▸ q2, ?_, p1 _ ρ1 _ _ (Step.new a1.wd.gr hq) w2 (.bl _)⟩
    rw [hK]
    exact kitAny_ok q1 q3 kt
  · exact p1.elim

/-! ### x in a row of plain things -/
theorem Rep.flat {E : En} {S : Hp} {ρ : List Addr} {v : V} {d : D} (h : Rep E S ρ v d) : flatV v = flat d := by cases h <;> rfl
theorem Rep.eqF {E : En} {S : Hp} {ρ : List Addr} {v v' : V} {d d' : D} (h : Rep E S ρ v d) (h' : Rep E S ρ v' d') : L2.eqV v v' = eqF d d' := by cases h <;> cases h' <;> rfl
theorem Reps.allF {E : En} {S : Hp} {ρ : List Addr} : ∀ {vs : List V} {ds : List D}, Reps E S ρ vs ds → vs.all flatV = ds.all flat
  | _, _, .nil => rfl
  | _, _, .cons h r => by rw [List.all_cons, List.all_cons, h.flat, Reps.allF r]
theorem Reps.inV {E : En} {S : Hp} {ρ : List Addr} {x : V} {y : D} (hx : Rep E S ρ x y) : ∀ {vs : List V} {ds : List D}, Reps E S ρ vs ds → L2.inV x vs = ds.any fun z => Pi.eqF z y
  | _, _, .nil => rfl
  | _, _, .cons h r => by
    unfold L2.inV
    rw [List.any_cons, List.any_cons, h.eqF hx]
    have := Reps.inV hx r
    unfold L2.inV at this
    rw [this]
theorem inr_le {neg : Bool} (hK : X.K = c.E.K) {σ : St} {H : Hp} {Q : VK} (h : tI c.E c.W (ev c.o (.inr neg ta tb)) σ H Q) : tOp (rIn X.K neg) (tI c.E c.W (ev c.o ta)) (tI c.E c.W (ev c.o tb)) σ H Q := by
  obtain ⟨ρ, S, s, w, p⟩ := h
  refine ⟨ρ, S, s, w, (Post.bind p).imp ?_⟩
  rintro x H1 ⟨ρ1, S1, s1, d1, a1, r1, p1⟩
  refine ⟨ρ1, S1, s1, a1.wd, (Post.bind p1).imp ?_⟩
  rintro y H2 ⟨ρ2, S2, s2, d2, a2, r2, p2⟩
  split at p2
  · rename_i ds e1
    obtain ⟨z, e2, p3⟩ := Post.of p2
    obtain ⟨k, e3, rfl⟩ := map_inv e2
    obtain ⟨hb, rfl⟩ := bif_inv (show (bif flat d1 && ds.all flat then some (ds.any fun y => eqF y d1) else none) = some k from e3)
    rw [Bool.and_eq_true] at hb
    have r1' := r1.mono a2.inc
    have ov : Opd c.E S2 ρ2 H2 y (view s2.g d2) := Opd.view (s := s2) a2.wd.gr r2
    have key : ∃ p xs, y = .ref p ∧ (SqL c.E.K H2 p xs ∨ SqT c.E.K H2 p xs) ∧ Reps c.E S2 ρ2 xs ds := by
      cases hv : view s2.g d2 with
      | lst es =>
        rw [hv] at e1 ov
        cases e1
        obtain ⟨a, vs, q1, q2, q3⟩ := ov.lst (s := s2) a2.wd.gr
        exact ⟨a, vs, q1, .inl q2, q3⟩
      | tup es =>
        rw [hv] at e1 ov
        cases e1
        obtain ⟨a, vs, q1, q2, q3⟩ := ov.tup (s := s2) a2.wd.gr
        exact ⟨a, vs, q1, .inr q2, q3⟩
      | _ => rw [hv] at e1; cases (show (none : Option (List D)) = some ds from e1)
    obtain ⟨pp, xs, rfl, sq, rs⟩ := key
    refine ⟨pp, xs, rfl, hK ▸ sq, by rw [r1'.flat]; exact hb.1, by rw [rs.allF]; exact hb.2, Post.here a2.wd ?_ p3⟩
    rw [rs.inV r1']
    cases neg with
    | true => exact .bl _
    | false => exact .bl _
  · exact p2.elim
theorem pi_inr {neg : Bool} {op : CmpOp} (hK : X.K = c.E.K) (ho : OpR X (compareOp op) (rIn X.K neg)) (ha : PEI c X a ta) (hb : PEI c X b tb) (hm : behindInMarks op b = false) : PEI c X (.Compare a [op] [b] pos) (.inr neg ta tb) :=
  pe_le (pe_cmpR ho ha hb hm) fun _ _ _ => inr_le hK
theorem pit_inr {neg : Bool} {op : CmpOp} (hK : X.K = c.E.K) (ho : OpR X (compareOp op) (rIn X.K neg)) (ha : PEI c X a ta) (hb : PEI c X b tb) (hm : behindInMarks op b = false) : PTI c X (.Compare a [op] [b] pos) (.inr neg ta tb) :=
  pt_le (pt_cmpR ho ha hb hm) fun _ _ _ => inr_le hK
end
end Pi
namespace Pi
open PySem L2

section
variable {c : Cn} {X : Cx} {e a b d : Expr} {ta tb td tl th : T} {pos : Pos} {rest : List Expr}

/-! ### built-in functions -/
inductive Opds (E : En) (S : Hp) (ρ : List Addr) (H : Hp) : List V → List D → Prop
  | nil : Opds E S ρ H [] []
  | cons {v : V} {d : D} {vs : List V} {ds : List D} : Opd E S ρ H v d → Opds E S ρ H vs ds → Opds E S ρ H (v :: vs) (d :: ds)
theorem Opds.view {E : En} {S H : Hp} {ρ : List Addr} {s : Pi.S} (w : Gr E ρ S s.g H) : ∀ {vs : List V} {ds : List D}, Reps E S ρ vs ds → Opds E S ρ H vs (ds.map (view s.g))
  | _, _, .nil => .nil
  | _, _, .cons h r => .cons (Opd.view w h) (Opds.view w r)
def rBi (E : En) (k : Bi) : List V → Hp → VK → Prop := fun vs H Q => ∃ ρ S g ds z, Gr E ρ S g H ∧ Opds E S ρ H vs ds ∧ biV k ds = some z ∧ Give E S ρ H z Q
theorem bi_le {k : Bi} {σ : St} {H : Hp} {Q : VK} (h : tI c.E c.W (ev c.o (.bi k ta)) σ H Q) : tCB (rBi c.E k) (tIA c.E c.W (evA c.o ta)) σ H Q := by
  obtain ⟨ρ, S, s, w, p⟩ := h
  refine ⟨ρ, S, s, w, (Post.bindA p).imp ?_⟩
  rintro x H1 ⟨ρ1, S1, s1, d1, a1, r1, p1⟩
  obtain ⟨z, e, p2⟩ := Post.of p1
  exact ⟨ρ1, S1, s1.g, _, z, a1.wd.gr, Opds.view (s := s1) a1.wd.gr r1, e, Post.give a1.wd p2⟩
theorem pi_bi {k : Bi} {x : Str} {id : String} {p : Pos} {es : List Expr} (ho : CallR X (.builtin id) (rBi c.E k)) (hg : Gl X x) (hm : X.mg x = none) (hv : bootBuiltins x = some (.builtin id)) (ha : PAI c X (e :: es) ta) (hn : x ≠ "__name__" := by decide) (hdb : (x == ("__debug__" : Str)) = false := by decide)
    (he : starEach (e :: es) X.env = (false, eval e X.env) :: starEach es X.env := by rfl) (hpl : (backTo pos (starEach es X.env)).any (·.1) = false := by rfl) : PEI c X (.Call (.Name x p) (e :: es) [] pos) (.bi k ta) :=
  pe_le (pe_callB ho hg hm hv ha hn hdb he hpl) fun _ _ _ => bi_le
theorem pi_bty {k : Bi} {x : Str} {id : String} {p : Pos} {es : List Expr} (ho : CallR X (.type id) (rBi c.E k)) (hg : Gl X x) (hm : X.mg x = none) (hv : bootBuiltins x = some (.type id)) (ha : PAI c X (e :: es) ta) (hn : x ≠ "__name__" := by decide) (hdb : (x == ("__debug__" : Str)) = false := by decide)
    (he : starEach (e :: es) X.env = (false, eval e X.env) :: starEach es X.env := by rfl) (hpl : (backTo pos (starEach es X.env)).any (·.1) = false := by rfl) : PEI c X (.Call (.Name x p) (e :: es) [] pos) (.bi k ta) :=
  pe_le (pe_callTy ho hg hm hv ha hn hdb he hpl) fun _ _ _ => bi_le
end
section
variable {X : Cx} {E : En}
theorem arg1_inv {f : D → Option D} {S H : Hp} {ρ : List Addr} {vs : List V} {ds : List D} {z : D} (o : Opds E S ρ H vs ds) (h : arg1 f ds = some z) : ∃ v d, vs = [v] ∧ Opd E S ρ H v d ∧ f d = some z := by
  cases o with
  | nil => cases (show (none : Option D) = some z from h)
  | cons h1 r =>
    cases r with
    | nil => exact ⟨_, _, rfl, h1, h⟩
    | cons _ _ => cases (show (none : Option D) = some z from h)
theorem arg2_inv {f : D → D → Option D} {S H : Hp} {ρ : List Addr} {vs : List V} {ds : List D} {z : D} (o : Opds E S ρ H vs ds) (h : arg2 f ds = some z) : ∃ v u d e, vs = [v, u] ∧ Opd E S ρ H v d ∧ Opd E S ρ H u e ∧ f d e = some z := by
  cases o with
  | nil => cases (show (none : Option D) = some z from h)
  | cons h1 r =>
    cases r with
    | nil => cases (show (none : Option D) = some z from h)
    | cons h2 r =>
      cases r with
      | nil => exact ⟨_, _, _, _, rfl, h1, h2, h⟩
      | cons _ _ => cases (show (none : Option D) = some z from h)
theorem seqD_inv {S H : Hp} {ρ : List Addr} {g : List MO} {v : V} {d : D} {ds : List D} (w : Gr E ρ S g H) (h : Opd E S ρ H v d) (e : seqD d = some ds) : ∃ a vs, v = .ref a ∧ Reps E S ρ vs ds ∧ ((SqL E.K H a vs ∧ d = .lst ds) ∨ (SqT E.K H a vs ∧ d = .tup ds)) := by
  cases d with
  | lst es =>
    cases e
    obtain ⟨a, vs, q1, q2, q3⟩ := h.lst (s := ⟨[], g⟩) w
    exact ⟨a, vs, q1, q3, .inl ⟨q2, rfl⟩⟩
  | tup es =>
    cases e
    obtain ⟨a, vs, q1, q2, q3⟩ := h.tup (s := ⟨[], g⟩) w
    exact ⟨a, vs, q1, q3, .inr ⟨q2, rfl⟩⟩
  | _ => cases (show (none : Option (List D)) = some ds from e)
theorem bii_len (hK : X.K = E.K) : CallR X (.builtin "len") (rBi E .len) := by
  intro pins s σ H xs us Q I r h
  obtain ⟨ρ, S, g, ds, z, w, ho, e, gv⟩ := h
  obtain ⟨v, d, rfl, ho, e⟩ := arg1_inv ho e
  obtain ⟨n, e1, rfl⟩ := map_inv e
  cases d with
  | lst es =>
    cases e1
    obtain ⟨a, vs, rfl, sq, rr⟩ := ho.lst (s := ⟨[], g⟩) w
    exact call_len_seq pins s σ H _ us Q I r ⟨a, vs, rfl, .inl (hK ▸ sq), by rw [rr.len]; exact gv.old _ (.int _)⟩
  | tup es =>
    cases e1
    obtain ⟨a, vs, rfl, sq, rr⟩ := ho.tup (s := ⟨[], g⟩) w
    exact call_len_seq pins s σ H _ us Q I r ⟨a, vs, rfl, .inr (hK ▸ sq), by rw [rr.len]; exact gv.old _ (.int _)⟩
  | str y =>
    obtain ⟨hb, rfl⟩ := bif_inv (show (bif decide (y.length ≤ big) then some y.length else none) = some n from e1)
    cases ho.str
    exact call_len_str pins s σ H _ us Q I r ⟨y, rfl, le_line (of_decide_eq_true hb), gv.old _ (.int _)⟩
  | _ => cases (show (none : Option Nat) = some n from e1)
theorem bii_abs : CallR X (.builtin "abs") (rBi E .abs) := by
  intro pins s σ H xs us Q I r h
  obtain ⟨ρ, S, g, ds, z, w, ho, e, gv⟩ := h
  obtain ⟨v, d, rfl, ho, e⟩ := arg1_inv ho e
  cases d with
  | int i =>
    cases e
    cases ho.int
    exact call_abs pins s σ H _ us Q I r ⟨i, rfl, gv.old _ (.int _)⟩
  | _ => cases (show (none : Option D) = some z from e)
theorem bii_int : CallR X (.type "int") (rBi E .int) := by
  intro pins s σ H xs us Q I r h
  obtain ⟨ρ, S, g, ds, z, w, ho, e, gv⟩ := h
  obtain ⟨v, d, rfl, ho, e⟩ := arg1_inv ho e
  cases d with
  | int i =>
    cases e
    cases ho.int
    exact call_int1 pins s σ H _ us Q I r (.inl ⟨i, rfl, gv.old _ (.int _)⟩)
  | _ => cases (show (none : Option D) = some z from e)
theorem bii_str : CallR X (.type "str") (rBi E .str) := by
  intro pins s σ H xs us Q I r h
  obtain ⟨ρ, S, g, ds, z, w, ho, e, gv⟩ := h
  obtain ⟨v, d, rfl, ho, e⟩ := arg1_inv ho e
  cases d with
  | int i =>
    obtain ⟨hb, rfl⟩ := bif_inv (show (bif decide (i.natAbs.log2 < 1920) then some (D.str (toString i)) else none) = some z from e)
    cases ho.int
    exact call_str_int pins s σ H _ us Q I r ⟨i, rfl, of_decide_eq_true hb, gv.old _ (.str _)⟩
  | str y =>
    cases e
    cases ho.str
    exact SkE.call_str_str pins s σ H _ us Q I r ⟨y, rfl, gv.old _ (.str _)⟩
  | _ => cases (show (none : Option D) = some z from e)
theorem bii_list (hK : X.K = E.K) : CallR X (.type "list") (rBi E .list) := by
  intro pins s σ H xs us Q I r h
  obtain ⟨ρ, S, g, ds, z, w, ho, e, gv⟩ := h
  obtain ⟨v, d, rfl, ho, e⟩ := arg1_inv ho e
  obtain ⟨es, e1, rfl⟩ := map_inv e
  obtain ⟨a, vs, rfl, rr, q⟩ := seqD_inv w ho e1
  refine call_list_of pins s σ H _ us Q I r ⟨a, vs, rfl, ?_, fun l hl => gv.lst l _ _ rfl rr hl⟩
  rcases q with ⟨q, _⟩ | ⟨q, _⟩
  · exact .inl (hK ▸ q)
  · exact .inr (hK ▸ q)
theorem bii_tuple (hK : X.K = E.K) : CallR X (.type "tuple") (rBi E .tuple) := by
  intro pins s σ H xs us Q I r h
  obtain ⟨ρ, S, g, ds, z, w, ho, e, gv⟩ := h
  obtain ⟨v, d, rfl, ho, e⟩ := arg1_inv ho e
  obtain ⟨es, e1, rfl⟩ := map_inv e
  obtain ⟨a, vs, rfl, rr, q⟩ := seqD_inv w ho e1
  refine call_tuple_of pins s σ H _ us Q I r ⟨a, vs, rfl, ?_⟩
  rcases q with ⟨q, _⟩ | ⟨q, rfl⟩
  · exact .inl ⟨hK ▸ q, fun l hl => gv.tup l _ _ rfl rr hl⟩
  · refine .inr ⟨hK ▸ q, gv.old _ ?_⟩
    cases ho with | rep r' => exact r'
theorem bools_inv {S : Hp} {ρ : List Addr} : ∀ {ds : List D} {bs : List Bool} {vs : List V}, bools ds = some bs → Reps E S ρ vs ds → vs = bs.map V.bl
  | [], bs, vs, e, r => by cases e; cases r; rfl
  | .bl b :: ds, bs, vs, e, r => by
    obtain ⟨cs, e1, rfl⟩ := map_inv (show (bools ds).map (b :: ·) = some bs from e)
    cases r with
    | cons h r =>
      cases h
      rw [bools_inv e1 r]
      rfl
  | .non :: _, _, _, e, _ => by cases e
  | .int _ :: _, _, _, e, _ => by cases e
  | .str _ :: _, _, _, e, _ => by cases e
  | .tup _ :: _, _, _, e, _ => by cases e
  | .lst _ :: _, _, _, e, _ => by cases e
  | .ins _ _ :: _, _, _, e, _ => by cases e
  | .ref _ :: _, _, _, e, _ => by cases e
theorem lst1_inv {f : List D → Option D} {d z : D} (h : lst1 f d = some z) : ∃ ds, d = .lst ds ∧ f ds = some z := by
  cases d with
  | lst ds => exact ⟨ds, rfl, h⟩
  | _ => cases (show (none : Option D) = some z from h)
theorem bii_all (hK : X.K = E.K) (hc : X.calm = true) : CallR X (.builtin "all") (rBi E .all) := by
  intro pins s σ H xs us Q I r h
  obtain ⟨ρ, S, g, ds, z, w, ho, e, gv⟩ := h
  obtain ⟨v, d, rfl, ho, e⟩ := arg1_inv ho e
  obtain ⟨es, rfl, e⟩ := lst1_inv e
  obtain ⟨k, e1, rfl⟩ := map_inv e
  obtain ⟨bs, e2, rfl⟩ := map_inv (show (bools es).map (·.all id) = some k from e1)
  obtain ⟨a, vs, rfl, sq, rr⟩ := ho.lst (s := ⟨[], g⟩) w
  cases bools_inv e2 rr
  exact cr_all hc pins s σ H _ us Q I r ⟨a, bs, rfl, hK ▸ sq, gv.old _ (.bl _)⟩
theorem bii_any (hK : X.K = E.K) (hc : X.calm = true) : CallR X (.builtin "any") (rBi E .any) := by
  intro pins s σ H xs us Q I r h
  obtain ⟨ρ, S, g, ds, z, w, ho, e, gv⟩ := h
  obtain ⟨v, d, rfl, ho, e⟩ := arg1_inv ho e
  obtain ⟨es, rfl, e⟩ := lst1_inv e
  obtain ⟨k, e1, rfl⟩ := map_inv e
  obtain ⟨bs, e2, rfl⟩ := map_inv (show (bools es).map (·.any id) = some k from e1)
  obtain ⟨a, vs, rfl, sq, rr⟩ := ho.lst (s := ⟨[], g⟩) w
  cases bools_inv e2 rr
  exact cr_any hc pins s σ H _ us Q I r ⟨a, bs, rfl, hK ▸ sq, gv.old _ (.bl _)⟩
theorem i2_inv {f : Int → Int → Option D} {S H : Hp} {ρ : List Addr} {x y : V} {d e z : D} (h1 : Opd E S ρ H x d) (h2 : Opd E S ρ H y e) (h : i2V f d e = some z) : ∃ i j, x = .int i ∧ y = .int j ∧ f i j = some z := by
  obtain ⟨i, j, rfl, rfl, q⟩ := i2V_inv h
  exact ⟨i, j, h1.int, h2.int, q⟩
theorem bii_max2 (hc : X.calm = true) : CallR X (.builtin "max") (rBi E .max2) := by
  intro pins s σ H xs us Q I r h
  obtain ⟨ρ, S, g, ds, z, w, ho, e, gv⟩ := h
  obtain ⟨v, u, d, d2, rfl, h1, h2, e⟩ := arg2_inv ho e
  obtain ⟨i, j, rfl, rfl, q⟩ := i2_inv h1 h2 e
  cases q
  exact call_max2 hc pins s σ H _ us Q I r ⟨i, j, rfl, gv.old _ (.int _)⟩
theorem bii_min2 (hc : X.calm = true) : CallR X (.builtin "min") (rBi E .min2) := by
  intro pins s σ H xs us Q I r h
  obtain ⟨ρ, S, g, ds, z, w, ho, e, gv⟩ := h
  obtain ⟨v, u, d, d2, rfl, h1, h2, e⟩ := arg2_inv ho e
  obtain ⟨i, j, rfl, rfl, q⟩ := i2_inv h1 h2 e
  cases q
  exact call_min2 hc pins s σ H _ us Q I r ⟨i, j, rfl, gv.old _ (.int _)⟩
end

/-! ### an instance is made -/
abbrev atB (p : Addr) : Bs := ⟨fun a => a = p, fun a => a = p⟩
def PostN (E : En) (ρ : List Addr) (S H : Hp) (p : Addr) (k : Nat) (r : CI) (Q : VK) (Z : XK) : Prop := match r with
  | .ok fs g' => ∀ ρ' S' H' dx fv, Step ρ S (atB p) H ρ' S' (atB p) H' → Gr E ρ' S' g' H' → H' p = some (.ins (E.cl k) dx fv) → E.fits k fs → RepF E S' ρ' fv fs → S' p = none → p ∉ ρ' → Q .non H'
  | .ex c fs g' => ∀ ρ' S' H' x fv, Step ρ S (atB p) H ρ' S' (atB p) H' → Gr E ρ' S' g' H' → S' x = some (.xd fv) → RepF E S' ρ' fv fs → Z (.ref (E.cl c)) (some x) H'
  | .no => False
def spN (E : En) (n k : Nat) (m : List D → List MO → CI) : Sp := fun vs H Q Z => ∃ p ws dx ρ S g ds, vs = .ref p :: ws ∧ ws.length = n ∧ H p = some (.ins (E.cl k) dx []) ∧ S p = none ∧ p ∉ ρ ∧ Gr E ρ S g H ∧ Reps E S ρ ws ds ∧ PostN E ρ S H p k (m ds g) Q Z
structure Maker (c : Cn) (X : Cx) (x : Str) (k n : Nat) (df : List D) : Prop where
  co : c.E.co k = true
  ex : ∃ (j : Nat) (f : Addr) (fd : FuncData) (ps : List Str) (dvs : List V) (ds : List Value), Mk X.K (c.E.cl k) f ∧ FnG X.prog X.w X.K X.mg X.base j f fd ps (spN c.E n k (c.o.init k)) ∧ X.A.guards = some [] ∧ Room (j + 1) X.A ∧
    X.mg x = some (.ref (c.E.cl k)) ∧ Binds X.K fd ps ds ∧ Vals dvs ds ∧ ∀ S ρ, Reps c.E S ρ dvs df
theorem Gr.off2 {E : En} {ρ : List Addr} {S H H' : Hp} {g : List MO} (w : Gr E ρ S g H) (k : ∀ a, H a ≠ none → H' a = H a) : Gr E ρ S g H' := by
  refine ⟨fun a o e => ?_, w.len, w.nd, w.off, fun n a m e1 e2 => ?_⟩
  · have := w.sub a o e
    rw [k a (by rw [this]; exact fun z => nomatch z)]
    exact this
  · refine (w.ob n a m e1 e2).mono (Inc.refl _ _) fun o q => ?_
    rw [k a (by rw [q]; exact fun z => nomatch z)]
    exact q
/-- the made instance is handed on -/
theorem made {E : En} {ρ ρ' : List Addr} {S S' H H1 H' : Hp} {s : Pi.S} {g' : List MO} {σ : St} {x dx' : Addr} {k : Nat} {fv : List (Str × V)} (w : Wd E ρ S s σ H) (hx : H x = none) (h1 : ∀ a, H a ≠ none → H1 a = H a)
    (st : Step ρ S (atB x) H1 ρ' S' (atB x) H') (gr : Gr E ρ' S' g' H') (hp : H' x = some (.ins (E.cl k) dx' fv)) (sx : S' x = none) (nx : x ∉ ρ') :
    let S2 := upd S' x (.ins (E.cl k) dx' fv)
    Wd E ρ' S2 ⟨s.l, g'⟩ σ H' ∧ Step ρ S (Ow σ s.l) H ρ' S2 (Ow σ s.l) H' ∧ Inc S' ρ' S2 ρ' := by
  intro S2
  have i2 : Inc S' ρ' S2 ρ' := Inc.new sx
  have dom : ∀ a, H1 a = none → H a = none := fun a e => by
    cases q : H a with
    | none => rfl
    | some o => rw [h1 a (by rw [q]; exact fun z => nomatch z), q] at e; cases e
  have off : ∀ a, Ow σ s.l a → a ∉ ρ ∧ S a = none ∧ ∃ o, H a = some o := fun a ⟨i, q1, q2⟩ => by
    rcases q2 with ⟨ds, q2⟩ | ⟨k, fs, q2⟩
    · obtain ⟨a', vs, z1, z2, z3, z4, z5⟩ := w.sl.own i ds q2
      rw [q1] at z1; cases z1; exact ⟨z5, z4, _, z2⟩
    · obtain ⟨a', dx, fv, z1, z2, zf, z3, z4, z5⟩ := w.sl.ob i k fs q2
      rw [q1] at z1; cases z1; exact ⟨z5, z4, _, z2⟩
  have frH : ∀ a o, H a = some o → a ∉ ρ → H' a = some o := fun a o e n => by
    have e1 : H1 a = some o := by rw [h1 a (by rw [e]; exact fun z => nomatch z)]; exact e
    exact st.fr a o e1 n fun z => by rw [z, hx] at e; cases e
  have nS : ∀ a o, S2 a = some o → S a = some o ∨ H a = none := fun a o e => by
    by_cases q : a = x
    · subst q; exact .inr hx
    · have e' : S' a = some o := by rw [← upd_ne (H := S') (o := .ins (E.cl k) dx' fv) q]; exact e
      rcases st.nS a o e' with z | z | z
      · exact .inl z
      · exact .inr (dom a z)
      · exact absurd z q
  have gr2 : Gr E ρ' S2 g' H' := by
    refine ⟨fun a o e => ?_, gr.len, gr.nd, fun a ha => ?_, fun n a m e1 e2 => (gr.ob n a m e1 e2).mono i2 fun _ q => q⟩
    · by_cases q : a = x
      · subst q
        have e' : some (HO.ins (E.cl k) dx' fv) = some o := by rw [← upd_same (H := S') (a := a) (o := .ins (E.cl k) dx' fv)]; exact e
        rw [hp]
        exact e'
      · exact gr.sub a o (by rw [← upd_ne (H := S') (o := .ins (E.cl k) dx' fv) q]; exact e)
    · show upd S' x _ a = none
      rw [upd_ne (show a ≠ x from fun z => nx (z ▸ ha))]
      exact gr.off a ha
  refine ⟨⟨gr2, w.sl.keep (st.inc.trans i2) (fun a o u e => frH a u e (off a o).1) (fun a o ne e => ?_) fun a o ne n z => ?_⟩, ⟨st.inc.trans i2, fun a ha => ?_, fun a o e => ?_, fun a h => .inl h, fun a o e n _ => frH a o e n, fun a e => ?_, fun _ h => h⟩, i2⟩
  · cases q : S2 a with
    | none => rfl
    | some u =>
      rcases nS a u q with z | z
      · rw [e] at z; cases z
      · exact absurd z ne
  · rcases st.nρ a z with y | y
    · exact n y
    · exact ne (dom a y)
  · rcases st.nρ a ha with y | y
    · exact .inl y
    · exact .inr (dom a y)
  · rcases nS a o e with z | z
    · exact .inl z
    · exact .inr (.inl z)
  · exact dom a (st.dom a e)
section
variable {c : Cn} {X : Cx} {e a b d : Expr} {ta tb td tl th : T} {pos : Pos} {rest : List Expr}
/-- the exception of an __init__: the instance that was begun is left alone -/
theorem unmade {E : En} {ρ ρ' : List Addr} {S S' H H1 H' : Hp} {s : Pi.S} {g' : List MO} {σ : St} {x : Addr} (w : Wd E ρ S s σ H) (hx : H x = none) (h1 : ∀ a, H a ≠ none → H1 a = H a)
    (st : Step ρ S (atB x) H1 ρ' S' (atB x) H') (gr : Gr E ρ' S' g' H') :
    Wd E ρ' S' ⟨s.l, g'⟩ σ H' ∧ Step ρ S (Ow σ s.l) H ρ' S' (Ow σ s.l) H' := by
  have dom : ∀ a, H1 a = none → H a = none := fun a e => by
    cases q : H a with
    | none => rfl
    | some o => rw [h1 a (by rw [q]; exact fun z => nomatch z), q] at e; cases e
  have off : ∀ a, Ow σ s.l a → a ∉ ρ ∧ S a = none ∧ ∃ o, H a = some o := fun a ⟨i, q1, q2⟩ => by
    rcases q2 with ⟨ds, q2⟩ | ⟨k, fs, q2⟩
    · obtain ⟨a', vs, z1, z2, z3, z4, z5⟩ := w.sl.own i ds q2
      rw [q1] at z1; cases z1; exact ⟨z5, z4, _, z2⟩
    · obtain ⟨a', dx, fv, z1, z2, zf, z3, z4, z5⟩ := w.sl.ob i k fs q2
      rw [q1] at z1; cases z1; exact ⟨z5, z4, _, z2⟩
  have frH : ∀ a o, H a = some o → a ∉ ρ → H' a = some o := fun a o e n => by
    have e1 : H1 a = some o := by rw [h1 a (by rw [e]; exact fun z => nomatch z)]; exact e
    exact st.fr a o e1 n fun z => by rw [z, hx] at e; cases e
  have nS : ∀ a o, S' a = some o → S a = some o ∨ H a = none := fun a o e => by
    rcases st.nS a o e with z | z | z
    · exact .inl z
    · exact .inr (dom a z)
    · subst z; exact .inr hx
  refine ⟨⟨gr, w.sl.keep st.inc (fun a o u e => frH a u e (off a o).1) (fun a o ne e => ?_) fun a o ne n z => ?_⟩, ⟨st.inc, fun a ha => ?_, fun a o e => ?_, fun a h => .inl h, fun a o e n _ => frH a o e n, fun a e => dom a (st.dom a e), fun _ h => h⟩⟩
  · cases q : S' a with
    | none => rfl
    | some u =>
      rcases nS a u q with z | z
      · rw [e] at z; cases z
      · exact absurd z ne
  · rcases st.nρ a z with y | y
    · exact n y
    · exact ne (dom a y)
  · rcases st.nρ a ha with y | y
    · exact .inl y
    · exact .inr (dom a y)
  · rcases nS a o e with z | z
    · exact .inl z
    · exact .inr (.inl z)
theorem pi_mk {x : Str} {p : Pos} {es : List Expr} {k n : Nat} {df : List D} {Z : XK} (hz : c.W = fun k d _ H => Z k d H) (tk : Takes X c.W) (F : Maker c X x k n df) (hg : Gl X x) (ha : PAI c X (e :: es) ta) (hl : ta.len + df.length = n := by rfl) (hdb : (x == ("__debug__" : Str)) = false := by decide)
    (he : starEach (e :: es) X.env = (false, eval e X.env) :: starEach es X.env := by rfl) (hpl : (backTo pos (starEach es X.env)).any (·.1) = false := by rfl) : PEI c X (.Call (.Name x p) (e :: es) [] pos) (.mk k ta df) := by
  obtain ⟨j, f, fd, ps, dvs, ds, M, G, hgd, hr, hm, hb, hd, hdf⟩ := F.ex
  refine pe_le (pe_makeG (Z := Z) M G hgd hr hg hm hb hd (passes_call tk fun cls d σ H h => by rw [hz]; exact h) ha hdb he hpl) fun σ H Q h => ?_
  obtain ⟨ρ, S, s, w, p⟩ := h
  refine ⟨ρ, S, s, w, (Post.bindA2 p).imp ?_⟩
  rintro vs H1 ⟨ρ1, S1, s1, d1, e1, a1, r1, p1⟩
  intro q dx hq hdx hne
  have k1 : ∀ a, H1 a ≠ none → (upd (upd H1 dx (.own q)) q (.ins (c.E.cl k) dx [])) a = H1 a := fun a ne => by
    rw [upd_ne (show a ≠ q from fun z => ne (z ▸ hq)), upd_ne (show a ≠ dx from fun z => ne (z ▸ hdx))]
  obtain ⟨f1, f2⟩ := a1.wd.gr.fresh hq
  refine ⟨q, _, dx, ρ1, S1, s1.g, d1 ++ df, rfl, ?_, upd_same, f1, f2, a1.wd.gr.off2 k1, r1.append (hdf S1 ρ1), ?_⟩
  · rw [List.length_append, r1.len, (hdf S1 ρ1).len, evA_len e1, hl]
  · show PostN c.E ρ1 S1 _ q k (c.o.init k (d1 ++ df) s1.g) _ Z
    have p2 : Post c.E c.W σ ρ1 S1 s1.l H1 (R.ofCI s1.l k (c.o.init k (d1 ++ df) s1.g)) Q := p1
    cases hc : c.o.init k (d1 ++ df) s1.g with
    | ok fs g' =>
      rw [hc] at p2
      intro ρ' S' H' dx' fv st gr hp hf rf sp np
      obtain ⟨w3, st3, i3⟩ := made (E := c.E) a1.wd hq k1 st gr hp sp np
      exact ⟨rfl, p2 _ ρ' _ H' st3 w3 (.ins upd_same hf (rf.mono i3))⟩
    | ex k' fs g' =>
      rw [hc] at p2
      intro ρ' S' H' y fv st gr hy rf
      obtain ⟨w3, st3⟩ := unmade (E := c.E) a1.wd hq k1 st gr
      have := p2 ρ' S' H' y fv st3 w3 hy rf
      rw [hz] at this
      exact this
    | no => rw [hc] at p2; exact p2
end
end Pi
namespace Pi
open PySem L2

section
variable {c : Cn} {X : Cx} {e a b d o : Expr} {ta tb td tl th : T} {pos apos : Pos} {rest es : List Expr}

/-! ### methods: the class is found where the call is done -/
structure Way (c : Cn) (X : Cx) (m : Str) (f n : Nat) (C : Addr) (df : List D) : Prop where
  ex : ∃ (k : Nat) (a : Addr) (fd : FuncData) (ps : List Str) (dvs : List V) (ds : List Value), FnG X.prog X.w X.K X.mg X.base k a fd ps (spI c.E (n + 1) (c.o.call f)) ∧ X.A.guards = some [] ∧ Room k X.A ∧
    Meth X.K C m a ∧ Binds X.K fd ps ds ∧ Vals dvs ds ∧ ∀ S ρ, Reps c.E S ρ dvs df
/-- every class that has the method -/
structure Ways (c : Cn) (X : Cx) (m : Str) (mi n : Nat) (df : List D) : Prop where
  no : ∀ i, i < c.E.nat → c.E.at_ i ≠ m
  ex : ∀ k f, c.E.co k = true → c.o.meth k mi = some f → Way c X m f n (c.E.cl k) df
theorem clsS_inv {E : En} {S H : Hp} {ρ : List Addr} {g : List MO} {x : V} {d : D} {k : Nat} (w : Gr E ρ S g H) (r : Rep E S ρ x d) (h : clsS g d = some k) : ∃ a dx fv fs, x = .ref a ∧ H a = some (.ins (E.cl k) dx fv) ∧ E.fits k fs ∧ RepF E S ρ fv fs := by
  cases r with
  | ins h1 h2 h3 =>
    cases h
    exact ⟨_, _, _, _, rfl, w.sub _ _ h1, h2, h3⟩
  | @ref a n h1 =>
    have e2 : (match g[n]? with
      | some (.ins c _) => some c
      | _ => none) = some k := h
    split at e2
    · rename_i k' fs q
      cases e2
      obtain ⟨dx, fv, q1, q2, q3⟩ := w.ob n a _ h1 q
      exact ⟨a, dx, fv, fs, rfl, q1, q2, q3⟩
    · cases e2
  | non => cases h
  | bl _ => cases h
  | int _ => cases h
  | str _ => cases h
  | tup _ _ => cases h
  | lst _ _ => cases h
theorem pi_meth {m : Str} {mi n : Nat} {df : List D} {pl : Sem Bool} (hK : X.K = c.E.K) (tk : Takes X c.W) (F : Ways c X m mi n df) (he : PEI c X o ta) (ha : PAI c X (e :: es) tb) (hl : tb.len + df.length = n := by rfl)
    (hst : starEach (e :: es) X.env = (false, eval e X.env) :: starEach es X.env := by rfl) (hpl : (backTo pos (starEach es X.env)).any (·.1) = false := by rfl)
    (ht : eval (.Call (.Attribute o m apos) (e :: es) [] pos) X.env = (do
      let ov ← eval o X.env
      standAt apos.atName
      let (f, first) ← holding [ov] (getMethod ov m pl)
      callWith pos f first (backTo pos (starEach (e :: es) X.env)) (backToKw pos (keywordEach [] X.env))) := by rfl) : PEI c X (.Call (.Attribute o m apos) (e :: es) [] pos) (.meth mi ta tb df) := by
  refine ⟨fun pins s0 σ H Q I h => ?_⟩
  obtain ⟨ρ, S, s, w, p⟩ := h
  refine methcall_of (te := tI c.E c.W (ev c.o ta)) he I ?_ ht
  refine ⟨ρ, S, s, w, (Post.bind p).imp ?_⟩
  rintro x H1 ⟨ρ1, S1, s1, d1, a1, r1, p1⟩
  split at p1
  · rename_i k hk
    split at p1
    · rename_i f hf
      obtain ⟨q, dx, fv, fs, rfl, h1, h2, h3⟩ := clsS_inv a1.wd.gr r1 hk
      obtain ⟨j, g, fd, ps, dvs, ds, G, hgd, hr, hm, hb, hd, hdf⟩ := (F.ex k f h2.1 hf).ex
      refine ⟨q, _, dx, fv, g, rfl, h1, hK ▸ (c.E.cok k h2.1).1, hm, h3.out F.no, fun s2 I2 => ?_⟩
      refine PySem.W.callWith_K (first := [.ref q]) (h₀ := X.base) I2.ok.mod.kin hm.kp (thn (ha.run pos pins s2 σ H1 (fun vs H2 => spI c.E (n + 1) (c.o.call f) (.ref q :: (vs ++ dvs)) H2 Q (WE c.W σ)) I2 ?_) fun us s3 ⟨vs, H2, I3, r, q2⟩ => ⟨I3.kIn, ?_⟩) hst hpl
      · refine ⟨ρ1, S1, s1, a1.wd, (Post.bindA2 p1).imp ?_⟩
        rintro vs H2 ⟨ρ2, S2, s2, d2, e2, a2, r2, p2⟩
        refine ⟨?_, ρ2, S2, s2.g, _, a2.wd.gr, .cons (r1.mono a2.inc) (r2.append (hdf S2 ρ2)), p2.call a2.wd⟩
        rw [List.length_cons, List.length_append, r2.len, (hdf S2 ρ2).len, evA_len e2, hl]
      · exact run_gD (W := fun σ => WE c.W σ) (us := .ref q :: us) (vs := .ref q :: vs) G hgd hr hb hd (passAt tk σ) I3 (.cons rfl r) q2
    · exact p1.elim
  · exact p1.elim
theorem pi_meth0 {m : Str} {mi n : Nat} {df : List D} {pl : Sem Bool} (hK : X.K = c.E.K) (tk : Takes X c.W) (F : Ways c X m mi n df) (he : PEI c X o ta) (hl : df.length = n := by rfl)
    (ht : eval (.Call (.Attribute o m apos) [] [] pos) X.env = (do
      let ov ← eval o X.env
      standAt apos.atName
      let (f, first) ← holding [ov] (getMethod ov m pl)
      callWith pos f first (backTo pos (starEach [] X.env)) (backToKw pos (keywordEach [] X.env))) := by rfl) : PEI c X (.Call (.Attribute o m apos) [] [] pos) (.meth mi ta .nil df) := by
  refine ⟨fun pins s0 σ H Q I h => ?_⟩
  obtain ⟨ρ, S, s, w, p⟩ := h
  refine methcall_of (te := tI c.E c.W (ev c.o ta)) he I ?_ ht
  refine ⟨ρ, S, s, w, (Post.bind p).imp ?_⟩
  rintro x H1 ⟨ρ1, S1, s1, d1, a1, r1, p1⟩
  split at p1
  · rename_i k hk
    split at p1
    · rename_i f hf
      obtain ⟨q, dx, fv, fs, rfl, h1, h2, h3⟩ := clsS_inv a1.wd.gr r1 hk
      obtain ⟨j, g, fd, ps, dvs, ds, G, hgd, hr, hm, hb, hd, hdf⟩ := (F.ex k f h2.1 hf).ex
      refine ⟨q, _, dx, fv, g, rfl, h1, hK ▸ (c.E.cok k h2.1).1, hm, h3.out F.no, fun s2 I2 => ?_⟩
      have p2 : Post c.E c.W σ ρ1 S1 s1.l H1 (R.ofC s1.l (c.o.call f (d1 :: ([] ++ df)) s1.g)) Q := p1
      have hsp : spI c.E (n + 1) (c.o.call f) (.ref q :: dvs) H1 Q (WE c.W σ) := by
        refine ⟨?_, ρ1, S1, s1.g, _, a1.wd.gr, .cons r1 (hdf S1 ρ1), p2.call a1.wd⟩
        rw [List.length_cons, (hdf S1 ρ1).len, hl]
      exact PySem.W.callWith_K0 (first := [.ref q]) I2.kIn hm.kp (run_gD (W := fun σ => WE c.W σ) (us := [.ref q]) (vs := [.ref q]) G hgd hr hb hd (passAt tk σ) I2 (.cons rfl .nil) hsp)
    · exact p1.elim
  · exact p1.elim
end
end Pi
namespace Pi
open PySem L2

/-! ### slots -/
section
variable {E : En} {ρ : List Addr} {S H : Hp} {s : Pi.S} {σ : St} {l : List SV}
theorem Ow_set {i : Nat} {v : V} {d : D} {a : Addr} (hl : σ.length = l.length) (h : Ow (σ.set i (some v)) (l.set i (.v d)) a) : Ow σ l a := by
  obtain ⟨j, h1, h2⟩ := h
  by_cases q : i = j
  · subst q
    exfalso
    by_cases hi : i < l.length
    · rcases h2 with ⟨ds, h2⟩ | ⟨k, fs, h2⟩
      · rw [List.getElem?_set_self hi] at h2; cases h2
      · rw [List.getElem?_set_self hi] at h2; cases h2
    · rw [List.getElem?_eq_none (by rw [List.length_set]; omega)] at h1
      cases h1
  · rw [List.getElem?_set_ne q] at h1
    refine ⟨j, h1, ?_⟩
    rcases h2 with ⟨ds, h2⟩ | ⟨k, fs, h2⟩
    · rw [List.getElem?_set_ne q] at h2; exact .inl ⟨ds, h2⟩
    · rw [List.getElem?_set_ne q] at h2; exact .inr ⟨k, fs, h2⟩
theorem Ob_set {i : Nat} {v : V} {d : D} {a : Addr} (hl : σ.length = l.length) (h : ObP (σ.set i (some v)) (l.set i (.v d)) a) : ObP σ l a := by
  obtain ⟨j, h1, c, fs, h2⟩ := h
  by_cases q : i = j
  · subst q
    exfalso
    by_cases hi : i < l.length
    · rw [List.getElem?_set_self hi] at h2; cases h2
    · rw [List.getElem?_eq_none (by rw [List.length_set]; omega)] at h1
      cases h1
  · rw [List.getElem?_set_ne q] at h1 h2
    exact ⟨j, h1, c, fs, h2⟩
theorem Sl.set {i : Nat} {v : V} {d : D} (w : Sl E ρ S H σ l) (r : Rep E S ρ v d) : Sl E ρ S H (σ.set i (some v)) (l.set i (.v d)) := by
  have ne : ∀ {j : Nat} {x : SV}, (l.set i (.v d))[j]? = some x → (∀ d, x ≠ .v d) → i ≠ j ∧ l[j]? = some x := fun {j x} e n => by
    by_cases q : i = j
    · subst q
      by_cases hi : i < l.length
      · rw [List.getElem?_set_self hi] at e; cases e; exact absurd rfl (n _)
      · rw [List.getElem?_eq_none (by rw [List.length_set]; omega)] at e; cases e
    · rw [List.getElem?_set_ne q] at e; exact ⟨q, e⟩
  refine ⟨by simp [w.len], fun j d' e => ?_, fun j ds e => ?_, fun j k fs e => ?_, fun j k a hjk h1 h2 e => ?_⟩
  · by_cases q : i = j
    · subst q
      by_cases hi : i < l.length
      · rw [List.getElem?_set_self hi] at e
        cases e
        exact ⟨v, by rw [List.getElem?_set_self (by rw [w.len]; exact hi)], r⟩
      · rw [List.getElem?_eq_none (by rw [List.length_set]; omega)] at e; cases e
    · rw [List.getElem?_set_ne q] at e
      rw [List.getElem?_set_ne q]
      exact w.v j d' e
  · obtain ⟨q, e'⟩ := ne e fun _ z => nomatch z
    rw [List.getElem?_set_ne q]
    exact w.own j ds e'
  · obtain ⟨q, e'⟩ := ne e fun _ z => nomatch z
    rw [List.getElem?_set_ne q]
    exact w.ob j k fs e'
  · have g : ∀ {m : Nat}, ((∃ ds, (l.set i (.v d))[m]? = some (.own ds)) ∨ ∃ c fs, (l.set i (.v d))[m]? = some (.ob c fs)) → i ≠ m ∧ ((∃ ds, l[m]? = some (.own ds)) ∨ ∃ c fs, l[m]? = some (.ob c fs)) := fun {m} h => by
      rcases h with ⟨ds, h⟩ | ⟨c, fs, h⟩
      · obtain ⟨q, e'⟩ := ne h fun _ z => nomatch z
        exact ⟨q, .inl ⟨ds, e'⟩⟩
      · obtain ⟨q, e'⟩ := ne h fun _ z => nomatch z
        exact ⟨q, .inr ⟨c, fs, e'⟩⟩
    obtain ⟨q1, g1⟩ := g h1
    obtain ⟨q2, g2⟩ := g h2
    rw [List.getElem?_set_ne q1] at e
    rw [List.getElem?_set_ne q2]
    exact w.dist j k a hjk g1 g2 e
theorem Step.ow {B B' B2 : Bs} {ρ' : List Addr} {S' H' : Hp} (st : Step ρ S B H ρ' S' B' H') (h : ∀ a, (B2 a → B' a) ∧ (B2.o a → B'.o a)) : Step ρ S B H ρ' S' B2 H' :=
  ⟨st.inc, st.nρ, st.nS, fun a z => st.nB a ((h a).1 z), st.fr, st.dom, fun a z => st.nO a ((h a).2 z)⟩
end

/-! ### targets -/
/-- a target stores a value as the semantics says -/
def TgOk (E : En) (g : TG) (t : Tgt) : Prop := ∀ (ρ : List Addr) (S : Hp) (s : Pi.S) (σ : St) (H : Hp) (x : V) (d : D) (l : List SV) (Q : St → Hp → Prop), Wd E ρ S s σ H → Rep E S ρ x d → tgS t d s.l = some l →
  (∀ σ', Wd E ρ S ⟨l, s.g⟩ σ' H → (∀ a, ((Ow σ' l) a → (Ow σ s.l) a) ∧ (ObP σ' l a → ObP σ s.l a)) → Q σ' H) → g x σ H Q
structure PGI (c : Cn) (X : Cx) (tg : Expr) (t : Tgt) : Prop where
  ex : ∃ g, PG X tg g ∧ TgOk c.E g t
theorem pgi_one {c : Cn} {X : Cx} {i : Nat} {x : Str} {pos : Pos} (hN : X.N.Nodup) (hi : X.N[i]? = some x) (hx : Loc X.env.scope x) (hf : X.fn x = true ∨ X.env.scope.names.lookup x = some .local := by first | exact .inl rfl | exact .inr rfl) : PGI c X (.Name x pos) (.one i) :=
  ⟨_, pg_name hN hi hx hf, fun ρ S s σ H x d l Q w r e k => by
    cases e
    exact k _ ⟨w.gr, w.sl.set r⟩ fun a => ⟨Ow_set w.sl.len, Ob_set w.sl.len⟩⟩
def gAll : List Nat → TGs
  | [] => gNil
  | i :: is => gCons (gName i) (gAll is)
theorem gAll_ok {E : En} : ∀ (is : List Nat) {ρ : List Addr} {S : Hp} {s : Pi.S} {σ : St} {H : Hp} {xs : List V} {ds : List D} {l : List SV} {Q : St → Hp → Prop}, Wd E ρ S s σ H → Reps E S ρ xs ds → setAll is ds s.l = some l →
    (∀ σ', Wd E ρ S ⟨l, s.g⟩ σ' H → (∀ a, ((Ow σ' l) a → (Ow σ s.l) a) ∧ (ObP σ' l a → ObP σ s.l a)) → Q σ' H) → gAll is xs σ H Q
  | [], ρ, S, s, σ, H, _, _, l, Q, w, .nil, e, k => by
    cases e
    exact ⟨rfl, k σ w fun _ => ⟨fun h => h, fun h => h⟩⟩
  | [], ρ, S, s, σ, H, _, _, l, Q, w, .cons _ _, e, k => by cases e
  | i :: is, ρ, S, s, σ, H, _, _, l, Q, w, .nil, e, k => by cases e
  | i :: is, ρ, S, s, σ, H, _, _, l, Q, w, .cons (v := v) (vs := vs) (d := d) (ds := ds) h r, e, k => by
    refine ⟨v, vs, rfl, ?_⟩
    have w1 : Wd E ρ S ⟨s.l.set i (.v d), s.g⟩ (σ.set i (some v)) H := ⟨w.gr, w.sl.set h⟩
    exact gAll_ok is w1 r e fun σ' w' ow => k σ' w' fun a => ⟨fun z => Ow_set w.sl.len ((ow a).1 z), fun z => Ob_set w.sl.len ((ow a).2 z)⟩
theorem setAll_len : ∀ (is : List Nat) (ds : List D) (l l' : List SV), setAll is ds l = some l' → ds.length = is.length := by
  intro is
  induction is with
  | nil => intro ds l l' e; cases ds with | nil => rfl | cons _ _ => cases e
  | cons i is ih => intro ds l l' e; cases ds with | nil => cases e | cons d ds => simp [ih ds _ _ e]
/-- (a, b, ..) = a tuple or a list of that length -/
def gAny (K : PySem.W.Frag) (n : Nat) (t : TGs) : TG := fun v σ H Q => ∃ a xs, v = .ref a ∧ (SqT K H a xs ∨ SqL K H a xs) ∧ xs.length = n ∧ t xs σ H Q
theorem pg_any {X : Cx} {pos : Pos} {es : List Expr} {k : Nat} {t : TGs} {n : Nat} (hc : X.calm = true) (h : PGs X es t)
    (hn : (assignEach es X.env).length = n := by rfl) (hst : (assignEach es X.env).findIdx? (·.1) = none := by rfl) : PG X (.Tuple es k pos) (gAny X.K n t) := by
  refine ⟨fun pins s σ H v u Q I r hw => ?_⟩
  obtain ⟨a, xs, e1, hq, hl, hw⟩ := hw
  rcases hq with hq | hq
  · exact (pg_tup hc h hn hst).run pins s σ H v u Q I r ⟨a, xs, e1, hq, hl, hw⟩
  · exact (pg_unl hc h hn hst).run pins s σ H v u Q I r ⟨a, xs, e1, hq, hl, hw⟩
theorem pgi_tup {c : Cn} {X : Cx} {es : List Expr} {k : Nat} {is : List Nat} {pos : Pos} (hK : X.K = c.E.K) (hc : X.calm = true) (h : PGs X es (gAll is)) (hl : is.length = es.length)
    (hn : (assignEach es X.env).length = es.length := by rfl) (hst : (assignEach es X.env).findIdx? (·.1) = none := by rfl) : PGI c X (.Tuple es k pos) (.tup is) :=
  ⟨_, pg_any hc h hn hst, fun ρ S s σ H x d l Q w r e kk => by
    cases r with
    | tup h r =>
      rename_i a vs ds
      have e' : setAll is ds s.l = some l := e
      refine ⟨a, vs, rfl, .inl (hK ▸ sqT_mono w.gr.sub h), ?_, gAll_ok is w r e' kk⟩
      rw [r.len, setAll_len _ _ _ _ e', hl]
    | lst h r =>
      rename_i a vs ds
      have e' : setAll is ds s.l = some l := e
      refine ⟨a, vs, rfl, .inr (hK ▸ sqL_mono w.gr.sub h), ?_, gAll_ok is w r e' kk⟩
      rw [r.len, setAll_len _ _ _ _ e', hl]
    | non => cases e
    | bl _ => cases e
    | int _ => cases e
    | str _ => cases e
    | ins _ _ _ => cases e
    | ref _ => cases e⟩
end Pi
namespace Pi
open PySem L2 PyProof.Rows

/-! ### what is walked -/
/-- an item comes as it is, or in a new object -/
inductive Yd (S H : Hp) : Hp → Hp → Prop
  | same : Yd S H S H
  | new (p : Addr) (o : HO) : H p = none → Yd S H (upd S p o) (upd H p o)
def Dl (E : En) (ρ : List Addr) (J : It) (ds : List D) (S : Hp) : Prop := ∀ ρ' S' H, Inc S ρ S' ρ' → (∀ a o, S' a = some o → H a = some o) → (∀ p, H p = none → S' p = none) → ∀ i, (∀ d, ds[i]? = some d → J.go i H ∧ ∀ y H3, J.yld i H y H3 → ∃ S3, Yd S' H S3 H3 ∧ Rep E S3 ρ' y d) ∧ (ds[i]? = none → J.stop i H)
theorem Yd.wd {E : En} {ρ : List Addr} {S H S3 H3 : Hp} {s : Pi.S} {σ : L2.St} (y : Yd S H S3 H3) (w : Wd E ρ S s σ H) : Wd E ρ S3 s σ H3 := by
  cases y with
  | same => exact w
  | new p o h => exact w.new h
theorem Yd.gr {E : En} {ρ : List Addr} {S H S3 H3 : Hp} {s : Pi.S} (y : Yd S H S3 H3) (w : Gr E ρ S s.g H) : Gr E ρ S3 s.g H3 := by
  cases y with
  | same => exact w
  | new p o h => exact w.new h
theorem Yd.step {E : En} {ρ : List Addr} {S H S3 H3 : Hp} {s : Pi.S} {B : Bs} (y : Yd S H S3 H3) (w : Gr E ρ S s.g H) : Step ρ S B H ρ S3 B H3 := by
  cases y with
  | same => exact .refl
  | new p o h => exact .new w h
theorem Yd.inc {E : En} {ρ : List Addr} {S H S3 H3 : Hp} {s : Pi.S} (y : Yd S H S3 H3) (w : Gr E ρ S s.g H) : Inc S ρ S3 ρ := (Yd.step (B := noB) y w).inc
def PostI (E : En) (W : WX) (σ : L2.St) (ρ : List Addr) (S : Hp) (l : List SV) (H : Hp) (r : R (List D)) (Q : It → Hp → Prop) : Prop := match r with
  | .ok ds s' => ∀ J ρ' S' H', Step ρ S (Ow σ l) H ρ' S' (Ow σ s'.l) H' → Wd E ρ' S' s' σ H' → Dl E ρ' J ds S' → Q J H'
  | .ex c fs s' => ∀ ρ' S' H' x fv, Step ρ S (Ow σ l) H ρ' S' (Ow σ s'.l) H' → Wd E ρ' S' s' σ H' → S' x = some (.xd fv) → RepF E S' ρ' fv fs → W (.ref (E.cl c)) (some x) σ H'
  | .no => False
def tII (E : En) (W : WX) (m : Pi.S → R (List D)) : TI := fun σ H Q => ∃ ρ S s, Wd E ρ S s σ H ∧ PostI E W σ ρ S s.l H (m s) Q
abbrev PII (c : Cn) (X : Cx) (tg e : Expr) (t : T) : Prop := PI X tg e (tII c.E c.W (evI c.o t))
theorem pI_le {X : Cx} {tg e : Expr} {t t' : TI} (h : PI X tg e t) (k : ∀ σ H Q, t' σ H Q → t σ H Q) : PI X tg e t' := ⟨fun pins s σ H Q I w => h.run pins s σ H Q I (k σ H Q w)⟩
section
variable {E : En} {W : WX} {σ : L2.St} {ρ : List Addr} {S H : Hp} {l : List SV}
theorem PostI.bind {r : R D} {k : D → Pi.S → R (List D)} {Q : It → Hp → Prop} (p : PostI E W σ ρ S l H (r.bind k) Q) :
    Post E W σ ρ S l H r (fun x H1 => ∃ ρ1 S1 s1 d, At E ρ S ρ1 S1 s1 σ H1 ∧ Rep E S1 ρ1 x d ∧ PostI E W σ ρ1 S1 s1.l H1 (k d s1) Q) := by
  cases r with
  | ok d s' =>
    refine fun v ρ' S' H' st w r => ⟨ρ', S', s', d, ⟨st.inc, w⟩, r, ?_⟩
    have p' : PostI E W σ ρ S l H (k d s') Q := p
    show PostI E W σ ρ' S' s'.l H' (k d s') Q
    cases q : k d s' with
    | ok i s2 => rw [q] at p'; exact fun J ρ2 S2 H2 st2 w2 => p' J ρ2 S2 H2 (st.trans st2) w2
    | ex i fs s2 => rw [q] at p'; exact fun ρ2 S2 H2 x fv st2 => p' ρ2 S2 H2 x fv (st.trans st2)
    | no => rw [q] at p'; exact p'
  | ex c fs s' => exact p
  | no => exact p
theorem PostI.here {s : Pi.S} {ds : List D} {Q : It → Hp → Prop} {J : It} (w : Wd E ρ S s σ H) (d : Dl E ρ J ds S) (p : PostI E W σ ρ S s.l H (.ok ds s) Q) : Q J H := p J ρ S H Step.refl w d
end
theorem dl_list {E : En} {ρ : List Addr} {K : PySem.W.Frag} {a : Addr} {vs : List V} {ds : List D} {S : Hp} (h : SqL K S a vs) (r : Reps E S ρ vs ds) : Dl E ρ (Itl K a) ds S := fun ρ' S' H i k _ j => by
  have h' := sqL_mono (fun a o z => k a o (i.sub a o z)) h
  refine ⟨fun d e => ?_, fun e => ⟨vs, h', by rw [r.len]; exact List.getElem?_eq_none_iff.mp e⟩⟩
  obtain ⟨x, hx, rx⟩ := r.get e
  refine ⟨⟨vs, x, h', hx⟩, fun y H3 z => ⟨S', ?_, ?_⟩⟩
  · rw [z.1]; exact .same
  · have := z.2 vs h'
    rw [hx] at this
    cases this
    exact rx.mono i
theorem dl_tup {E : En} {ρ : List Addr} {K : PySem.W.Frag} {a : Addr} {vs : List V} {ds : List D} {S : Hp} (h : SqT K S a vs) (r : Reps E S ρ vs ds) : Dl E ρ (Itt K a) ds S := fun ρ' S' H i k _ j => by
  have h' := sqT_mono (fun a o z => k a o (i.sub a o z)) h
  refine ⟨fun d e => ?_, fun e => ⟨vs, h', by rw [r.len]; exact List.getElem?_eq_none_iff.mp e⟩⟩
  obtain ⟨x, hx, rx⟩ := r.get e
  refine ⟨⟨vs, x, h', hx⟩, fun y H3 z => ⟨S', ?_, ?_⟩⟩
  · rw [z.1]; exact .same
  · have := z.2 vs h'
    rw [hx] at this
    cases this
    exact rx.mono i
theorem dl_rng {E : En} {ρ : List Addr} {lo : Int} {n : Nat} {S : Hp} : Dl E ρ (Itr lo n) ((List.range n).map fun (k : Nat) => D.int (lo + k)) S := fun ρ' S' H i k _ j => by
  refine ⟨fun d e => ?_, fun e => ?_⟩
  · rw [List.getElem?_map] at e
    by_cases q : j < n
    · rw [List.getElem?_range q] at e
      cases e
      refine ⟨q, fun y H3 z => ⟨S', ?_, ?_⟩⟩
      · rw [z.1]; exact .same
      · rw [z.2]; exact .int _
    · rw [List.getElem?_eq_none (by simpa using q)] at e
      cases e
  · show n ≤ j
    have := List.getElem?_eq_none_iff.mp e
    simpa using this
/-- pairs of two rows, each new -/
theorem dl_zip {E : En} {ρ : List Addr} {a b : Addr} {vs us : List V} {ds es : List D} {S : Hp} (h : SqL E.K S a vs) (r : Reps E S ρ vs ds) (h2 : SqL E.K S b us) (r2 : Reps E S ρ us es) :
    Dl E ρ (Itz E.K a b) ((ds.zip es).map fun p => .tup [p.1, p.2]) S := fun ρ' S' H i k fr j => by
  have h' := sqL_mono (fun a o z => k a o (i.sub a o z)) h
  have h2' := sqL_mono (fun a o z => k a o (i.sub a o z)) h2
  have l1 := r.len
  have l2 := r2.len
  refine ⟨fun d e => ?_, fun e => ⟨vs, us, h', h2', ?_⟩⟩
  · rw [List.getElem?_map] at e
    obtain ⟨p, hp, rfl⟩ := Option.map_eq_some_iff.mp e
    obtain ⟨p1, p2⟩ := p
    obtain ⟨q1, q2⟩ := List.getElem?_zip_eq_some.mp hp
    obtain ⟨x, hx, rx⟩ := r.get q1
    obtain ⟨y, hy, ry⟩ := r2.get q2
    refine ⟨⟨vs, us, x, y, h', h2', hx, hy⟩, fun z H3 ⟨T, x', y', e1, e2, e3, e4, e5⟩ => ⟨upd S' T (.tup [x', y']), ?_, ?_⟩⟩
    · rw [e3]; exact .new T _ e2
    · have a1 := e4 vs h'
      have a2 := e5 us h2'
      rw [hx] at a1
      rw [hy] at a2
      cases a1
      cases a2
      subst e1
      have iN : Inc S' ρ' (upd S' T (.tup [x, y])) ρ' := Inc.new (fr T e2)
      exact .tup (SqT.of upd_same) (.cons ((rx.mono i).mono iN) (.cons ((ry.mono i).mono iN) .nil))
  · rw [List.getElem?_map, Option.map_eq_none_iff, List.getElem?_eq_none_iff, List.length_zip] at e
    omega
theorem dl_zipT {E : En} {ρ : List Addr} {a b : Addr} {vs us : List V} {ds es : List D} {S : Hp} (h : SqT E.K S a vs) (r : Reps E S ρ vs ds) (h2 : SqT E.K S b us) (r2 : Reps E S ρ us es) :
    Dl E ρ (RZ.ItzT E.K a b) ((ds.zip es).map fun p => .tup [p.1, p.2]) S := fun ρ' S' H i k fr j => by
  have h' := sqT_mono (fun a o z => k a o (i.sub a o z)) h
  have h2' := sqT_mono (fun a o z => k a o (i.sub a o z)) h2
  have l1 := r.len
  have l2 := r2.len
  refine ⟨fun d e => ?_, fun e => ⟨vs, us, h', h2', ?_⟩⟩
  · rw [List.getElem?_map] at e
    obtain ⟨p, hp, rfl⟩ := Option.map_eq_some_iff.mp e
    obtain ⟨p1, p2⟩ := p
    obtain ⟨q1, q2⟩ := List.getElem?_zip_eq_some.mp hp
    obtain ⟨x, hx, rx⟩ := r.get q1
    obtain ⟨y, hy, ry⟩ := r2.get q2
    refine ⟨⟨vs, us, x, y, h', h2', hx, hy⟩, fun z H3 ⟨T, x', y', e1, e2, e3, e4, e5⟩ => ⟨upd S' T (.tup [x', y']), ?_, ?_⟩⟩
    · rw [e3]; exact .new T _ e2
    · have a1 := e4 vs h'
      have a2 := e5 us h2'
      rw [hx] at a1
      rw [hy] at a2
      cases a1
      cases a2
      subst e1
      have iN : Inc S' ρ' (upd S' T (.tup [x, y])) ρ' := Inc.new (fr T e2)
      exact .tup (SqT.of upd_same) (.cons ((rx.mono i).mono iN) (.cons ((ry.mono i).mono iN) .nil))
  · rw [List.getElem?_map, Option.map_eq_none_iff, List.getElem?_eq_none_iff, List.length_zip] at e
    omega
theorem dl_enm {E : En} {ρ : List Addr} {a : Addr} {vs : List V} {ds : List D} {S : Hp} (h : SqL E.K S a vs) (r : Reps E S ρ vs ds) :
    Dl E ρ (Ite E.K a) (((List.range ds.length).zip ds).map fun p => .tup [.int p.1, p.2]) S := fun ρ' S' H i k fr j => by
  have h' := sqL_mono (fun a o z => k a o (i.sub a o z)) h
  have l1 := r.len
  refine ⟨fun d e => ?_, fun e => ⟨vs, h', ?_⟩⟩
  · rw [List.getElem?_map] at e
    obtain ⟨p, hp, rfl⟩ := Option.map_eq_some_iff.mp e
    obtain ⟨p1, p2⟩ := p
    obtain ⟨q1, q2⟩ := List.getElem?_zip_eq_some.mp hp
    obtain ⟨x, hx, rx⟩ := r.get q2
    have hj : j < ds.length := (List.getElem?_eq_some_iff.mp q2).1
    rw [List.getElem?_range hj] at q1
    cases q1
    refine ⟨⟨vs, x, h', hx⟩, fun z H3 ⟨T, x', e1, e2, e3, e4⟩ => ⟨upd S' T (.tup [.int (p1 : Nat), x']), ?_, ?_⟩⟩
    · rw [e3]; exact .new T _ e2
    · have a1 := e4 vs h'
      rw [hx] at a1
      cases a1
      subst e1
      have iN : Inc S' ρ' (upd S' T (.tup [.int (p1 : Nat), x])) ρ' := Inc.new (fr T e2)
      exact .tup (SqT.of upd_same) (.cons (.int _) (.cons ((rx.mono i).mono iN) .nil))
  · rw [List.getElem?_map, Option.map_eq_none_iff, List.getElem?_eq_none_iff, List.length_zip, List.length_range] at e
    omega
section
variable {c : Cn} {X : Cx} {tg e a b : Expr} {ta tb : T} {pos p : Pos}
def iAny (K : PySem.W.Frag) (tl : TE) : TI := fun σ H R => tl σ H fun x H1 => ∃ a, x = .ref a ∧ (((∃ xs, SqL K H1 a xs) ∧ R (Itl K a) H1) ∨ ((∃ xs, SqT K H1 a xs) ∧ R (Itt K a) H1))
theorem pI_any {tl : TE} (hl : PE X e tl) : PI X tg e (iAny X.K tl) := by
  refine ⟨fun pins s σ H R I h => thn (hl.run pins s σ H _ I h) ?_⟩
  rintro v s1 ⟨x, H1, I1, r1, a, rfl, q | q⟩
  · obtain ⟨⟨xs, hq⟩, q⟩ := q
    cases r1
    obtain ⟨its, rv, pl, hz⟩ := I1.list hq
    refine wpAny_pyIter_list pl.isList ⟨s1.heap.objs.size, [s1.heap.objs.size], _, _, H1, rfl, I1.kept (t' := s1.toks) fun b o e => Heap.get?_push_of_some _ e, turn_list a _, ⟨_, Heap.get?_push_size _ rfl, rfl, rfl⟩, fun b hb => ?_, q⟩
    cases List.mem_singleton.mp hb
    exact I1.fpOk (Nat.le_refl _) (I1.hok.fresh (Nat.le_refl _))
  · obtain ⟨⟨xs, hq⟩, q⟩ := q
    cases r1
    obtain ⟨its, rv, pl, hz⟩ := I1.tuple hq
    refine wpAny_pyIter_tuple (show s1.heap.IsTuple a its.toArray from pl) ⟨s1.heap.objs.size, [s1.heap.objs.size], _, _, H1, rfl, I1.kept (t' := s1.toks) fun b o e => Heap.get?_push_of_some _ e, turn_tuple a _, ⟨_, Heap.get?_push_size _ rfl, rfl, rfl⟩, fun b hb => ?_, q⟩
    cases List.mem_singleton.mp hb
    exact I1.fpOk (Nat.le_refl _) (I1.hok.fresh (Nat.le_refl _))
theorem pii_it (hK : X.K = c.E.K) (he : PEI c X e ta) : PII c X tg e (.it ta) := by
  refine pI_le (pI_any he) fun σ H Q h => ?_
  obtain ⟨ρ, S, s, w, p⟩ := h
  refine ⟨ρ, S, s, w, (PostI.bind p).imp ?_⟩
  rintro x H1 ⟨ρ1, S1, s1, d1, a1, r1, p1⟩
  rw [hK]
  cases r1 with
  | lst h r => exact ⟨_, rfl, .inl ⟨⟨_, sqL_mono a1.wd.gr.sub h⟩, PostI.here a1.wd (dl_list h r) p1⟩⟩
  | tup h r => exact ⟨_, rfl, .inr ⟨⟨_, sqT_mono a1.wd.gr.sub h⟩, PostI.here a1.wd (dl_tup h r) p1⟩⟩
  | non => exact (show False from p1).elim
  | bl _ => exact (show False from p1).elim
  | int _ => exact (show False from p1).elim
  | str _ => exact (show False from p1).elim
  | ins _ _ _ => exact (show False from p1).elim
  | ref _ => exact (show False from p1).elim
theorem PostI.bif {E : En} {W : WX} {σ : L2.St} {ρ : List Addr} {S H : Hp} {l : List SV} {Q : It → Hp → Prop} {k : Bool} {r : R (List D)} (p : PostI E W σ ρ S l H (bif k then r else .no) Q) : k = true ∧ PostI E W σ ρ S l H r Q := by
  cases k with
  | true => exact ⟨rfl, p⟩
  | false => exact p.elim
theorem pii_rng1 (hg : Gl X "range") (hm : X.mg "range" = none) (ha : PEI c X a ta) (hs : starEach [a] X.env = [(false, eval a X.env)] := by rfl) (hs2 : starEach (a :: []) X.env = (false, eval a X.env) :: starEach [] X.env := by rfl) : PII c X tg (.Call (.Name "range" p) [a] [] pos) (.rng1 ta) := by
  refine pI_le (pi_range1 hg hm (pa_cons ha pa_nil hs2) hs) fun σ H Q h => ?_
  obtain ⟨ρ, S, s, w, p⟩ := h
  refine ⟨ρ, S, s, w, (PostI.bind p).imp ?_⟩
  rintro x H1 ⟨ρ1, S1, s1, d1, a1, r1, p1⟩
  cases d1 <;> first
    | (exact (show False from p1).elim)
    | skip
  rename_i j
  cases r1
  obtain ⟨hb, p2⟩ := PostI.bif p1
  rw [Bool.and_eq_true] at hb
  refine ⟨j, rfl, of_decide_eq_true hb.1, of_decide_eq_true hb.2, PostI.here a1.wd ?_ p2⟩
  have := dl_rng (E := c.E) (S := S1) (ρ := ρ1) (lo := 0) (n := j.toNat)
  simpa using this
theorem pii_rng2 (hg : Gl X "range") (hm : X.mg "range" = none) (ha : PEI c X a ta) (hb : PEI c X b tb) (hs : starEach [a, b] X.env = [(false, eval a X.env), (false, eval b X.env)] := by rfl) (hs2 : starEach [b] X.env = [(false, eval b X.env)] := by rfl)
    (h1 : starEach (a :: [b]) X.env = (false, eval a X.env) :: starEach [b] X.env := by rfl) (h2 : starEach (b :: []) X.env = (false, eval b X.env) :: starEach [] X.env := by rfl) : PII c X tg (.Call (.Name "range" p) [a, b] [] pos) (.rng2 ta tb) := by
  refine pI_le (pi_range2 hg hm (pa_cons ha (pa_cons hb pa_nil h2) h1) hs hs2) fun σ H Q h => ?_
  obtain ⟨ρ, S, s, w, p⟩ := h
  refine ⟨ρ, S, s, w, (PostI.bind p).imp ?_⟩
  rintro x H1 ⟨ρ1, S1, s1, d1, a1, r1, p1⟩
  refine ⟨ρ1, S1, s1, a1.wd, (PostI.bind p1).imp ?_⟩
  rintro y H2 ⟨ρ2, S2, s2, d2, a2, r2, p2⟩
  cases d1 <;> cases d2 <;> first
    | (exact (show False from p2).elim)
    | skip
  rename_i i j
  cases r1
  cases r2
  obtain ⟨hb, p3⟩ := PostI.bif p2
  simp only [Bool.and_eq_true, decide_eq_true_eq] at hb
  exact ⟨i, j, rfl, ⟨hb.1.1.1, hb.1.1.2, hb.1.2, hb.2⟩, PostI.here a2.wd dl_rng p3⟩
/-- zip(x, y) -/
theorem pii_zip {elts : List Expr} {kk : Nat} {tpos : Pos} (hK : X.K = c.E.K) (hg : Gl X "zip") (hm : X.mg "zip" = none) (ha : PEI c X a ta) (hb : PEI c X b tb) (h1 : starEach (a :: [b]) X.env = (false, eval a X.env) :: starEach [b] X.env := by rfl) (h2 : starEach (b :: []) X.env = (false, eval b X.env) :: starEach [] X.env := by rfl)
    (hpl : (backTo pos (starEach [b] X.env)).any (·.1) = false := by rfl) : PII c X (.Tuple elts kk tpos) (.Call (.Name "zip" p) [a, b] [] pos) (.zip ta tb) := by
  refine pI_le (RZ.pi_zipA hg hm (pa_cons ha (pa_cons hb pa_nil h2) h1) h1 hpl) fun σ H Q h => ?_
  obtain ⟨ρ, S, s, w, p⟩ := h
  refine ⟨ρ, S, s, w, (PostI.bind p).imp ?_⟩
  rintro x H1 ⟨ρ1, S1, s1, d1, a1, r1, p1⟩
  refine ⟨ρ1, S1, s1, a1.wd, (PostI.bind p1).imp ?_⟩
  rintro y H2 ⟨ρ2, S2, s2, d2, a2, r2, p2⟩
  cases d1 <;> cases d2 <;> first
    | (exact (show False from p2).elim)
    | skip
  · rename_i ds es
    cases r1 with | tup q1 e1 =>
    cases r2 with | tup q2 e2 =>
    rw [hK]
    exact ⟨_, _, _, _, rfl, .inr ⟨sqT_mono (fun a o z => a2.wd.gr.sub a o (a2.inc.sub a o z)) q1, sqT_mono a2.wd.gr.sub q2, PostI.here a2.wd (dl_zipT (sqT_mono a2.inc.sub q1) (e1.mono a2.inc) q2 e2) p2⟩⟩
  · rename_i ds es
    cases r1 with | lst q1 e1 =>
    cases r2 with | lst q2 e2 =>
    rw [hK]
    exact ⟨_, _, _, _, rfl, .inl ⟨sqL_mono (fun a o z => a2.wd.gr.sub a o (a2.inc.sub a o z)) q1, sqL_mono a2.wd.gr.sub q2, PostI.here a2.wd (dl_zip (sqL_mono a2.inc.sub q1) (e1.mono a2.inc) q2 e2) p2⟩⟩
/-- enumerate(x) -/
theorem pii_enm {elts : List Expr} {kk : Nat} {tpos : Pos} (hK : X.K = c.E.K) (hg : Gl X "enumerate") (hm : X.mg "enumerate" = none) (ha : PEI c X a ta) (h1 : starEach [a] X.env = [(false, eval a X.env)] := by rfl) (h2 : starEach (a :: []) X.env = (false, eval a X.env) :: starEach [] X.env := by rfl) :
    PII c X (.Tuple elts kk tpos) (.Call (.Name "enumerate" p) [a] [] pos) (.enm ta) := by
  refine pI_le (pi_enum hg hm (pa_cons ha pa_nil h2) h1) fun σ H Q h => ?_
  obtain ⟨ρ, S, s, w, p⟩ := h
  refine ⟨ρ, S, s, w, (PostI.bind p).imp ?_⟩
  rintro x H1 ⟨ρ1, S1, s1, d1, a1, r1, p1⟩
  cases d1 <;> first
    | (exact (show False from p1).elim)
    | skip
  rename_i ds
  cases r1 with | lst q1 e1 =>
  rw [hK]
  exact ⟨_, _, rfl, sqL_mono a1.wd.gr.sub q1, PostI.here a1.wd (dl_enm q1 e1) p1⟩
end
end Pi
namespace Pi
open PySem L2

/-! ### statements -/
def Reach (E : En) (D : Ends) (f : F) (ρ' : List Addr) (S' : Hp) (σ' : St) (H' : Hp) : Prop := match f with
  | .nx => D.nx σ' H'
  | .rt d => ∀ v, Rep E S' ρ' v d → D.rt v H'
  | .bk => D.bk σ' H'
  | .ct => D.ct σ' H'
def PostS (E : En) (W : WX) (σ : St) (ρ : List Addr) (S : Hp) (l : List SV) (H : Hp) (r : R F) (D : Ends) : Prop := match r with
  | .ok f s' => ∀ ρ' S' H' σ', Step ρ S (Ow σ l) H ρ' S' (Ow σ' s'.l) H' → Wd E ρ' S' s' σ' H' → Reach E D f ρ' S' σ' H'
  | .ex c fs s' => ∀ ρ' S' H' σ' x fv, Step ρ S (Ow σ l) H ρ' S' (Ow σ' s'.l) H' → Wd E ρ' S' s' σ' H' → S' x = some (.xd fv) → RepF E S' ρ' fv fs → W (.ref (E.cl c)) (some x) σ' H'
  | .no => False
def tIS (E : En) (W : WX) (m : Pi.S → R F) : L2.TS := fun D σ H => ∃ ρ S s, Wd E ρ S s σ H ∧ PostS E W σ ρ S s.l H (m s) D
abbrev PSI (c : Cn) (X : Cx) (st : Stmt) (t : Pi.TS) : Prop := PS X st (tIS c.E c.W (evS c.o t))
abbrev PSsI (c : Cn) (X : Cx) (st : List Stmt) (t : Pi.TS) : Prop := PSs X st (tIS c.E c.W (evS c.o t))
theorem ps_le {X : Cx} {e : Stmt} {t t' : L2.TS} (h : PS X e t) (k : ∀ D σ H, t' D σ H → t D σ H) : PS X e t' := ⟨fun pins s σ H D I w => h.run pins s σ H D I (k D σ H w)⟩
theorem pss_le {X : Cx} {e : List Stmt} {t t' : L2.TS} (h : PSs X e t) (k : ∀ D σ H, t' D σ H → t D σ H) : PSs X e t' := ⟨fun pins s σ H D I w => h.run pins s σ H D I (k D σ H w)⟩
section
variable {E : En} {W : WX} {σ σ1 : St} {ρ ρ1 : List Addr} {S S1 H H1 : Hp} {l l1 : List SV} {D D' : Ends} {s : Pi.S}
theorem PostS.step {r : R F} (st : Step ρ S (Ow σ l) H ρ1 S1 (Ow σ1 l1) H1) (p : PostS E W σ ρ S l H r D) : PostS E W σ1 ρ1 S1 l1 H1 r D := by
  cases r with
  | ok d s' => exact fun ρ' S' H' σ' st' => p ρ' S' H' σ' (st.trans st')
  | ex c fs s' => exact fun ρ' S' H' σ' x fv st' => p ρ' S' H' σ' x fv (st.trans st')
  | no => exact p
theorem PostS.bind {r : R Pi.D} {k : Pi.D → Pi.S → R F} {D : Ends} (p : PostS E W σ ρ S l H (r.bind k) D) :
    Post E W σ ρ S l H r (fun x H1 => ∃ ρ1 S1 s1 d, At E ρ S ρ1 S1 s1 σ H1 ∧ Step ρ S (Ow σ l) H ρ1 S1 (Ow σ s1.l) H1 ∧ Rep E S1 ρ1 x d ∧ PostS E W σ ρ1 S1 s1.l H1 (k d s1) D) := by
  cases r with
  | ok d s' => exact fun v ρ' S' H' st w r => ⟨ρ', S', s', d, ⟨st.inc, w⟩, st, r, PostS.step (l1 := s'.l) st p⟩
  | ex c fs s' => exact fun ρ' S' H' x fv st => p ρ' S' H' σ x fv st
  | no => exact p
theorem PostS.bindA {r : R (List Pi.D)} {k : List Pi.D → Pi.S → R F} {D : Ends} (p : PostS E W σ ρ S l H (r.bind k) D) :
    PostA E W σ ρ S l H r (fun x H1 => ∃ ρ1 S1 s1 d, r = .ok d s1 ∧ At E ρ S ρ1 S1 s1 σ H1 ∧ Step ρ S (Ow σ l) H ρ1 S1 (Ow σ s1.l) H1 ∧ Reps E S1 ρ1 x d ∧ PostS E W σ ρ1 S1 s1.l H1 (k d s1) D) := by
  cases r with
  | ok d s' => exact fun v ρ' S' H' st w r => ⟨ρ', S', s', d, rfl, ⟨st.inc, w⟩, st, r, PostS.step (l1 := s'.l) st p⟩
  | ex c fs s' => exact fun ρ' S' H' x fv st => p ρ' S' H' σ x fv st
  | no => exact p
theorem PostS.here {f : F} (w : Wd E ρ S s σ H) (p : PostS E W σ ρ S s.l H (.ok f s) D) : Reach E D f ρ S σ H := p ρ S H σ Step.refl w
end
section
variable {c : Cn} {X : Cx} {e tg it : Expr} {te ti : T} {t u : Pi.TS} {st : Stmt} {rest body a b : List Stmt} {pos : Pos}
theorem psi_nil : PSsI c X [] .nil := pss_le pss_nil fun D σ H h => by
  obtain ⟨ρ, S, s, w, p⟩ := h
  exact PostS.here w p
theorem seq_le {D : Ends} {σ : St} {H : Hp} (h : tIS c.E c.W (evS c.o (.seq t u)) D σ H) : tSeq (tIS c.E c.W (evS c.o t)) (tIS c.E c.W (evS c.o u)) D σ H := by
  obtain ⟨ρ, S, s, w, p⟩ := h
  refine ⟨ρ, S, s, w, ?_⟩
  unfold evS at p
  cases q : evS c.o t s with
  | ok f s1 =>
    rw [q] at p
    intro ρ1 S1 H1 σ1 st1 w1
    cases f with
    | nx => exact ⟨ρ1, S1, s1, w1, PostS.step st1 p⟩
    | rt d => exact p ρ1 S1 H1 σ1 st1 w1
    | bk => exact p ρ1 S1 H1 σ1 st1 w1
    | ct => exact p ρ1 S1 H1 σ1 st1 w1
  | ex k fs s1 => rw [q] at p; exact p
  | no => rw [q] at p; exact p
theorem psi_cons (h1 : PSI c X st t) (h2 : PSsI c X rest u) : PSsI c X (st :: rest) (.seq t u) := pss_le (pss_cons h1 h2) fun _ _ _ => seq_le
theorem psi_one (h1 : PSI c X st t) : PSsI c X [st] t := pss_one h1
theorem psi_pass : PSI c X (.Pass pos) .nil := ps_le ps_pass fun D σ H h => by
  obtain ⟨ρ, S, s, w, p⟩ := h
  exact PostS.here w p
theorem psi_doc {x j p'} : PSI c X (.Expr (.Constant (.str x) j p') pos) .nil := ps_le ps_doc fun D σ H h => by
  obtain ⟨ρ, S, s, w, p⟩ := h
  exact PostS.here w p
theorem psi_break : PSI c X (.Break pos) .brk := ps_le ps_break fun D σ H h => by
  obtain ⟨ρ, S, s, w, p⟩ := h
  exact PostS.here w p
theorem psi_continue : PSI c X (.Continue pos) .cnt := ps_le ps_continue fun D σ H h => by
  obtain ⟨ρ, S, s, w, p⟩ := h
  exact PostS.here w p
theorem psi_expr (he : PEI c X e te) (hs : swapsWith e none pos.line X.env = pure false := by rfl) : PSI c X (.Expr e pos) (.ex te) := ps_le (ps_expr he hs) fun D σ H h => by
  obtain ⟨ρ, S, s, w, p⟩ := h
  refine ⟨ρ, S, s, w, (PostS.bind p).imp ?_⟩
  rintro x H1 ⟨ρ1, S1, s1, d1, a1, _, r1, p1⟩
  exact PostS.here a1.wd p1
theorem psi_ret (he : PEI c X e te) : PSI c X (.Return (some e) pos) (.ret te) := ps_le (ps_ret he) fun D σ H h => by
  obtain ⟨ρ, S, s, w, p⟩ := h
  refine ⟨ρ, S, s, w, (PostS.bind p).imp ?_⟩
  rintro x H1 ⟨ρ1, S1, s1, d1, a1, _, r1, p1⟩
  exact PostS.here a1.wd p1 x r1
theorem psi_retn : PSI c X (.Return none pos) .retn := ps_le ps_retN fun D σ H h => by
  obtain ⟨ρ, S, s, w, p⟩ := h
  exact PostS.here w p _ .non
theorem psi_if (hc : PTI c X e te) (ha : PSsI c X a t) (hb : PSsI c X b u) : PSI c X (.If e a b pos) (.ite te t u) := ps_le (ps_if hc ha hb) fun D σ H h => by
  obtain ⟨ρ, S, s, w, p⟩ := h
  refine ⟨ρ, S, s, w, (PostS.bind p).imp ?_⟩
  rintro x H1 ⟨ρ1, S1, s1, d1, a1, _, r1, p1⟩
  cases d1 <;> first
    | (exact (show False from p1).elim)
    | skip
  rename_i k
  cases bl_of r1
  refine ⟨k, rfl, ?_⟩
  cases k with
  | true => rw [if_pos rfl]; exact ⟨ρ1, S1, s1, a1.wd, p1⟩
  | false => rw [if_neg Bool.false_ne_true]; exact ⟨ρ1, S1, s1, a1.wd, p1⟩
theorem psi_asg {tt : Tgt} (he : PEI c X e te) (hg : PGI c X tg tt) (hs : swapsWithSole [tg] e pos.line X.env = pure false := by rfl) (hw : swappedStores [tg] e X.env = pure none := by rfl)
    (h1 : (assignEach [tg] X.env).map (·.2) = [assign tg X.env] := by rfl) : PSI c X (.Assign [tg] e pos) (.asg tt te) := by
  obtain ⟨g, hg, ok⟩ := hg.ex
  refine ps_le (ps_asg he hg hs hw h1) fun D σ H h => ?_
  obtain ⟨ρ, S, s, w, p⟩ := h
  refine ⟨ρ, S, s, w, (PostS.bind p).imp ?_⟩
  rintro x H1 ⟨ρ1, S1, s1, d1, a1, _, r1, p1⟩
  split at p1
  · rename_i l' e1
    exact ok ρ1 S1 s1 σ H1 x d1 l' _ a1.wd r1 e1 fun σ' w' ow => p1 ρ1 S1 H1 σ' (Step.refl.ow ow) w'
  · exact p1.elim
/-- the rows of a for -/
theorem loop_core {E : En} {W : WX} {g : TG} {tb : L2.TS} {tt : Tgt} {bd : Pi.S → R F} (ok : TgOk E g tt) (hb : ∀ D σ H, tIS E W bd D σ H → tb D σ H) {D : Ends} {σ : St} {ρ : List Addr} {S H : Hp} {l : List SV} {ds : List Pi.D} {s0 : Pi.S} {J : It} {ρ1 : List Addr} {S1 H1 : Hp} {σ1 : St}
    (p : PostS E W σ ρ S l H (loopS (fun d s => match tgS tt d s.l with
      | some l => bd ⟨l, s.g⟩
      | none => .no) ds s0) D) (st : Step ρ S (Ow σ l) H ρ1 S1 (Ow σ1 s0.l) H1) (w : Wd E ρ1 S1 s0 σ1 H1) (dl : Dl E ρ1 J ds S1) :
    ∃ V : Nat → Nat → St → Hp → Prop, (∃ m, V 0 m σ1 H1) ∧ ∀ i m σ H, V i m σ H →
      (J.stop i H ∧ D.nx σ H) ∨ (J.go i H ∧ ∃ N : St → Hp → Prop, (∀ σ' H', N σ' H' → ∃ m', m' < m ∧ V (i + 1) m' σ' H') ∧ ∀ x H', J.yld i H x H' → g x σ H' fun σ2 H2 => tb { D with nx := N, ct := N, bk := D.nx } σ2 H2) := by
  let f := fun (d : Pi.D) (s : Pi.S) => match tgS tt d s.l with
      | some l => bd ⟨l, s.g⟩
      | none => R.no
  obtain ⟨Tt, hT⟩ : ∃ Tt, loopS f ds s0 = Tt := ⟨_, rfl⟩
  have p : PostS E W σ ρ S l H Tt D := by rw [← hT]; exact p
  let V : Nat → Nat → St → Hp → Prop := fun i m σ' H' => m = ds.length - i ∧ i ≤ ds.length ∧ ∃ ρ' S' s', Step ρ S (Ow σ l) H ρ' S' (Ow σ' s'.l) H' ∧ Wd E ρ' S' s' σ' H' ∧ Inc S1 ρ1 S' ρ' ∧ loopS f (ds.drop i) s' = Tt
  refine ⟨V, ⟨ds.length, by simp, Nat.zero_le _, ρ1, S1, s0, st, w, Inc.refl _ _, hT⟩, ?_⟩
  rintro i m σ2 H2 ⟨rfl, hi, ρ2, S2, s2, st2, w2, i2, e2⟩
  have hsub : ∀ a o, S1 a = some o → H2 a = some o := fun a o z => w2.gr.sub a o (i2.sub a o z)
  by_cases hlt : i < ds.length
  · right
    obtain ⟨d, hd⟩ : ∃ d, ds[i]? = some d := ⟨_, List.getElem?_eq_getElem hlt⟩
    obtain ⟨go, yl⟩ := (dl ρ2 S2 H2 i2 w2.gr.sub (fun p hp => (w2.gr.fresh hp).1) i).1 _ hd
    refine ⟨go, fun σ' H' => V (i + 1) (ds.length - (i + 1)) σ' H', fun σ' H' v => ⟨_, by omega, v⟩, fun y H3 hy => ?_⟩
    obtain ⟨S3, yd, rd⟩ := yl y H3 hy
    have wY := yd.wd w2
    have stY := yd.step (B := Ow σ2 s2.l) w2.gr
    have iY := yd.inc w2.gr
    have hdrop : ds.drop i = d :: ds.drop (i + 1) := by
      obtain ⟨hl, hg⟩ := List.getElem?_eq_some_iff.mp hd
      rw [List.drop_eq_getElem_cons hl, hg]
    rw [hdrop] at e2
    have p2 : PostS E W σ ρ S l H (loopS f (d :: ds.drop (i + 1)) s2) D := by rw [e2]; exact p
    cases ht : tgS tt d s2.l with
    | none =>
      have : f d s2 = .no := by show (match tgS tt d s2.l with | some l => bd ⟨l, s2.g⟩ | none => R.no) = _; rw [ht]
      unfold loopS at p2
      rw [this] at p2
      exact p2.elim
    | some l' =>
      have fe : f d s2 = bd ⟨l', s2.g⟩ := by show (match tgS tt d s2.l with | some l => bd ⟨l, s2.g⟩ | none => R.no) = _; rw [ht]
      refine ok ρ2 S3 s2 σ2 H3 _ d l' _ wY rd ht fun σ3 w3 ow => hb _ _ _ ⟨ρ2, S3, ⟨l', s2.g⟩, w3, ?_⟩
      have st3 : Step ρ S (Ow σ l) H ρ2 S3 (Ow σ3 l') H3 := (st2.trans stY).ow ow
      unfold loopS at p2 e2
      rw [fe] at p2 e2
      have again : ∀ {s4 : Pi.S} {ρ4 : List Addr} {S4 H4 : Hp} {σ4 : St}, loopS f (ds.drop (i + 1)) s4 = Tt → Step ρ2 S3 (Ow σ3 l') H3 ρ4 S4 (Ow σ4 s4.l) H4 → Wd E ρ4 S4 s4 σ4 H4 → V (i + 1) (ds.length - (i + 1)) σ4 H4 := fun {s4 ρ4 S4 H4 σ4} e st4 w4 =>
        ⟨rfl, hlt, ρ4, S4, s4, st3.trans st4, w4, (i2.trans iY).trans st4.inc, e⟩
      show PostS E W σ3 ρ2 S3 l' H3 (bd ⟨l', s2.g⟩) _
      cases hq : bd ⟨l', s2.g⟩ with
      | ok fl s4 =>
        rw [hq] at p2 e2
        intro ρ4 S4 H4 σ4 st4 w4
        cases fl with
        | nx => exact again e2 st4 w4
        | ct => exact again e2 st4 w4
        | bk => exact p2 ρ4 S4 H4 σ4 (st3.trans st4) w4
        | rt d => exact p2 ρ4 S4 H4 σ4 (st3.trans st4) w4
      | ex k fs s4 =>
        rw [hq] at p2
        exact fun ρ4 S4 H4 σ4 x fv st4 => p2 ρ4 S4 H4 σ4 x fv (st3.trans st4)
      | no => rw [hq] at p2; exact p2
  · left
    have hn : ds[i]? = none := List.getElem?_eq_none (by omega)
    refine ⟨(dl ρ2 S2 H2 i2 w2.gr.sub (fun p hp => (w2.gr.fresh hp).1) i).2 hn, ?_⟩
    have hd : ds.drop i = [] := List.drop_eq_nil_of_le (by omega)
    rw [hd] at e2
    have p2 : PostS E W σ ρ S l H (.ok .nx s2) D := by
      show PostS E W σ ρ S l H (loopS f [] s2) D
      rw [e2]
      exact p
    exact p2 ρ2 S2 H2 σ2 st2 w2
theorem psi_for {tt : Tgt} (hp : PassesOwn (model X.prog X.w) X.A X.env X.xe) (hc : X.calm = true) (hi : PII c X tg it ti) (hg : PGI c X tg tt) (hb : PSsI c X body t) (hs : ∀ x, foldedSetIterable it X.env x = pure x := by intro _; rfl) : PSI c X (.For tg it body [] pos) (.fr tt ti t) := by
  obtain ⟨g, hg, ok⟩ := hg.ex
  refine ps_le (ps_for hp hc hi hg hb hs) fun D σ H h => ?_
  obtain ⟨ρ, S, s, w, p⟩ := h
  refine ⟨ρ, S, s, w, ?_⟩
  unfold evS at p
  cases q : evI c.o ti s with
  | ok ds s1 =>
    rw [q] at p
    intro J ρ1 S1 H1 st w1 dl
    exact loop_core ok (fun _ _ _ h => h) p st w1 dl
  | ex k fs s1 =>
    rw [q] at p
    exact fun ρ' S' H' x fv st => p ρ' S' H' σ x fv st
  | no => rw [q] at p; exact p
end
end Pi
namespace Pi
open PySem L2

section
variable {E : En} {ρ : List Addr} {S H : Hp} {s : Pi.S} {σ : St} {l : List SV}
theorem Inc.put {p : Addr} {o : HO} (hp : S p = none) : Inc S ρ (upd S p o) ρ := Inc.new hp
theorem Gr.freeze {g : List MO} (w : Gr E ρ S g H) {p : Addr} {o : HO} (hp : H p = some o) (sp : S p = none) (np : p ∉ ρ) : Gr E ρ (upd S p o) g H := by
  refine ⟨fun a u e => ?_, w.len, w.nd, fun a ha => ?_, fun n a m e1 e2 => (w.ob n a m e1 e2).mono (Inc.new sp) fun _ q => q⟩
  · by_cases q : a = p
    · subst q; rw [upd_same] at e; rw [hp]; exact e
    · rw [upd_ne q] at e; exact w.sub _ _ e
  · rw [upd_ne (show a ≠ p from fun z => np (z ▸ ha))]; exact w.off a ha
theorem Wd.freeze (w : Wd E ρ S s σ H) {p : Addr} {o : HO} (hp : H p = some o) (sp : S p = none) (np : p ∉ ρ) (no : ¬ Ow σ s.l p) : Wd E ρ (upd S p o) s σ H :=
  ⟨w.gr.freeze hp sp np, w.sl.keep (Inc.new sp) (fun _ _ _ e => e) (fun a ow _ e => by rw [upd_ne (show a ≠ p from fun z => no (z ▸ ow))]; exact e) fun _ _ _ h => h⟩

theorem wipeOwn_len (l : List SV) : (wipeOwn l).length = l.length := by unfold wipeOwn; rw [List.length_map]
theorem wipeOwn_get {l : List SV} {i : Nat} {x : SV} (h : (wipeOwn l)[i]? = some x) : x = .un ∨ ∃ d, x = .v d ∧ l[i]? = some (.v d) := by
  unfold wipeOwn at h
  rw [List.getElem?_map] at h
  obtain ⟨y, hy, rfl⟩ := Option.map_eq_some_iff.mp h
  cases y with
  | un => exact .inl rfl
  | v d => exact .inr ⟨d, rfl, hy⟩
  | own _ => exact .inl rfl
  | ob _ _ => exact .inl rfl
theorem Sl.wipe (w : Sl E ρ S H σ l) : Sl E ρ S H σ (wipeOwn l) := by
  refine ⟨by rw [wipeOwn_len]; exact w.len, fun i d e => ?_, fun i ds e => ?_, fun i k fs e => ?_, fun i j a _ h1 _ _ => ?_⟩
  · rcases wipeOwn_get e with z | ⟨d', z, e'⟩
    · cases z
    · cases z; exact w.v i d e'
  · rcases wipeOwn_get e with z | ⟨d', z, e'⟩ <;> cases z
  · rcases wipeOwn_get e with z | ⟨d', z, e'⟩ <;> cases z
  · rcases h1 with ⟨ds, e⟩ | ⟨k, fs, e⟩
    · rcases wipeOwn_get e with z | ⟨d', z, e'⟩ <;> cases z
    · rcases wipeOwn_get e with z | ⟨d', z, e'⟩ <;> cases z
/-- a frame that owns nothing -/
def NoOw (l : List SV) : Prop := ∀ (i : Nat) x, l[i]? = some x → x = .un ∨ ∃ d, x = .v d
theorem NoOw.wipe : NoOw (wipeOwn l) := fun i x h => by
  rcases wipeOwn_get h with z | ⟨d, z, _⟩
  · exact .inl z
  · exact .inr ⟨d, z⟩
theorem NoOw.set {l : List SV} (h : NoOw l) {i : Nat} {y : SV} (hy : y = .un ∨ ∃ d, y = .v d) : NoOw (l.set i y) := fun j x e => by
  by_cases q : i = j
  · subst q
    by_cases hi : i < l.length
    · rw [List.getElem?_set_self hi] at e; cases e; exact hy
    · rw [List.getElem?_eq_none (by rw [List.length_set]; omega)] at e; cases e
  · rw [List.getElem?_set_ne q] at e
    exact h j x e
theorem NoOw.clr {l : List SV} (h : NoOw l) : ∀ is, NoOw (clr is l)
  | [] => h
  | _ :: is => (NoOw.clr h is).set (.inl rfl)
theorem NoOw.all : ∀ (is : List Nat) (ds : List D) {l l' : List SV}, NoOw l → setAll is ds l = some l' → NoOw l'
  | [], [], _, _, h, e => by cases e; exact h
  | [], _ :: _, _, _, h, e => by cases e
  | _ :: _, [], _, _, h, e => by cases e
  | i :: is, d :: ds, l, l', h, e => NoOw.all is ds (h.set (.inr ⟨d, rfl⟩)) e
theorem NoOw.nest : ∀ (ts : List (Nat ⊕ List Nat)) (ds : List D) {l l' : List SV}, NoOw l → setNest ts ds l = some l' → NoOw l'
  | [], [], _, _, h, e => by cases e; exact h
  | [], _ :: _, _, _, h, e => by cases e
  | .inl _ :: _, [], _, _, h, e => by cases e
  | .inr _ :: _, [], _, _, h, e => by cases e
  | .inl i :: ts, d :: ds, l, l', h, e => NoOw.nest ts ds (h.set (.inr ⟨d, rfl⟩)) e
  | .inr is :: ts, d :: ds, l, l', h, e => by
    cases d <;> first
      | (cases e; done)
      | skip
    rename_i xs
    have e' : (match setAll is xs l with
      | some l' => setNest ts ds l'
      | none => none) = some l' := e
    split at e'
    · rename_i l1 q
      exact NoOw.nest ts ds (NoOw.all is xs h q) e'
    · cases e'
theorem NoOw.tg {t : Tgt} {d : D} {l l' : List SV} (h : NoOw l) (e : tgS t d l = some l') : NoOw l' := by
  cases t with
  | one i => cases e; exact h.set (.inr ⟨d, rfl⟩)
  | tup is => cases d <;> first
    | (cases e; done)
    | exact NoOw.all is _ h e
  | nest ts => cases d <;> first
    | (cases e; done)
    | exact NoOw.nest ts _ h e
theorem NoOw.no (h : NoOw l) {a : Addr} : ¬ Ow σ l a := by
  rintro ⟨j, h1, h2⟩
  rcases h2 with ⟨ds, e⟩ | ⟨k, fs, e⟩
  · rcases h j _ e with z | ⟨_, z⟩ <;> cases z
  · rcases h j _ e with z | ⟨_, z⟩ <;> cases z
theorem Sl.unset (w : Sl E ρ S H σ l) (n : NoOw l) (i : Nat) : Sl E ρ S H (σ.set i none) (l.set i .un) := by
  have n2 : NoOw (l.set i .un) := n.set (.inl rfl)
  refine ⟨by simp [w.len], fun j d e => ?_, fun j ds e => ?_, fun j k fs e => ?_, fun j k a _ h1 _ _ => ?_⟩
  · by_cases q : i = j
    · subst q
      by_cases hi : i < l.length
      · rw [List.getElem?_set_self hi] at e; cases e
      · rw [List.getElem?_eq_none (by rw [List.length_set]; omega)] at e; cases e
    · rw [List.getElem?_set_ne q] at e ⊢
      exact w.v j d e
  · rcases n2 j _ e with z | ⟨_, z⟩ <;> cases z
  · rcases n2 j _ e with z | ⟨_, z⟩ <;> cases z
  · rcases h1 with ⟨ds, e⟩ | ⟨k, fs, e⟩
    · rcases n2 j _ e with z | ⟨_, z⟩ <;> cases z
    · rcases n2 j _ e with z | ⟨_, z⟩ <;> cases z
theorem Sl.clr (w : Sl E ρ S H σ l) (n : NoOw l) : ∀ is, Sl E ρ S H (L2.wipe σ is) (Pi.clr is l)
  | [] => w
  | i :: is => (Sl.clr w n is).unset (n.clr is) i
theorem wipe_set {σ : St} {x : Option V} : ∀ {is : List Nat} {i : Nat}, i ∈ is → wipe (σ.set i x) is = wipe σ is
  | j :: is, i, h => by
    show (wipe (σ.set i x) is).set j none = (wipe σ is).set j none
    by_cases q : i ∈ is
    · rw [wipe_set q]
    · have e : i = j := by
        rcases List.mem_cons.mp h with z | z
        · exact z
        · exact absurd z q
      subst e
      have : ∀ is, i ∉ is → wipe (σ.set i x) is = (wipe σ is).set i x := by
        intro is
        induction is with
        | nil => intro _; rfl
        | cons k is ih =>
          intro hk
          show (wipe (σ.set i x) is).set k none = ((wipe σ is).set k none).set i x
          rw [ih (fun z => hk (List.mem_cons_of_mem _ z)), List.set_comm _ _ (fun z => hk (by rw [z]; exact List.mem_cons_self))]
      rw [this is q, List.set_set]
theorem wipe_wipe {σ : St} : ∀ (is js : List Nat), (∀ i ∈ is, i ∈ js) → wipe (wipe σ is) js = wipe σ js
  | [], js, _ => rfl
  | i :: is, js, h => by
    show wipe ((wipe σ is).set i none) js = _
    rw [wipe_set (h i List.mem_cons_self)]
    exact wipe_wipe is js fun k hk => h k (List.mem_cons_of_mem _ hk)
/-- a target of a comprehension stores as the semantics says, within its own slots -/
structure TgC (E : En) (g : TG) (t : Tgt) : Prop where
  st : ∀ (ρ : List Addr) (S : Hp) (s : Pi.S) (σ : St) (H : Hp) (x : V) (d : D) (l : List SV) (Q : St → Hp → Prop), Wd E ρ S s σ H → Rep E S ρ x d → tgS t d s.l = some l →
    (∀ σ', Wd E ρ S ⟨l, s.g⟩ σ' H → wipe σ' t.slots = wipe σ t.slots → Q σ' H) → g x σ H Q
theorem tgc_one {E : En} {i : Nat} : TgC E (gName i) (.one i) := ⟨fun ρ S s σ H x d l Q w r e k => by
  cases e
  exact k _ ⟨w.gr, w.sl.set r⟩ (wipe_set List.mem_cons_self)⟩
theorem gAll_c {E : En} (js : List Nat) : ∀ (is : List Nat) {ρ : List Addr} {S : Hp} {s : Pi.S} {σ : St} {H : Hp} {xs : List V} {ds : List D} {l : List SV} {Q : St → Hp → Prop}, (∀ i ∈ is, i ∈ js) → Wd E ρ S s σ H → Reps E S ρ xs ds → setAll is ds s.l = some l →
    (∀ σ', Wd E ρ S ⟨l, s.g⟩ σ' H → wipe σ' js = wipe σ js → Q σ' H) → gAll is xs σ H Q
  | [], ρ, S, s, σ, H, _, _, l, Q, hj, w, .nil, e, k => by
    cases e
    exact ⟨rfl, k σ w rfl⟩
  | [], ρ, S, s, σ, H, _, _, l, Q, hj, w, .cons _ _, e, k => by cases e
  | i :: is, ρ, S, s, σ, H, _, _, l, Q, hj, w, .nil, e, k => by cases e
  | i :: is, ρ, S, s, σ, H, _, _, l, Q, hj, w, .cons (v := v) (vs := vs) (d := d) (ds := ds) h r, e, k => by
    refine ⟨v, vs, rfl, ?_⟩
    have w1 : Wd E ρ S ⟨s.l.set i (.v d), s.g⟩ (σ.set i (some v)) H := ⟨w.gr, w.sl.set h⟩
    exact gAll_c js is (fun a ha => hj a (List.mem_cons_of_mem _ ha)) w1 r e fun σ' w' ow => k σ' w' (ow.trans (wipe_set (hj i List.mem_cons_self)))
theorem tgc_tup {E : En} {K : PySem.W.Frag} {n : Nat} {is : List Nat} (hK : K = E.K) (hl : is.length = n) : TgC E (gAny K n (gAll is)) (.tup is) := ⟨fun ρ S s σ H x d l Q w r e kk => by
  cases r with
  | tup h r =>
    have e' : setAll is _ s.l = some l := e
    exact ⟨_, _, rfl, .inl (hK ▸ sqT_mono w.gr.sub h), by rw [r.len, setAll_len _ _ _ _ e', hl], gAll_c is is (fun _ h => h) w r e' kk⟩
  | lst h r =>
    have e' : setAll is _ s.l = some l := e
    exact ⟨_, _, rfl, .inr (hK ▸ sqL_mono w.gr.sub h), by rw [r.len, setAll_len _ _ _ _ e', hl], gAll_c is is (fun _ h => h) w r e' kk⟩
  | non => cases e
  | bl _ => cases e
  | int _ => cases e
  | str _ => cases e
  | ins _ _ _ => cases e
  | ref _ => cases e⟩
end

/-! ### comprehensions -/
abbrev W0 : WX := fun _ _ _ _ => False
abbrev Cn.bl (c : Cn) : Cn := { c with W := W0 }
structure PTsI (c : Cn) (X : Cx) (ifs : List Expr) (t : T) : Prop where
  run : PTs X ifs (tB (tI c.E c.W (ev c.o t)))
theorem ptsi_nil {c : Cn} {X : Cx} : PTsI c X [] (.c (.bl true)) := ⟨⟨fun pins s σ H Q I h => by
  refine pts_nil.run pins s σ H Q I ?_
  obtain ⟨ρ, S, s, w, p⟩ := h
  obtain ⟨q, e, h⟩ := Post.here w (.bl true) p
  cases e
  exact h⟩⟩
theorem ptsi_one {c : Cn} {X : Cx} {e : Expr} {t : T} (h : PTI c X e t) : PTsI c X [e] t := ⟨pts_one h⟩
def bodyC (o : O) (l : List SV) (tg : Tgt) (c e : T) : Pi.D → List MO → R (Option Pi.D) := fun d g => match tgS tg d (clr tg.slots (wipeOwn l)) with
      | some l => (ev o c ⟨l, g⟩).bind fun t s' => (match t with
        | .bl true => (ev o e s').bind fun x s'' => .ok (some x) s''
        | .bl false => .ok none s'
        | _ => .no)
      | none => .no
theorem loopC_ok {f : Pi.D → List MO → R (Option Pi.D)} {d : Pi.D} {ds acc xs : List Pi.D} {g : List MO} {s' : Pi.S} (h : loopC f (d :: ds) acc g = .ok xs s') :
    (∃ x s1, f d g = .ok (some x) s1 ∧ loopC f ds (acc ++ [x]) s1.g = .ok xs s') ∨ ∃ s1, f d g = .ok none s1 ∧ loopC f ds acc s1.g = .ok xs s' := by
  unfold loopC at h
  split at h
  · rename_i x s1 e; exact .inl ⟨x, s1, e, h⟩
  · rename_i s1 e; exact .inr ⟨s1, e, h⟩
  · cases h
  · cases h
theorem bind_ok {α β : Type} {r : R α} {k : α → Pi.S → R β} {b : β} {s' : Pi.S} (h : r.bind k = .ok b s') : ∃ a s, r = .ok a s ∧ k a s = .ok b s' := by
  cases r with
  | ok a s => exact ⟨a, s, rfl, h⟩
  | ex _ _ _ => cases h
  | no => cases h
theorem bodyC_ok {o : O} {l : List SV} {tg : Tgt} {c e : T} {d : Pi.D} {g : List MO} {x : Option Pi.D} {s1 : Pi.S} (h : bodyC o l tg c e d g = .ok x s1) :
    ∃ l', tgS tg d (clr tg.slots (wipeOwn l)) = some l' ∧ ((∃ s2 y, ev o c ⟨l', g⟩ = .ok (.bl true) s2 ∧ ev o e s2 = .ok y s1 ∧ x = some y) ∨ (ev o c ⟨l', g⟩ = .ok (.bl false) s1 ∧ x = none)) := by
  unfold bodyC at h
  split at h
  · rename_i l' e
    obtain ⟨t, s2, h1, h2⟩ := bind_ok h
    refine ⟨l', e, ?_⟩
    split at h2
    · obtain ⟨y, s3, h3, h4⟩ := bind_ok h2
      cases h4
      exact .inl ⟨s2, y, h1, h3, rfl⟩
    · cases h2
      exact .inr ⟨h1, rfl⟩
    · cases h2
  · cases h
section
variable {E : En} {ρ ρ' ρ1 : List Addr} {S S' S1 H H' H1 : Hp} {g g' : List MO} {p : Addr} {o : HO}
theorem Gr.at (w : Gr E ρ S g H) (sp : S p = none) (np : p ∉ ρ) : Gr E ρ S g (upd H p o) := by
  refine ⟨fun a u e => ?_, w.len, w.nd, w.off, fun n a m e1 e2 => (w.ob n a m e1 e2).mono (Inc.refl _ _) fun u q => ?_⟩
  · rw [upd_ne (show a ≠ p from fun z => by rw [z, sp] at e; cases e)]; exact w.sub _ _ e
  · rw [upd_ne (show a ≠ p from fun z => np (z ▸ List.mem_iff_getElem?.mpr ⟨n, e1⟩))]; exact q
/-- a step, then the object at p (new since the beginning) is laid anew -/
theorem Step.then {B : Bs} (a : Step ρ1 S1 noB H1 ρ S noB H) (b : Step ρ S B H ρ' S' B H') (hB : ∀ x, ¬ B x) : Step ρ1 S1 noB H1 ρ' S' noB H' where
  inc := a.inc.trans b.inc
  nρ := fun x h => by
    rcases b.nρ x h with h | h
    · exact a.nρ x h
    · exact .inr (a.dom x h)
  nS := fun x o h => by
    rcases b.nS x o h with h | h | h
    · exact a.nS x o h
    · exact .inr (.inl (a.dom x h))
    · exact absurd h (hB x)
  nB := fun _ h => h.elim
  fr := fun x o h n _ => b.fr x o (a.fr x o h n fun z => z) (fun z => by
    rcases a.nρ x z with z | z
    · exact n z
    · rw [h] at z; cases z) (hB x)
  dom := fun x h => a.dom x (b.dom x h)
  nO := fun _ h => h.elim
theorem Step.put (a : Step ρ1 S1 noB H1 ρ S noB H) (hp : H1 p = none) : Step ρ1 S1 noB H1 ρ S noB (upd H p o) where
  inc := a.inc
  nρ := a.nρ
  nS := a.nS
  nB := fun _ h => h.elim
  fr := fun x u h n m => by rw [upd_ne (show x ≠ p from fun z => by rw [z, hp] at h; cases h)]; exact a.fr x u h n m
  dom := fun x h => by
    by_cases q : x = p
    · subst q; exact hp
    · rw [upd_ne q] at h; exact a.dom x h
  nO := fun _ h => h.elim
theorem Step.noBs {B B' : Bs} (a : Step ρ S B H ρ' S' B' H') (h : ∀ x, ¬ B x) : Step ρ S B H ρ' S' B H' := ⟨a.inc, a.nρ, a.nS, fun x h => .inl h, a.fr, a.dom, fun _ h => h⟩
end
theorem comp_core {E : En} {W : WX} {o : O} {tg : Tgt} {gg : TG} (tgc : TgC E gg tg) {tc te : T} {σ : St} {ρ1 : List Addr} {S1 H1 : Hp} {s1 : Pi.S} {ds : List Pi.D} {J : It} {Q : VK} (w : Wd E ρ1 S1 s1 σ H1) (dl : Dl E ρ1 J ds S1) (hb : ds.length ≤ big)
    (p : Post E W σ ρ1 S1 s1.l H1 (match loopC (bodyC o s1.l tg tc te) ds [] s1.g with
      | .ok xs s' => .ok (.lst xs) ⟨s1.l, s'.g⟩
      | _ => .no) Q) {Dd : Addr} (hD : H1 Dd = none) :
    ∃ V : Nat → Nat → Hp → Prop, (∃ m, V 0 m (upd H1 Dd (.lst []))) ∧ ∀ i m H, V i m H →
      (J.stop i H ∧ Q (.ref Dd) H) ∨ (J.go i H ∧ ∃ Nx : Hp → Prop, (∀ H', Nx H' → ∃ m', m' < m ∧ V (i + 1) m' H') ∧ ∀ x H', J.yld i H x H' → gg x (wipe σ tg.slots) H' fun σ2 H2 => wipe σ2 tg.slots = wipe σ tg.slots ∧ (tB (tI E W0 (ev o tc))) σ2 H2 fun b H3 =>
        if b = true then tI E W0 (ev o te) σ2 H3 fun y H4 => ∃ acc, H4 Dd = some (.lst acc) ∧ acc.length < sizeLine ∧ Nx (upd H4 Dd (.lst (acc ++ [y]))) else Nx H3) := by
  obtain ⟨xs, sT, hT⟩ : ∃ xs sT, loopC (bodyC o s1.l tg tc te) ds [] s1.g = .ok xs sT := by
    cases q : loopC (bodyC o s1.l tg tc te) ds [] s1.g with
    | ok xs sT => exact ⟨xs, sT, rfl⟩
    | ex _ _ _ => rw [q] at p; exact p.elim
    | no => rw [q] at p; exact p.elim
  rw [hT] at p
  let V : Nat → Nat → Hp → Prop := fun i m H' => m = ds.length - i ∧ i ≤ ds.length ∧ ∃ ρ' S' g' acc accD, Step ρ1 S1 noB H1 ρ' S' noB H' ∧ Gr E ρ' S' g' H' ∧ H' Dd = some (.lst acc) ∧ S' Dd = none ∧ Dd ∉ ρ' ∧ Reps E S' ρ' acc accD ∧ accD.length ≤ i ∧ loopC (bodyC o s1.l tg tc te) (ds.drop i) accD g' = .ok xs sT
  obtain ⟨f1, f2⟩ := w.gr.fresh hD
  refine ⟨V, ⟨ds.length, by simp, Nat.zero_le _, ρ1, S1, s1.g, [], [], Step.refl.put hD, w.gr.at f1 f2, upd_same, f1, f2, .nil, Nat.le_refl _, hT⟩, ?_⟩
  rintro i m H3 ⟨rfl, hi, ρ3, S3, g3, acc, accD, st3, gr3, hD3, sD3, nD3, ra3, la3, e3⟩
  obtain ⟨w3, st3'⟩ := lift st3 w gr3
  have hsub : ∀ a o, S1 a = some o → H3 a = some o := fun a o z => gr3.sub a o (st3.inc.sub a o z)
  by_cases hlt : i < ds.length
  · right
    obtain ⟨d, hd⟩ : ∃ d, ds[i]? = some d := ⟨_, List.getElem?_eq_getElem hlt⟩
    obtain ⟨go, yl⟩ := (dl ρ3 S3 H3 st3.inc gr3.sub (fun p hp => (Gr.fresh (s := ⟨[], g3⟩) gr3 hp).1) i).1 _ hd
    refine ⟨go, fun H' => V (i + 1) (ds.length - (i + 1)) H', fun H' v => ⟨_, by omega, v⟩, fun y H4 hy => ?_⟩
    obtain ⟨SY, yd, rd⟩ := yl y H4 hy
    have grY : Gr E ρ3 SY g3 H4 := yd.gr (s := ⟨[], g3⟩) gr3
    have stY : Step ρ3 S3 noB H3 ρ3 SY noB H4 := yd.step (s := ⟨[], g3⟩) gr3
    have iY := stY.inc
    have hDY : H4 Dd = some (.lst acc) := stY.fr Dd _ hD3 nD3 (fun z => z)
    have sDY : SY Dd = none := by
      cases q : SY Dd with
      | none => rfl
      | some u =>
        rcases stY.nS Dd u q with z | z | z
        · rw [sD3] at z; cases z
        · rw [hD3] at z; cases z
        · exact z.elim
    have raY : Reps E SY ρ3 acc accD := ra3.mono iY
    have stZ : Step ρ1 S1 noB H1 ρ3 SY noB H4 := st3.then stY (fun _ z => z)
    have hdrop : ds.drop i = d :: ds.drop (i + 1) := by
      obtain ⟨hl, hg⟩ := List.getElem?_eq_some_iff.mp hd
      rw [List.drop_eq_getElem_cons hl, hg]
    rw [hdrop] at e3
    have nO0 : NoOw (clr tg.slots (wipeOwn s1.l)) := NoOw.wipe.clr _
    obtain ⟨wY, _⟩ := lift stY w3 grY
    have w40 : Wd E ρ3 SY ⟨clr tg.slots (wipeOwn s1.l), g3⟩ (wipe σ tg.slots) H4 := ⟨grY, wY.sl.wipe.clr NoOw.wipe _⟩
    obtain ⟨l', hl'⟩ : ∃ l', tgS tg d (clr tg.slots (wipeOwn s1.l)) = some l' := by
      rcases loopC_ok e3 with ⟨y0, s5, h1, h2⟩ | ⟨s5, h1, h2⟩
      · obtain ⟨l', e, _⟩ := bodyC_ok h1; exact ⟨l', e⟩
      · obtain ⟨l', e, _⟩ := bodyC_ok h1; exact ⟨l', e⟩
    refine tgc.st ρ3 SY ⟨clr tg.slots (wipeOwn s1.l), g3⟩ _ H4 y d l' _ w40 rd hl' fun σ' w4 hw => ?_
    refine ⟨hw.trans (wipe_wipe _ _ fun _ h => h), ?_⟩
    refine ⟨ρ3, SY, _, w4, ?_⟩
    have nB : ∀ a, ¬ Ow σ' l' a := fun a => (nO0.tg hl').no
    -- what stands when the turn is done
    have at5 : ∀ {ρ5 : List Addr} {S5 H5 : Hp} {B5 : Bs}, Step ρ3 SY (Ow σ' l') H4 ρ5 S5 B5 H5 → H5 Dd = some (.lst acc) ∧ S5 Dd = none ∧ Dd ∉ ρ5 := fun {ρ5 S5 H5 B5} st5 => by
      refine ⟨st5.fr Dd _ hDY nD3 (nB Dd), ?_, fun z => ?_⟩
      · cases q : S5 Dd with
        | none => rfl
        | some u =>
          rcases st5.nS Dd u q with z | z | z
          · rw [sDY] at z; cases z
          · rw [hDY] at z; cases z
          · exact absurd z (nB Dd)
      · rcases st5.nρ Dd z with z | z
        · exact nD3 z
        · rw [hDY] at z; cases z
    rcases loopC_ok e3 with ⟨y0, s5, h1, h2⟩ | ⟨s5, h1, h2⟩
    · obtain ⟨l2, el2, hb1⟩ := bodyC_ok h1
      rw [hl'] at el2
      cases el2
      rcases hb1 with ⟨s4, y1, q1, q2, q3⟩ | ⟨_, q3⟩
      · cases q3
        show Post E W0 _ ρ3 SY _ H4 (ev o tc ⟨l', g3⟩) _
        rw [q1]
        intro v ρ5 S5 H5 st5 w5 r5
        refine ⟨true, bl_of r5, iteT ?_⟩
        refine ⟨ρ5, S5, s4, w5, ?_⟩
        rw [q2]
        intro y ρ6 S6 H6 st6 w6 r6
        have st46 := (st5.trans st6).noBs nB
        obtain ⟨a1, a2, a3⟩ := at5 st46
        refine ⟨acc, a1, ?_, rfl, hlt, ρ6, S6, s5.g, acc ++ [y], accD ++ [y0], (stZ.then st46 nB).put hD, w6.gr.at a2 a3, upd_same, a2, a3, (raY.mono st46.inc).append (.cons r6 .nil), by simp; omega, h2⟩
        have := ra3.len
        exact lt_line (by omega)
      · cases q3
    · obtain ⟨l2, el2, hb1⟩ := bodyC_ok h1
      rw [hl'] at el2
      cases el2
      rcases hb1 with ⟨s4, y1, q1, q2, q3⟩ | ⟨q1, q3⟩
      · cases q3
      · show Post E W0 _ ρ3 SY _ H4 (ev o tc ⟨l', g3⟩) _
        rw [q1]
        intro v ρ5 S5 H5 st5 w5 r5
        refine ⟨false, bl_of r5, iteF ?_⟩
        have st45 := st5.noBs nB
        obtain ⟨a1, a2, a3⟩ := at5 st45
        exact ⟨rfl, hlt, ρ5, S5, s5.g, acc, accD, stZ.then st45 nB, w5.gr, a1, a2, a3, raY.mono st45.inc, by omega, h2⟩
  · left
    have hn : ds[i]? = none := List.getElem?_eq_none (by omega)
    refine ⟨(dl ρ3 S3 H3 st3.inc gr3.sub (fun p hp => (Gr.fresh (s := ⟨[], g3⟩) gr3 hp).1) i).2 hn, ?_⟩
    have hd : ds.drop i = [] := List.drop_eq_nil_of_le (by omega)
    rw [hd] at e3
    cases e3
    have no : ¬ Ow σ s1.l Dd := fun ⟨j, h1, h2⟩ => by
      rcases h2 with ⟨es, h2⟩ | ⟨k, fs, h2⟩
      · obtain ⟨a', vs', z1, z2, _⟩ := w.sl.own j es h2
        rw [h1] at z1; cases z1; rw [hD] at z2; cases z2
      · obtain ⟨a', dx, fv, z1, z2, _⟩ := w.sl.ob j k fs h2
        rw [h1] at z1; cases z1; rw [hD] at z2; cases z2
    have wF : Wd E ρ3 (upd S3 Dd (.lst acc)) ⟨s1.l, g3⟩ σ H3 := w3.freeze hD3 sD3 nD3 no
    have iF : Inc S3 ρ3 (upd S3 Dd (.lst acc)) ρ3 := Inc.new sD3
    refine p (.ref Dd) ρ3 _ H3 ⟨st3'.inc.trans iF, st3'.nρ, fun a u e => ?_, st3'.nB, st3'.fr, st3'.dom, st3'.nO⟩ wF (.lst (SqL.of upd_same) (ra3.mono iF))
    by_cases q : a = Dd
    · subst q; exact .inr (.inl hD)
    · rw [upd_ne q] at e; exact st3'.nS a u e
section
variable {c : Cn} {X : Cx} {elt it : Expr} {ifs : List Expr} {ti tc te : T} {pos : Pos}
/-- the target of a comprehension within its block -/
structure PGC (c : Cn) (X : Cx) (own : List (Str × Nat)) (scope : Scope) (te : Expr) (tg : Tgt) : Prop where
  ex : ∃ g, (∀ (s : Shared) (H : Hp) (C : Addr) (cl : List (Str × Addr)) (fp : List Addr), PG (X.blk s H scope (compEnvC scope cl C X.env) fp) te g) ∧ TgC c.E g tg ∧ tg.slots = own.map (·.2)
theorem pgc_one {c : Cn} {i : Nat} {x : Str} {scope : Scope} {tpos : Pos} (hg : ∀ (s : Shared) (H : Hp) (C : Addr) (cl : List (Str × Addr)) (fp : List Addr), PG (X.blk s H scope (compEnvC scope cl C X.env) fp) (.Name x tpos) (gName i)) : PGC c X [(x, i)] scope (.Name x tpos) (.one i) := ⟨_, hg, tgc_one, rfl⟩
theorem pgc_tup {c : Cn} {own : List (Str × Nat)} {es : List Expr} {kk : Nat} {is : List Nat} {scope : Scope} {tpos : Pos} (hK : X.K = c.E.K) (hl : is.length = es.length) (ho : is = own.map (·.2))
    (hg : ∀ (s : Shared) (H : Hp) (C : Addr) (cl : List (Str × Addr)) (fp : List Addr), PG (X.blk s H scope (compEnvC scope cl C X.env) fp) (.Tuple es kk tpos) (gAny X.K es.length (gAll is))) : PGC c X own scope (.Tuple es kk tpos) (.tup is) := ⟨_, hg, tgc_tup hK hl, ho⟩
theorem pi_lc {own : List (Str × Nat)} {te' : Expr} {tg : Tgt} {scope : Scope} (hc : X.calm = true) (hN : X.N.Nodup) (hi : PII c X te' it ti) (ok : BlkOk X.N X.env.scope scope own)
    (hg : PGC c X own scope te' tg)
    (ht : ∀ (s : Shared) (H : Hp) (C : Addr) (cl : List (Str × Addr)) (fp : List Addr), PTsI c.bl (X.blk s H scope (compEnvC scope cl C X.env) fp) ifs tc)
    (he : ∀ (s : Shared) (H : Hp) (C : Addr) (cl : List (Str × Addr)) (fp : List Addr), PEI c.bl (X.blk s H scope (compEnvC scope cl C X.env) fp) elt te) (hs : ∀ x, foldedSetIterable it X.env x = pure x := by intro _; rfl) :
    PEI c X (.ListComp elt [⟨te', it, ifs, 0⟩] scope pos) (.comp tg ti tc te) := by
  obtain ⟨g, hg, tgc, hsl⟩ := hg.ex
  refine pe_le (pe_lc hc hN hi ok hg (fun s H C cl fp => (ht s H C cl fp).run) he hs) fun σ H Q h => ?_
  obtain ⟨ρ, S, s, w, p⟩ := h
  refine ⟨ρ, S, s, w, ?_⟩
  unfold ev at p
  cases q : evI c.o ti s with
  | ok ds s1 =>
    rw [q] at p
    obtain ⟨hb, p⟩ := Post.bif p
    intro J ρ1 S1 H1 st w1 dl Dd hD
    rw [← hsl]
    exact comp_core tgc w1 dl (of_decide_eq_true hb) (Post.step (l1 := s1.l) st p) hD
  | ex k fs s1 => rw [q] at p; exact p
  | no => rw [q] at p; exact p
theorem psi_setLc {own : List (Str × Nat)} {te' : Expr} {tg : Tgt} {j : Nat} {y : Str} {scope : Scope} {py spos : Pos} (hc : X.calm = true) (hN : X.N.Nodup) (hy : X.N[j]? = some y) (hyl : X.env.scope.names.lookup y = some .local)
    (hsw : swapsWith (.ListComp elt [⟨te', it, ifs, 0⟩] scope pos) (some (.Name y py)) spos.line X.env = pure true) (hi : PII c X te' it ti) (ok : BlkOk X.N X.env.scope scope own)
    (hg : PGC c X own scope te' tg)
    (ht : ∀ (s : Shared) (H : Hp) (C : Addr) (cl : List (Str × Addr)) (fp : List Addr), PTsI c.bl (X.blk s H scope (compEnvC scope cl C X.env) fp) ifs tc)
    (he : ∀ (s : Shared) (H : Hp) (C : Addr) (cl : List (Str × Addr)) (fp : List Addr), PEI c.bl (X.blk s H scope (compEnvC scope cl C X.env) fp) elt te) (hs : ∀ x, foldedSetIterable it X.env x = pure x := by intro _; rfl) :
    PSI c X (.Assign [.Name y py] (.ListComp elt [⟨te', it, ifs, 0⟩] scope pos) spos) (.asg (.one j) (.comp tg ti tc te)) := by
  obtain ⟨g, hg, tgc, hsl⟩ := hg.ex
  refine ps_le (ps_setLc hc hN hy hyl hsw hi ok hg (fun s H C cl fp => (ht s H C cl fp).run) he hs) fun D σ H h => ?_
  obtain ⟨ρ, S, s, w, p⟩ := h
  have p2 := PostS.bind p
  refine ⟨ρ, S, s, w, ?_⟩
  unfold ev at p2
  cases q : evI c.o ti s with
  | ok ds s1 =>
    rw [q] at p2
    obtain ⟨hb, p3⟩ := Post.bif p2
    intro J ρ1 S1 H1 st w1 dl Dd hD
    rw [← hsl]
    refine comp_core tgc (Q := fun x H1 => gName j x σ H1 D.nx) w1 dl (of_decide_eq_true hb) ((Post.step (l1 := s1.l) st p3).imp ?_) hD
    rintro v H2 ⟨ρ2, S2, s2, d2, a2, st2, r2, p4⟩
    exact p4 ρ2 S2 H2 _ (Step.refl.ow fun a => ⟨Ow_set a2.wd.sl.len, Ob_set a2.wd.sl.len⟩) ⟨a2.wd.gr, a2.wd.sl.set r2⟩
  | ex k fs s1 => rw [q] at p2; exact p2
  | no => rw [q] at p2; exact p2
end
end Pi
namespace Pi
open PySem L2

section
variable {E : En} {ρ : List Addr} {S H : Hp} {s : Pi.S} {σ : St} {l : List SV}
theorem own_get {l : List SV} {i j : Nat} {x y : SV} (e : (l.set i x)[j]? = some y) : (i = j ∧ y = x ∧ i < l.length) ∨ (i ≠ j ∧ l[j]? = some y) := by
  by_cases q : i = j
  · subst q
    by_cases hi : i < l.length
    · rw [List.getElem?_set_self hi] at e; cases e; exact .inl ⟨rfl, rfl, hi⟩
    · rw [List.getElem?_eq_none (by rw [List.length_set]; omega)] at e; cases e
  · rw [List.getElem?_set_ne q] at e; exact .inr ⟨q, e⟩
/-- a slot takes a list that nothing else holds -/
theorem Wd.own {p : Addr} {vs : List V} {ds : List D} {i : Nat} (w : Wd E ρ S s σ H) (hp : H p = some (.lst vs)) (sp : S p = none) (np : p ∉ ρ) (r : Reps E S ρ vs ds) (hi : i < σ.length)
    (no : ∀ j, j ≠ i → σ[j]? = some (some (.ref p)) → ¬ ((∃ ds, s.l[j]? = some (.own ds)) ∨ ∃ c fs, s.l[j]? = some (.ob c fs))) :
    Wd E ρ S ⟨s.l.set i (.own ds), s.g⟩ (σ.set i (some (.ref p))) H := by
  have hl := w.sl.len
  refine ⟨w.gr, by simp [hl], fun j d e => ?_, fun j es e => ?_, fun j c fs e => ?_, fun j k a hjk h1 h2 e => ?_⟩
  · rcases own_get e with ⟨_, z, _⟩ | ⟨q, e'⟩
    · cases z
    · rw [List.getElem?_set_ne q]; exact w.sl.v j d e'
  · rcases own_get e with ⟨q, z, _⟩ | ⟨q, e'⟩
    · cases z
      subst q
      exact ⟨p, vs, List.getElem?_set_self hi, hp, r, sp, np⟩
    · rw [List.getElem?_set_ne q]; exact w.sl.own j es e'
  · rcases own_get e with ⟨_, z, _⟩ | ⟨q, e'⟩
    · cases z
    · rw [List.getElem?_set_ne q]; exact w.sl.ob j c fs e'
  · have old : ∀ {m : Nat}, i ≠ m → ((∃ ds', (s.l.set i (.own ds))[m]? = some (.own ds')) ∨ ∃ c fs, (s.l.set i (.own ds))[m]? = some (.ob c fs)) → ((∃ ds', s.l[m]? = some (.own ds')) ∨ ∃ c fs, s.l[m]? = some (.ob c fs)) := fun {m} q h => by
      rw [List.getElem?_set_ne q] at h; exact h
    intro e2
    by_cases q1 : i = j
    · subst q1
      rw [List.getElem?_set_self hi] at e
      cases e
      rw [List.getElem?_set_ne hjk] at e2
      exact no k (Ne.symm hjk) e2 (old hjk h2)
    · rw [List.getElem?_set_ne q1] at e
      by_cases q2 : i = k
      · subst q2
        rw [List.getElem?_set_self hi] at e2
        cases e2
        exact no j hjk e (old q1 h1)
      · rw [List.getElem?_set_ne q2] at e2
        exact w.sl.dist j k a hjk (old q1 h1) (old q2 h2) e e2
theorem Ob_own {i : Nat} {p a : Addr} {ds : List D} (h : ObP (σ.set i (some (.ref p))) (l.set i (.own ds)) a) : ObP σ l a := by
  obtain ⟨j, h1, c, fs, h2⟩ := h
  rcases own_get h2 with ⟨_, z, _⟩ | ⟨q, e⟩
  · cases z
  · rw [List.getElem?_set_ne q] at h1
    exact ⟨j, h1, c, fs, e⟩
theorem Ow_own {i : Nat} {p a : Addr} {ds : List D} (hl : σ.length = l.length) (h : Ow (σ.set i (some (.ref p))) (l.set i (.own ds)) a) : Ow σ l a ∨ a = p := by
  obtain ⟨j, h1, h2⟩ := h
  by_cases q : i = j
  · subst q
    by_cases hi : i < σ.length
    · rw [List.getElem?_set_self hi] at h1; cases h1; exact .inr rfl
    · rw [List.getElem?_eq_none (by rw [List.length_set]; omega)] at h1; cases h1
  · rw [List.getElem?_set_ne q] at h1 h2
    exact .inl ⟨j, h1, h2⟩
end
section
variable {c : Cn} {X : Cx} {e tg it : Expr} {te ti : T} {t u : Pi.TS} {st : Stmt} {rest body a b es : List Stmt} {pos : Pos}
theorem Reach.nx {E : En} {D : Ends} {ρ' : List Addr} {S' : Hp} {σ' : St} {H' : Hp} (h : Reach E D .nx ρ' S' σ' H') : D.nx σ' H' := h
theorem PostS.bif {E : En} {W : WX} {σ : St} {ρ : List Addr} {S H : Hp} {l : List SV} {D : Ends} {k : Bool} {r : R F} (p : PostS E W σ ρ S l H (bif k then r else .no) D) : k = true ∧ PostS E W σ ρ S l H r D := by
  cases k with
  | true => exact ⟨rfl, p⟩
  | false => exact p.elim
/-- x = [a, b, ..], which will grow -/
theorem psi_mko {i : Nat} {x : Str} {es : List Expr} {p' lp : Pos} (hN : X.N.Nodup) (hi : X.N[i]? = some x) (hx : Loc X.env.scope x) (h : PAI c X es te) (hf : X.fn x = true ∨ X.env.scope.names.lookup x = some .local := by first | exact .inl rfl | exact .inr rfl) : PSI c X (.Assign [.Name x p'] (.List es lp) pos) (.mko i te) :=
  ⟨fun pins s0 σ H D I hh => by
    have hlen : i < σ.length := by rw [I.len]; exact (List.getElem?_eq_some_iff.mp hi).1
    refine (ps_set hN hi hx (pe_lst h) (by rfl) hf).run pins s0 σ H D I ?_
    obtain ⟨ρ, S, s, w, p⟩ := hh
    refine ⟨ρ, S, s, w, (PostS.bindA p).imp ?_⟩
    rintro vs H1 ⟨ρ1, S1, s1, d1, e1, a1, st1, r1, p1⟩
    obtain ⟨hb, p2⟩ := PostS.bif p1
    refine ⟨by rw [r1.len]; exact le_line (of_decide_eq_true hb), fun q hq => ?_⟩
    obtain ⟨f1, f2⟩ := a1.wd.gr.fresh hq
    have w2 : Wd c.E ρ1 S1 s1 σ (upd H1 q (.lst vs)) := ⟨a1.wd.gr.at f1 f2, a1.wd.sl.keep (Inc.refl _ _) (fun a _ u z => by rw [upd_ne (ne_of_none z hq)]; exact z) (fun _ _ _ z => z) fun _ _ _ z => z⟩
    have no : ∀ j, j ≠ i → σ[j]? = some (some (.ref q)) → ¬ ((∃ ds, s1.l[j]? = some (.own ds)) ∨ ∃ c fs, s1.l[j]? = some (.ob c fs)) := fun j _ hj h2 => by
      rcases h2 with ⟨es, h2⟩ | ⟨k, fs, h2⟩
      · obtain ⟨a', vs', z1, z2, _⟩ := a1.wd.sl.own j es h2
        rw [hj] at z1; cases z1; rw [hq] at z2; cases z2
      · obtain ⟨a', dx, fv, z1, z2, _⟩ := a1.wd.sl.ob j k fs h2
        rw [hj] at z1; cases z1; rw [hq] at z2; cases z2
    refine p2 ρ1 S1 _ _ ⟨Inc.refl _ _, fun _ z => .inl z, fun _ _ z => .inl z, fun a z => ?_, fun a u z _ _ => by rw [upd_ne (ne_of_none z hq)]; exact z, fun a z => ?_, fun a z => Ob_own z⟩ (w2.own upd_same f1 f2 r1 hlen no)
    · rcases Ow_own a1.wd.sl.len z with z | z
      · exact .inl z
      · subst z; exact .inr hq
    · by_cases y : a = q
      · subst y; exact hq
      · rw [upd_ne y] at z; exact z⟩
end
end Pi
namespace Pi
open PySem L2

section
variable {E : En} {ρ : List Addr} {S H : Hp} {s : Pi.S} {σ : St} {l : List SV}
theorem Ob_re {i : Nat} {a : Addr} {es : List D} (h : ObP σ (l.set i (.own es)) a) : ObP σ l a := by
  obtain ⟨j, h1, c, fs, h2⟩ := h
  rcases own_get h2 with ⟨_, z, _⟩ | ⟨q, e⟩
  · cases z
  · exact ⟨j, h1, c, fs, e⟩
theorem Ow_re {i : Nat} {a : Addr} {ds es : List D} (h0 : l[i]? = some (.own ds)) (h : Ow σ (l.set i (.own es)) a) : Ow σ l a := by
  obtain ⟨j, h1, h2⟩ := h
  refine ⟨j, h1, ?_⟩
  by_cases q : i = j
  · subst q; exact .inl ⟨ds, h0⟩
  · rw [List.getElem?_set_ne q] at h2; exact h2
/-- the content of an owned list is another one -/
theorem Wd.regrow {p : Addr} {vs : List V} {ds es : List D} {i : Nat} (w : Wd E ρ S s σ H) (h0 : s.l[i]? = some (.own ds)) (hp : σ[i]? = some (some (.ref p))) (r : Reps E S ρ vs es) :
    Wd E ρ S ⟨s.l.set i (.own es), s.g⟩ σ (upd H p (.lst vs)) ∧ Step ρ S (Ow σ s.l) H ρ S (Ow σ (s.l.set i (.own es))) (upd H p (.lst vs)) := by
  obtain ⟨a', vs0, q1, q2, q3, q4, q5⟩ := w.sl.own i ds h0
  rw [hp] at q1
  cases q1
  have hi : i < s.l.length := (List.getElem?_eq_some_iff.mp h0).1
  have ne : ∀ {j : Nat} {a : Addr}, i ≠ j → ((∃ ds, s.l[j]? = some (.own ds)) ∨ ∃ c fs, s.l[j]? = some (.ob c fs)) → σ[j]? = some (some (.ref a)) → a ≠ p := fun {j a} hj h2 h1 z => by
    subst z
    exact w.sl.dist i j a hj (.inl ⟨ds, h0⟩) h2 hp h1
  refine ⟨⟨w.gr.at q4 q5, by simp [w.sl.len], fun j d e => ?_, fun j fs e => ?_, fun j c fs e => ?_, fun j k a hjk h1 h2 e => ?_⟩, Inc.refl _ _, fun _ z => .inl z, fun _ _ z => .inl z, fun a z => .inl (Ow_re h0 z), fun a u e _ no => ?_, fun a z => ?_, fun a z => Ob_re z⟩
  · rcases own_get e with ⟨_, z, _⟩ | ⟨q, e'⟩
    · cases z
    · exact w.sl.v j d e'
  · rcases own_get e with ⟨q, z, _⟩ | ⟨q, e'⟩
    · cases z
      subst q
      exact ⟨p, vs, hp, upd_same, r, q4, q5⟩
    · obtain ⟨a', vs1, z1, z2, z3, z4, z5⟩ := w.sl.own j fs e'
      exact ⟨a', vs1, z1, by rw [upd_ne (ne q (.inl ⟨_, e'⟩) z1)]; exact z2, z3, z4, z5⟩
  · rcases own_get e with ⟨_, z, _⟩ | ⟨q, e'⟩
    · cases z
    · obtain ⟨a', dx, fv, z1, z2, zf, z3, z4, z5⟩ := w.sl.ob j c fs e'
      exact ⟨a', dx, fv, z1, by rw [upd_ne (ne q (.inr ⟨_, _, e'⟩) z1)]; exact z2, zf, z3, z4, z5⟩
  · have old : ∀ {m : Nat}, ((∃ ds', (s.l.set i (.own es))[m]? = some (.own ds')) ∨ ∃ c fs, (s.l.set i (.own es))[m]? = some (.ob c fs)) → ((∃ ds', s.l[m]? = some (.own ds')) ∨ ∃ c fs, s.l[m]? = some (.ob c fs)) := fun {m} h => by
      by_cases q : i = m
      · subst q; exact .inl ⟨ds, h0⟩
      · rw [List.getElem?_set_ne q] at h; exact h
    exact w.sl.dist j k a hjk (old h1) (old h2) e
  · rw [upd_ne (show a ≠ p from fun z => no (z ▸ ⟨i, hp, .inl ⟨ds, h0⟩⟩))]
    exact e
  · by_cases y : a = p
    · subst y; rw [upd_same] at z; cases z
    · rw [upd_ne y] at z; exact z
theorem isOwn_inv {i : Nat} (h : isOwn l i = true) : ∃ ds, l[i]? = some (.own ds) := by
  unfold isOwn at h
  split at h
  · exact ⟨_, by assumption⟩
  · cases h
end
section
variable {c : Cn} {X : Cx} {e tg it : Expr} {te ti : T} {t u : Pi.TS} {st : Stmt} {rest body a b : List Stmt} {pos : Pos}
/-- x.append(e) -/
theorem psi_app {i : Nat} {x : Str} {p' ap cp : Pos} (hK : X.K = c.E.K) (he : PEI c X e te) (hN : X.N[i]? = some x := by rfl) (hv : Vis X.env.scope x := by first | exact Or.inl rfl | exact Or.inr (Or.inl rfl) | exact Or.inr (Or.inr rfl))
    (hbase : attributeBase (.Name x p') "append" X.env (eval (.Name x p') X.env) = eval (.Name x p') X.env := by rfl)
    (hfew : ((backTo cp (starEach [e] X.env)).all (fun x => !x.1) && (backToKw cp (keywordEach [] X.env)).all (fun x => x.1.isSome) && decide ([e].length + ([] : List Keyword).length + (if ([] : List Keyword).isEmpty then 0 else 1) < 30)) = true := by rfl)
    (hline : (ap.endLine == cp.line) = true := by rfl) (hs : starEach [e] X.env = (false, eval e X.env) :: starEach [] X.env := by rfl) (hplain : (backTo cp (starEach [] X.env)).any (·.1) = false := by rfl)
    (hd : (x == ("__debug__" : Str)) = false := by decide) (hcd : (x == ("__classdict__" : Str)) = false := by decide)
    (hsw : swapsWith (.Call (.Attribute (.Name x p') "append" ap) [e] [] cp) none pos.line X.env = pure false := by rfl) : PSI c X (.Expr (.Call (.Attribute (.Name x p') "append" ap) [e] [] cp) pos) (.app i te) := by
  refine ps_le (ps_expr (pe_bm PySem.F.plainAttrs_list PySem.F.slot_list_append PySem.F.type_list_append mt_append (pe_var hN hv hd hcd) (pa_cons he pa_nil hs) hbase hfew hline hs hplain) hsw) fun D σ H h => ?_
  obtain ⟨ρ, S, s, w, p⟩ := h
  obtain ⟨ho, p⟩ := PostS.bif (show PostS c.E c.W σ ρ S s.l H (bif isOwn s.l i then _ else .no) D from p)
  obtain ⟨ds0, h0⟩ := isOwn_inv ho
  obtain ⟨q, vs0, q1, q2, q3, q4, q5⟩ := w.sl.own i ds0 h0
  refine ⟨.ref q, q1, .inl ⟨rfl, vs0, SqL.of q2⟩, ρ, S, s, w, (PostS.bind p).imp ?_⟩
  rintro y H1 ⟨ρ1, S1, s1, d1, a1, st1, r1, p1⟩
  split at p1
  · rename_i ds h1
    obtain ⟨hb, p2⟩ := PostS.bif p1
    obtain ⟨q', vs, z1, z2, z3, z4, z5⟩ := a1.wd.sl.own i ds h1
    rw [q1] at z1
    cases z1
    obtain ⟨w2, st2⟩ := a1.wd.regrow h1 q1 (z3.append (.cons r1 .nil))
    refine ⟨q, vs, y, rfl, rfl, z2, by rw [z3.len]; exact lt_line (of_decide_eq_true hb), p2 ρ1 S1 _ σ st2 w2⟩
  · exact p1.elim
/-- from here on the list stands -/
theorem psi_frz {i : Nat} (h : PSsI c X rest t) : PSsI c X rest (.seq (.frz i) t) := pss_le h fun D σ H h => by
  obtain ⟨ρ, S, s, w, p⟩ := h
  have p' : PostS c.E c.W σ ρ S s.l H (match (match s.l[i]? with
    | some (.own ds) => R.ok F.nx ⟨s.l.set i (.v (.lst ds)), s.g⟩
    | _ => R.no) with
    | .ok .nx s => evS c.o t s
    | r => r) D := p
  obtain ⟨ds, h0⟩ : ∃ ds, s.l[i]? = some (.own ds) := by
    cases h0 : s.l[i]? with
    | none => rw [h0] at p'; exact p'.elim
    | some x =>
      cases x with
      | own ds => exact ⟨ds, rfl⟩
      | un => rw [h0] at p'; exact p'.elim
      | v _ => rw [h0] at p'; exact p'.elim
      | ob _ _ => rw [h0] at p'; exact p'.elim
  rw [h0] at p'
  obtain ⟨q, vs, z1, z2, z3, z4, z5⟩ := w.sl.own i ds h0
  have hi : i < s.l.length := (List.getElem?_eq_some_iff.mp h0).1
  have i2 : Inc S ρ (upd S q (.lst vs)) ρ := Inc.new z4
  have ow : ∀ a, Ow σ (s.l.set i (.v (.lst ds))) a → Ow σ s.l a := fun a ⟨j, h1, h2⟩ => by
    by_cases y : i = j
    · subst y
      rw [List.getElem?_set_self hi] at h2
      rcases h2 with ⟨_, h2⟩ | ⟨_, _, h2⟩ <;> cases h2
    · rw [List.getElem?_set_ne y] at h2; exact ⟨j, h1, h2⟩
  have ob : ∀ a, ObP σ (s.l.set i (.v (.lst ds))) a → ObP σ s.l a := fun a ⟨j, h1, k, fs, h2⟩ => by
    rcases own_get h2 with ⟨_, z, _⟩ | ⟨_, e⟩
    · cases z
    · exact ⟨j, h1, k, fs, e⟩
  have noq : ¬ Ow σ (s.l.set i (.v (.lst ds))) q := fun ⟨j, h1, h2⟩ => by
    by_cases y : i = j
    · subst y
      rw [List.getElem?_set_self hi] at h2
      rcases h2 with ⟨_, h2⟩ | ⟨_, _, h2⟩ <;> cases h2
    · rw [List.getElem?_set_ne y] at h2
      exact w.sl.dist i j q y (.inl ⟨ds, h0⟩) h2 z1 h1
  have w1 : Wd c.E ρ S ⟨s.l.set i .un, s.g⟩ σ H := by
    refine ⟨w.gr, by simp [w.sl.len], fun j d e => ?_, fun j fs e => ?_, fun j k fs e => ?_, fun j k a hjk h1 h2 e => ?_⟩
    · rcases own_get e with ⟨_, z, _⟩ | ⟨y, e'⟩
      · cases z
      · exact w.sl.v j d e'
    · rcases own_get e with ⟨_, z, _⟩ | ⟨y, e'⟩
      · cases z
      · exact w.sl.own j fs e'
    · rcases own_get e with ⟨_, z, _⟩ | ⟨y, e'⟩
      · cases z
      · exact w.sl.ob j k fs e'
    · have old : ∀ {m : Nat}, ((∃ ds', (s.l.set i .un)[m]? = some (.own ds')) ∨ ∃ c fs, (s.l.set i .un)[m]? = some (.ob c fs)) → ((∃ ds', s.l[m]? = some (.own ds')) ∨ ∃ c fs, s.l[m]? = some (.ob c fs)) := fun {m} h => by
        by_cases y : i = m
        · subst y; exact .inl ⟨ds, h0⟩
        · rw [List.getElem?_set_ne y] at h; exact h
      exact w.sl.dist j k a hjk (old h1) (old h2) e
  have nou : ¬ Ow σ (s.l.set i .un) q := fun ⟨j, h1, h2⟩ => by
    by_cases y : i = j
    · subst y
      rw [List.getElem?_set_self hi] at h2
      rcases h2 with ⟨_, h2⟩ | ⟨_, _, h2⟩ <;> cases h2
    · rw [List.getElem?_set_ne y] at h2
      exact w.sl.dist i j q y (.inl ⟨ds, h0⟩) h2 z1 h1
  have w2 := w1.freeze z2 z4 z5 nou
  have w3 : Wd c.E ρ (upd S q (.lst vs)) ⟨s.l.set i (.v (.lst ds)), s.g⟩ σ H := by
    have hσ : σ.set i (some (.ref q)) = σ := by
      apply List.ext_getElem?
      intro j
      by_cases y : i = j
      · subst y
        rw [List.getElem?_set_self (by rw [w.sl.len]; exact hi), z1]
      · rw [List.getElem?_set_ne y]
    have w4 := w2.sl.set (i := i) (v := .ref q) (d := .lst ds) (.lst (SqL.of upd_same) (z3.mono i2))
    rw [List.set_set, hσ] at w4
    exact ⟨w2.gr, w4⟩
  refine ⟨ρ, _, _, w3, PostS.step (l1 := s.l.set i (.v (.lst ds))) ⟨i2, fun _ z => .inl z, fun a o z => ?_, fun a z => .inl (ow a z), fun _ _ z _ _ => z, fun _ z => z, fun a z => ob a z⟩ p'⟩
  by_cases y : a = q
  · subst y; exact .inr (.inr ⟨i, z1, .inl ⟨ds, h0⟩⟩)
  · rw [upd_ne y] at z; exact .inl z
end
end Pi
namespace Pi
open PySem PySem.Spec L2

section
variable {ρ ρ' : List Addr} {S S' H H' : Hp} {B B' : Bs}
theorem Step.toNo (a : Step ρ S B H ρ' S' B' H') (h : ∀ x, ¬ B x) : Step ρ S noB H ρ' S' noB H' :=
  ⟨a.inc, a.nρ, fun x o z => by
    rcases a.nS x o z with z | z | z
    · exact .inl z
    · exact .inr (.inl z)
    · exact absurd z (h x), fun _ z => z.elim, fun x o e n _ => a.fr x o e n (h x), a.dom, fun _ z => z⟩
end

/-! ### a def keeps what its body means -/
theorem slots_get {n : Nat} {ds : List D} {i : Nat} {x : SV} (h : (slots n ds)[i]? = some x) : x = .un ∨ ∃ d, x = .v d ∧ ds[i]? = some d := by
  unfold slots at h
  by_cases q : i < ds.length
  · rw [List.getElem?_append_left (by simpa using q), List.getElem?_map] at h
    cases hd : ds[i]? with
    | none => rw [hd] at h; cases h
    | some d => rw [hd] at h; cases h; exact .inr ⟨d, rfl, rfl⟩
  · rw [List.getElem?_append_right (by simpa using q), List.getElem?_replicate] at h
    split at h
    · cases h; exact .inl rfl
    · cases h
theorem sl_start {E : En} {ρ : List Addr} {S H : Hp} {N : List Str} {vs : List V} {ds : List D} (r : Reps E S ρ vs ds) (hl : vs.length ≤ N.length) : Sl E ρ S H (L2.start N vs) (slots N.length ds) := by
  have hlen := r.len
  refine ⟨?_, fun i d e => ?_, fun i fs e => ?_, fun i c fs e => ?_, fun i j a _ h1 _ _ => ?_⟩
  · unfold L2.start slots
    simp [hlen]
  · rcases slots_get e with z | ⟨d', z, e'⟩
    · cases z
    · cases z
      obtain ⟨v, h1, h2⟩ := r.get e'
      refine ⟨v, ?_, h2⟩
      unfold L2.start
      have hi := (List.getElem?_eq_some_iff.mp h1).1
      rw [List.getElem?_append_left (by simpa using hi), List.getElem?_map, h1]
      rfl
  · rcases slots_get e with z | ⟨d', z, e'⟩ <;> cases z
  · rcases slots_get e with z | ⟨d', z, e'⟩ <;> cases z
  · rcases h1 with ⟨fs, e⟩ | ⟨k, fs, e⟩
    · rcases slots_get e with z | ⟨d', z, e'⟩ <;> cases z
    · rcases slots_get e with z | ⟨d', z, e'⟩ <;> cases z
theorem no_Ow_start {σ : St} {n : Nat} {ds : List D} {a : Addr} : ¬ Ow σ (slots n ds) a := by
  rintro ⟨j, _, h2⟩
  rcases h2 with ⟨fs, e⟩ | ⟨k, fs, e⟩
  · rcases slots_get e with z | ⟨d', z, e'⟩ <;> cases z
  · rcases slots_get e with z | ⟨d', z, e'⟩ <;> cases z
abbrev WZ (Z : XK) : WX := fun cls d _ H => Z cls d H
section
variable {P : Program} {w : World} {K : PySem.W.Frag} {mg : Str → Option Value} {base : Heap} {E : En} {o : O}
theorem fnI {x qual : Str} {st : Stmt} {f : Addr} {fd : FuncData} {N ps : List Str} {k : Nat} {t : Pi.TS} {dvs : List V} {kws : List (Str × V)} (F : FunD K x qual (defArgs st) (defBody st) (defScope st) dvs kws f fd) (Sc : FnScope N ps (defScope st)) (hN : ps.length ≤ N.length)
    (hb : ∀ (cdv : Value) (A : Around) (outer : List Env) (s : Shared) (H : Hp) (Z : XK), A.guards = some [] → Room k (A.deeper (PyProof.Rows.envOfC qual (defScope st) s.heap.objs.size f cdv)) →
      PSsI ⟨E, o, WZ Z⟩ (cxOf (L2.CX P w) P w K mg base N qual (defScope st) f cdv A outer s H Z) (defBody st) t) :
    FnG P w K mg base (k + 1) f fd ps (spI E ps.length (runD o N.length t)) := by
  refine FnG.def F Sc (fun vs H Q Z h => h.1) fun cdv A outer s H vs Q Z hgd hr h => ?_
  obtain ⟨hl, ρ, S, g, ds, gr, r, p⟩ := h
  refine ⟨_, hb cdv A outer s H Z hgd hr, ρ, S, ⟨slots N.length ds, g⟩, ⟨gr, sl_start r (by omega)⟩, ?_⟩
  have p' : PostC E ρ S H (evS o t ⟨slots N.length ds, g⟩).toC Q Z := p
  cases q : evS o t ⟨slots N.length ds, g⟩ with
  | ok fl s' =>
    rw [q] at p'
    intro ρ' S' H' σ' stp wd
    have st0 := stp.toNo fun a => no_Ow_start
    cases fl with
    | nx => exact p' .non ρ' S' H' st0 wd.gr .non
    | rt d => exact fun v rv => p' v ρ' S' H' st0 wd.gr rv
    | bk => exact p'.elim
    | ct => exact p'.elim
  | ex k fs s' =>
    rw [q] at p'
    exact fun ρ' S' H' σ' y fv stp wd hy rf => p' ρ' S' H' y fv (stp.toNo fun a => no_Ow_start) wd.gr hy rf
  | no => rw [q] at p'; exact p'
/-- another function in its place, where it says something -/
theorem fnI_as {f : Addr} {fd : FuncData} {ps : List Str} {k n : Nat} {m m' : List D → List MO → Pi.C} (F : FnG P w K mg base k f fd ps (spI E n m)) (h : ∀ ds g, ds.length = n → m' ds g ≠ .no → m ds g = m' ds g) : FnG P w K mg base k f fd ps (spI E n m') :=
  F.imp fun vs H Q Z q => by
    obtain ⟨hl, ρ, S, g, ds, gr, r, p⟩ := q
    refine ⟨hl, ρ, S, g, ds, gr, r, ?_⟩
    by_cases z : m' ds g = .no
    · rw [z] at p; exact p.elim
    · rw [h ds g (by rw [← r.len]; exact hl) z]; exact p
theorem initI_as {f : Addr} {fd : FuncData} {ps : List Str} {k n c : Nat} {m m' : List D → List MO → CI} (F : FnG P w K mg base k f fd ps (spN E n c m)) (h : ∀ ds g, ds.length = n → m' ds g ≠ .no → m ds g = m' ds g) : FnG P w K mg base k f fd ps (spN E n c m') :=
  F.imp fun vs H Q Z q => by
    obtain ⟨p, ws, dx, ρ, S, g, ds, e, hl, hp, sp, np, gr, r, pp⟩ := q
    refine ⟨p, ws, dx, ρ, S, g, ds, e, hl, hp, sp, np, gr, r, ?_⟩
    by_cases z : m' ds g = .no
    · rw [z] at pp; exact pp.elim
    · rw [h ds g (by rw [← r.len]; exact hl) z]; exact pp
theorem initI {x qual : Str} {st : Stmt} {f : Addr} {fd : FuncData} {N ps : List Str} {k n c : Nat} {t : Pi.TS} {dvs : List V} {kws : List (Str × V)} (F : FunD K x qual (defArgs st) (defBody st) (defScope st) dvs kws f fd) (Sc : FnScope N ps (defScope st)) (hps : ps.length = n + 1) (hN : ps.length ≤ N.length) (hco : E.co c = true)
    (hb : ∀ (cdv : Value) (A : Around) (outer : List Env) (s : Shared) (H : Hp) (Z : XK), A.guards = some [] → Room k (A.deeper (PyProof.Rows.envOfC qual (defScope st) s.heap.objs.size f cdv)) →
      PSsI ⟨E, o, WZ Z⟩ (cxOf (L2.CX P w) P w K mg base N qual (defScope st) f cdv A outer s H Z) (defBody st) t) :
    FnG P w K mg base (k + 1) f fd ps (spN E n c (runN o N.length c t)) := by
  refine FnG.def F Sc (fun vs H Q Z h => ?_) fun cdv A outer s H vs Q Z hgd hr h => ?_
  · obtain ⟨p, ws, dx, ρ, S, g, ds, e, hl, _⟩ := h
    rw [e, List.length_cons, hl, hps]
  obtain ⟨p, ws, dx, ρ, S, g, ds, rfl, hl, hp, sp, np, gr, r, pp⟩ := h
  obtain ⟨M, hM⟩ : ∃ M : List Str, N.length = M.length + 1 := ⟨N.tail, by simp; omega⟩
  have e1 : L2.start N (.ref p :: ws) = some (.ref p) :: L2.start M ws := by
    unfold L2.start
    have : N.length - (V.ref p :: ws).length = M.length - ws.length := by simp; omega
    rw [this]
    rfl
  have e2 : N.length - 1 = M.length := by omega
  have s0 := sl_start (E := E) (S := S) (ρ := ρ) (H := H) (N := M) r (by omega)
  have own1 : ∀ a, Ow (L2.start N (.ref p :: ws)) (.ob c [] :: slots M.length ds) a → a = p := fun a ⟨j, h1, h2⟩ => by
    rw [e1] at h1
    cases j with
    | zero => cases h1; rfl
    | succ j => exact absurd ⟨j, by simpa using h1, by simpa using h2⟩ (no_Ow_start (σ := L2.start M ws) (n := M.length) (ds := ds) (a := a))
  have wd0 : Wd E ρ S ⟨.ob c [] :: slots M.length ds, g⟩ (L2.start N (.ref p :: ws)) H := by
    refine ⟨gr, ?_⟩
    rw [e1]
    refine ⟨by simp [s0.len], fun i d e => ?_, fun i fs e => ?_, fun i k fs e => ?_, fun i j a hij h1 h2 e => ?_⟩
    · cases i with
      | zero => cases e
      | succ i => simpa using s0.v i d (by simpa using e)
    · cases i with
      | zero => cases e
      | succ i => simpa using s0.own i fs (by simpa using e)
    · cases i with
      | zero =>
        simp at e
        obtain ⟨rfl, rfl⟩ := e
        exact ⟨p, dx, [], rfl, hp, ⟨hco, fun _ z => nomatch z⟩, .nil, sp, np⟩
      | succ i => simpa using s0.ob i k fs (by simpa using e)
    · have nope : ∀ (m : Nat), ¬ ((∃ ds', (slots M.length ds)[m]? = some (.own ds')) ∨ ∃ c fs, (slots M.length ds)[m]? = some (.ob c fs)) := fun m h => by
        rcases h with ⟨fs, e⟩ | ⟨k, fs, e⟩
        · rcases slots_get e with z | ⟨d', z, e'⟩ <;> cases z
        · rcases slots_get e with z | ⟨d', z, e'⟩ <;> cases z
      cases i with
      | succ i => exact absurd (by simpa using h1) (nope i)
      | zero =>
        cases j with
        | zero => exact absurd rfl hij
        | succ j => exact absurd (by simpa using h2) (nope j)
  refine ⟨_, hb cdv A outer s H Z hgd hr, ρ, S, _, wd0, ?_⟩
  have pp' : PostN E ρ S H p c ((evS o t ⟨.ob c [] :: slots (N.length - 1) ds, g⟩).toCI c) Q Z := pp
  rw [e2] at pp'
  have toP : ∀ {ρ' : List Addr} {S' H' : Hp} {B' : Bs}, Step ρ S (Ow (L2.start N (.ref p :: ws)) (.ob c [] :: slots M.length ds)) H ρ' S' B' H' → Step ρ S (atB p) H ρ' S' (atB p) H' := fun {ρ' S' H' B'} a =>
    ⟨a.inc, a.nρ, fun x u z => by
      rcases a.nS x u z with z | z | z
      · exact .inl z
      · exact .inr (.inl z)
      · exact .inr (.inr (own1 x z)), fun _ z => .inl z, fun x u e n m => a.fr x u e n fun z => m (own1 x z), a.dom, fun _ z => z⟩
  have ob1 : ∀ a, ObP (L2.start N (.ref p :: ws)) (.ob c [] :: slots M.length ds) a → a = p := fun a ⟨j, h1, k, fs, h2⟩ => own1 a ⟨j, h1, .inr ⟨k, fs, h2⟩⟩
  have fin : ∀ {ρ' : List Addr} {S' H' : Hp} {s' : Pi.S} {σ' : L2.St}, PostN E ρ S H p c (R.fin c s') Q Z → Step ρ S (Ow (L2.start N (.ref p :: ws)) (.ob c [] :: slots M.length ds)) H ρ' S' (Ow σ' s'.l) H' → Wd E ρ' S' s' σ' H' → Q .non H' := fun {ρ' S' H' s' σ'} pn stp wd => by
    unfold R.fin at pn
    split at pn
    · rename_i k' fs e
      cases hk : k' == c with
      | false => rw [hk] at pn; exact pn.elim
      | true =>
        rw [hk] at pn
        obtain rfl := eq_of_beq hk
        obtain ⟨a, dx', fv, z1, z2, z3, z4, z5, z6⟩ := wd.sl.ob 0 k' fs e
        obtain rfl := ob1 a (stp.nO a ⟨0, z1, k', fs, e⟩)
        exact pn ρ' S' H' dx' fv (toP stp) wd.gr z2 z3 z4 z5 z6
    · exact pn.elim
  cases q : evS o t ⟨.ob c [] :: slots M.length ds, g⟩ with
  | ok fl s' =>
    rw [q] at pp'
    intro ρ' S' H' σ' stp wd
    cases fl with
    | nx => exact fin pp' stp wd
    | rt d =>
      cases d <;> first
        | (exact pp'.elim)
        | skip
      intro v rv
      cases rv
      exact fin pp' stp wd
    | bk => exact pp'.elim
    | ct => exact pp'.elim
  | ex k fs s' =>
    rw [q] at pp'
    intro ρ' S' H' σ' y fv stp wd hy rf
    exact pp' ρ' S' H' y fv (toP stp) wd.gr hy rf
  | no => rw [q] at pp'; exact pp'.elim
end
end Pi
namespace Pi
open PySem PySem.W L2
theorem in_own {prog : Program} {w : World} {A : Around} {E : Value → Shared → Prop} {s : Shared} {K : Frag} {C f x : Addr} {ox : Obj} {od : Option Obj} {y : Value} {Q : Value → Shared → Prop} (X : K.In s.heap) (I : InstAt s.heap x ox C od)
    (hs : findIn K (.ref C) "__contains__" = some (some (.ref f))) (hf : typeIn K (.ref f) = some (.type "function"))
    (h : wpAny (model prog w) A (call (.ref f) [.ref x, y]) (fun v s' => wpAny (model prog w) A (truthy v) (fun b s'' => Q (.bool b) s'') E s') E s) : wpAny (model prog w) A (compareOp .In y (.ref x)) Q E s := by
  show wpAny _ A (do return .bool (← contains (.ref x) y)) Q E s
  unfold contains
  refine wpAny_bind (wpAny_holding ?_)
  show wpAny _ A (do
    if (← specialOf (.ref x) "__contains__") == some .none then
      rule "in.none"; raiseError "TypeError" s!"'{← typeNameOf (.ref x)}' object is not a container"
    match ← callSpecialUnlessNone? (.ref x) "__contains__" [y] (do rule "in.none"; raiseError "TypeError" s!"'{← typeNameOf (.ref x)}' object is not a container") with
    | some r => truthy r
    | none => _) _ E s
  refine wpAny_bind (wpAny_bind (I.type.here ((looks_findIn X hs).here ?_)))
  show wpAny _ A (do
    match ← callSpecialUnlessNone? (.ref x) "__contains__" [y] (do rule "in.none"; raiseError "TypeError" s!"'{← typeNameOf (.ref x)}' object is not a container") with
    | some r => truthy r
    | none => _) _ E s
  refine wpAny_bind ?_
  unfold callSpecialUnlessNone?
  refine wpAny_bind (wpAny_bind (I.type.here ((looks_findIn X hs).here ?_)))
  refine wpAny_holding (wpAny_bind ((bind_fn X _ hf).here ?_))
  show wpAny _ A (do return some (← call (.ref f) ([.ref x] ++ [y]))) _ E s
  refine wpAny_bind (wpAny_mono h (fun v s' hv => wpAny_pure (wpAny_mono hv (fun b s2 q => wpAny_pure q) fun _ _ z => z)) fun _ _ z => z)
theorem notIn_own {prog : Program} {w : World} {A : Around} {E : Value → Shared → Prop} {s : Shared} {K : Frag} {C f x : Addr} {ox : Obj} {od : Option Obj} {y : Value} {Q : Value → Shared → Prop} (X : K.In s.heap) (I : InstAt s.heap x ox C od)
    (hs : findIn K (.ref C) "__contains__" = some (some (.ref f))) (hf : typeIn K (.ref f) = some (.type "function"))
    (h : wpAny (model prog w) A (call (.ref f) [.ref x, y]) (fun v s' => wpAny (model prog w) A (truthy v) (fun b s'' => Q (.bool (!b)) s'') E s') E s) : wpAny (model prog w) A (compareOp .NotIn y (.ref x)) Q E s := by
  show wpAny _ A (do return .bool (!(← contains (.ref x) y))) Q E s
  unfold contains
  refine wpAny_bind (wpAny_holding ?_)
  refine wpAny_bind (wpAny_bind (I.type.here ((looks_findIn X hs).here ?_)))
  show wpAny _ A (do
    match ← callSpecialUnlessNone? (.ref x) "__contains__" [y] (do rule "in.none"; raiseError "TypeError" s!"'{← typeNameOf (.ref x)}' object is not a container") with
    | some r => truthy r
    | none => _) _ E s
  refine wpAny_bind ?_
  unfold callSpecialUnlessNone?
  refine wpAny_bind (wpAny_bind (I.type.here ((looks_findIn X hs).here ?_)))
  refine wpAny_holding (wpAny_bind ((bind_fn X _ hf).here ?_))
  show wpAny _ A (do return some (← call (.ref f) ([.ref x] ++ [y]))) _ E s
  refine wpAny_bind (wpAny_mono h (fun v s' hv => wpAny_pure (wpAny_mono hv (fun b s2 q => wpAny_pure q) fun _ _ z => z)) fun _ _ z => z)

section
variable {c : Cn} {X : Cx} {a b : Expr} {ta tb : T} {pos : Pos}
/-- an own method that x in o calls, and the like -/
structure Slotted (c : Cn) (X : Cx) (m : Str) (n : Nat) (g : Nat → Option Nat) : Prop where
  ex : ∀ k f, c.E.co k = true → g k = some f → ∃ (j : Nat) (a : Addr) (fd : FuncData) (ps : List Str), FnG X.prog X.w X.K X.mg X.base j a fd ps (spI c.E n (c.o.call f)) ∧ X.A.guards = some [] ∧ Room j X.A ∧
    PySem.W.findIn X.K (.ref (c.E.cl k)) m = some (some (.ref a)) ∧ PySem.W.typeIn X.K (.ref a) = some (.type "function") ∧ Binds X.K fd ps []
def rIno (c : Cn) (neg : Bool) : R2 := fun x y H Q => ∃ ρ S g d1 d2 k f, Gr c.E ρ S g H ∧ Rep c.E S ρ x d1 ∧ Rep c.E S ρ y d2 ∧ clsS g d2 = some k ∧ c.o.cont k = some f ∧
  PostC c.E ρ S H (c.o.call f [d2, d1] g) (fun v H' => ∃ q, v = .bl q ∧ Q (.bl (bif neg then !q else q)) H') (fun _ _ _ => False)
theorem ino_run (T : Slotted c X "__contains__" 2 c.o.cont) {tk : Takes X c.W} {neg : Bool} {pins : List (Addr × Obj)} {s : Shared} {σ : L2.St} {H : Hp} {x y : V} {v u : Value} {Q : VK} (I : L2.Inv X pins σ H s) (rx : RelV x v) (ry : RelV y u) (h : rIno c neg x y H Q) :
    ∃ p C od C' f, u = .ref p ∧ PySem.W.InstAt s.heap p od C (some C') ∧ PySem.W.findIn X.K (.ref C) "__contains__" = some (some (.ref f)) ∧ PySem.W.typeIn X.K (.ref f) = some (.type "function") ∧
      wpAny (model X.prog X.w) X.A (call (.ref f) [.ref p, v]) (fun z s' => wpAny (model X.prog X.w) X.A (truthy z) (fun b s'' => EP X pins σ Q (.bool (bif neg then !b else b)) s'') X.xe s') X.xe s := by
  obtain ⟨ρ, S, g, d1, d2, k, f, gr, r1, r2, hk, hf, p⟩ := h
  obtain ⟨q, dx, fv, fs, rfl, h1, h2, h3⟩ := clsS_inv gr r2 hk
  cases ry
  obtain ⟨j, fa, fd, ps, G, hgd, hr, hm, ht, hb⟩ := T.ex k f h2.1 hf
  obtain ⟨mA, O, _⟩ := ins_get I.hok h1
  obtain ⟨od, J, _⟩ := O.look
  refine ⟨q, _, _, od, fa, rfl, J, hm, ht, ?_⟩
  have hsp : spI c.E 2 (c.o.call f) [.ref q, x] H (fun v H' => ∃ q, v = .bl q ∧ Q (.bl (bif neg then !q else q)) H') (fun _ _ _ => False) := ⟨rfl, ρ, S, g, [d2, d1], gr, .cons r2 (.cons r1 .nil), p⟩
  refine thn (run_g (us := [.ref q, v]) (vs := [.ref q, x]) (dvs := []) (Z := fun _ _ _ => False) G hgd hr hb .nil (passes_call tk fun _ _ _ _ z => z.elim) I (.cons rfl (.cons rx .nil)) hsp) ?_
  rintro z s1 ⟨w, H1, I1, rw', b, rfl, qq⟩
  cases rw'
  exact wpAny_truthy_bool ⟨.bl _, H1, I1, rfl, qq⟩
theorem opi_in (tk : Takes X c.W) (T : Slotted c X "__contains__" 2 c.o.cont) : OpR X (compareOp .In) (rIno c false) := by
  intro pins s σ H x y v u Q I rx ry h
  obtain ⟨p, C, od, C', f, rfl, J, h1, h2, h3⟩ := ino_run T (tk := tk) I rx ry h
  exact in_own I.kIn J h1 h2 h3
theorem opi_nin (tk : Takes X c.W) (T : Slotted c X "__contains__" 2 c.o.cont) : OpR X (compareOp .NotIn) (rIno c true) := by
  intro pins s σ H x y v u Q I rx ry h
  obtain ⟨p, C, od, C', f, rfl, J, h1, h2, h3⟩ := ino_run T (tk := tk) I rx ry h
  exact notIn_own I.kIn J h1 h2 h3
theorem ino_le {neg : Bool} {σ : St} {H : Hp} {Q : VK} (h : tI c.E c.W (ev c.o (.ino neg ta tb)) σ H Q) : tOp (rIno c neg) (tI c.E c.W (ev c.o ta)) (tI c.E c.W (ev c.o tb)) σ H Q := by
  obtain ⟨ρ, S, s, w, p⟩ := h
  refine ⟨ρ, S, s, w, (Post.bind p).imp ?_⟩
  rintro x H1 ⟨ρ1, S1, s1, d1, a1, r1, p1⟩
  refine ⟨ρ1, S1, s1, a1.wd, (Post.bind p1).imp ?_⟩
  rintro y H2 ⟨ρ2, S2, s2, d2, a2, r2, p2⟩
  split at p2
  · rename_i k hk
    split at p2
    · rename_i f hf
      refine ⟨ρ2, S2, s2.g, d1, d2, k, f, a2.wd.gr, r1.mono a2.inc, r2, hk, hf, ?_⟩
      cases hc : c.o.call f [d2, d1] s2.g with
      | ok z g =>
        rw [hc] at p2
        cases z <;> first
          | (exact (show False from p2).elim)
          | skip
        intro v ρ' S' H' st gr rp
        obtain ⟨w3, st3⟩ := lift st a2.wd gr
        exact ⟨_, bl_of rp, p2 _ ρ' S' H' st3 w3 (.bl _)⟩
      | ex _ _ _ => rw [hc] at p2; exact (show False from p2).elim
      | no => rw [hc] at p2; exact (show False from p2).elim
    · exact p2.elim
  · exact p2.elim
theorem pi_ino {neg : Bool} {op : CmpOp} (ho : OpR X (compareOp op) (rIno c neg)) (ha : PEI c X a ta) (hb : PEI c X b tb) (hm : behindInMarks op b = false) : PEI c X (.Compare a [op] [b] pos) (.ino neg ta tb) :=
  pe_le (pe_cmpR ho ha hb hm) fun _ _ _ => ino_le
theorem pit_ino {neg : Bool} {op : CmpOp} (ho : OpR X (compareOp op) (rIno c neg)) (ha : PEI c X a ta) (hb : PEI c X b tb) (hm : behindInMarks op b = false) : PTI c X (.Compare a [op] [b] pos) (.ino neg ta tb) :=
  pt_le (pt_cmpR ho ha hb hm) fun _ _ _ => ino_le
end
end Pi
namespace Pi
open PySem L2

/-! ### raise -/
/-- an error's own __init__ keeps its one argument -/
def spX (C : Addr) (f : Str) : Sp := fun vs H Q _ => ∃ a v, vs = [.ref a, v] ∧ H a = some (exo a C none) ∧ ∀ dx, H dx = none → dx ≠ a → Q .non (upd (upd H dx (exd dx [(f, v)])) a (exo a C (some dx)))
structure ExcF (c : Cn) (X : Cx) (x : Str) (k n : Nat) : Prop where
  hn : n < c.E.nat
  oex : OexC X.K (c.E.cl k)
  hm : X.mg x = some (.ref (c.E.cl k))
  ex : ∃ (j : Nat) (fI : Addr) (fd : FuncData) (ps : List Str), PySem.W.findIn X.K (.ref (c.E.cl k)) "__init__" = some (some (.ref fI)) ∧ PySem.W.typeIn X.K (.ref fI) = some (.type "function") ∧
    FnOk X.prog X.w X.K X.mg X.base (L2.CX X.prog X.w) j fI fd ps (spX (c.E.cl k) (c.E.at_ n)) ∧ Room (j + 1) X.A ∧ Binds X.K fd ps []
section
variable {c : Cn} {X : Cx} {e : Expr} {te : T} {pos p pos2 : Pos}
theorem psi_raise {x : Str} {k n : Nat} (hc : X.calm = true) (tk : Takes X c.W) (F : ExcF c X x k n) (hg : Gl X x) (ha : PAI c X [e] te) (hdb : (x == ("__debug__" : Str)) = false := by decide)
    (he : starEach (e :: []) X.env = (false, eval e X.env) :: starEach [] X.env := by rfl) (hpl : (backTo pos (starEach [] X.env)).any (·.1) = false := by rfl) :
    PSI c X (.Raise (some (.Call (.Name x p) [e] [] pos)) none pos2) (.raise k n te) := by
  obtain ⟨j, fI, fd, ps, iC, tI', G, hr, hb⟩ := F.ex
  refine ps_le (ps_raise hc tk (pmk_oex (dvs := []) F.oex iC tI' G hr hb .nil (passes_call tk fun _ _ _ _ z => z.elim) hg F.hm ha hdb he hpl)) fun D σ H h => ?_
  obtain ⟨ρ, S, s, w, q⟩ := h
  refine ⟨ρ, S, s, w, (PostS.bindA q).imp ?_⟩
  rintro vs H1 ⟨ρ1, S1, s1, ds, e1, a1, st1, r1, p1⟩
  match ds, r1, p1 with
  | [d], .cons (v := v) r .nil, p1 =>
    refine ⟨(by show 1 ≤ 1000; decide), fun a ha => ⟨a, v, rfl, upd_same, fun dx hdx hne => ⟨rfl, dx, [(c.E.at_ n, v)], upd_same, ?_, ?_, ?_⟩⟩⟩
    · rw [upd_ne hne, upd_same]
    · rw [upd_ne hne] at hdx; exact hdx
    · have hd1 : H1 dx = none := by rw [upd_ne hne] at hdx; exact hdx
      have eH : upd (del (upd (upd (upd H1 a (exo a (c.E.cl k) none)) dx (exd dx [(c.E.at_ n, v)])) a (exo a (c.E.cl k) (some dx))) a) dx (.xd [(c.E.at_ n, v)]) = upd H1 dx (.xd [(c.E.at_ n, v)]) := by
        funext b
        by_cases q1 : b = dx
        · subst q1; rw [upd_same, upd_same]
        · rw [upd_ne q1, upd_ne q1]
          by_cases q2 : b = a
          · subst q2; rw [del_same, ha]
          · rw [del_ne q2, upd_ne q2, upd_ne q1, upd_ne q2]
      rw [eH]
      obtain ⟨f1, f2⟩ := a1.wd.gr.fresh hd1
      exact p1 ρ1 _ _ σ dx _ (Step.new a1.wd.gr hd1) (a1.wd.new hd1) upd_same (.cons F.hn (r.mono (Inc.new f1)) .nil)
/-- self.f = e in an __init__ -/
theorem psi_setF {x f : Str} {k n : Nat} {px pa : Pos} (hK : X.K = c.E.K) (hf : c.E.at_ n = f) (hfo : c.E.fo k n = true) (he : PEI c X e te) (hN : X.N[(0 : Nat)]? = some x := by rfl) (hv : Vis X.env.scope x := by first | exact Or.inl rfl | exact Or.inr (Or.inl rfl) | exact Or.inr (Or.inr rfl))
    (hs : swapsWith e (some (.Attribute (.Name x px) f pa)) pos.line X.env = pure false := by rfl) (hd : (x == ("__debug__" : Str)) = false := by decide) (hcd : (x == ("__classdict__" : Str)) = false := by decide) :
    PSI c X (.Assign [.Attribute (.Name x px) f pa] e pos) (.setF k n te) := by
  refine ps_le (ps_fld (pe_var hN hv hd hcd) he hs) fun D σ H h => ?_
  subst hf
  obtain ⟨ρ, S, s, w, post0⟩ := h
  refine ⟨ρ, S, s, w, (PostS.bind post0).imp ?_⟩
  rintro y H1 ⟨ρ1, S1, s1, d1, a1, st1, r1, p1⟩
  split at p1
  · rename_i k' fs e0
    obtain ⟨hb, p2⟩ := PostS.bif p1
    rw [Bool.and_eq_true] at hb
    obtain rfl := eq_of_beq hb.1
    have hl := of_decide_eq_true hb.2
    obtain ⟨a, dx, fv, z1, z2, z3, z4, z5, z6⟩ := a1.wd.sl.ob 0 k' fs e0
    obtain ⟨hn, hna⟩ := c.E.fok k' n hfo
    refine ⟨.ref a, z1, a, _, dx, fv, rfl, z2, hK ▸ (c.E.cok k' z3.1).1, hK ▸ hna, ?_, ?_⟩
    · rw [z4.len]; omega
    · have hi : 0 < s1.l.length := (List.getElem?_eq_some_iff.mp e0).1
      have hfit : c.E.fits k' (putN n d1 fs) := ⟨z3.1, fun q hq => by
        have aux : ∀ {fs : List (Nat × Pi.D)}, q ∈ putN n d1 fs → q.1 = n ∨ q ∈ fs := by
          intro fs
          induction fs with
          | nil => intro h; cases List.mem_singleton.mp h; exact .inl rfl
          | cons t r ih =>
            obtain ⟨m, x⟩ := t
            intro h
            by_cases hm : m = n
            · subst hm
              have h' : q ∈ (m, d1) :: r := by
                have : putN m d1 ((m, x) :: r) = (m, d1) :: r := by show (bif m == m then _ else _) = _; rw [beq_self_eq_true]; rfl
                rw [this] at h; exact h
              rcases List.mem_cons.mp h' with rfl | h'
              · exact .inl rfl
              · exact .inr (List.mem_cons_of_mem _ h')
            · have h' : q ∈ (m, x) :: putN n d1 r := by
                have : putN n d1 ((m, x) :: r) = (m, x) :: putN n d1 r := by show (bif m == n then _ else _) = _; rw [show (m == n) = false by simpa using hm]; rfl
                rw [this] at h; exact h
              rcases List.mem_cons.mp h' with rfl | h'
              · exact .inr List.mem_cons_self
              · rcases ih h' with z | z
                · exact .inl z
                · exact .inr (List.mem_cons_of_mem _ z)
        rcases aux hq with z | z
        · rw [z]; exact hfo
        · exact z3.2 _ z⟩
      have rf := z4.put hn r1
      have ne : ∀ {j : Nat} {b : Addr}, 0 ≠ j → ((∃ ds, s1.l[j]? = some (.own ds)) ∨ ∃ c fs, s1.l[j]? = some (.ob c fs)) → σ[j]? = some (some (.ref b)) → b ≠ a := fun {j b} hj h2 h1 z => by
        subst z
        exact a1.wd.sl.dist 0 j b hj (.inr ⟨k', fs, e0⟩) h2 z1 h1
      have old : ∀ {m : Nat}, ((∃ ds', (s1.l.set 0 (.ob k' (putN n d1 fs)))[m]? = some (.own ds')) ∨ ∃ c fs', (s1.l.set 0 (.ob k' (putN n d1 fs)))[m]? = some (.ob c fs')) → ((∃ ds', s1.l[m]? = some (.own ds')) ∨ ∃ c fs, s1.l[m]? = some (.ob c fs)) := fun {m} h => by
        by_cases q : 0 = m
        · subst q; exact .inr ⟨k', fs, e0⟩
        · rw [List.getElem?_set_ne q] at h; exact h
      refine p2 ρ1 S1 _ σ ⟨Inc.refl _ _, fun _ z => .inl z, fun _ _ z => .inl z, fun b z => ?_, fun b u z _ no => ?_, fun b z => ?_, fun b z => ?_⟩ ⟨a1.wd.gr.at z5 z6, by simp [a1.wd.sl.len], fun j d e => ?_, fun j es e => ?_, fun j c' fs' e => ?_, fun i j b hij h1 h2 e => ?_⟩
      · obtain ⟨j, h1, h2⟩ := z
        exact .inl ⟨j, h1, old h2⟩
      · have nb : b ≠ a := fun z => no (z ▸ ⟨0, z1, .inr ⟨k', fs, e0⟩⟩)
        rw [upd_ne nb]
        exact z
      · by_cases y : b = a
        · subst y; rw [upd_same] at z; cases z
        · rw [upd_ne y] at z; exact z
      · obtain ⟨j, h1, c', fs', h2⟩ := z
        rcases own_get h2 with ⟨q, _, _⟩ | ⟨q, h2'⟩
        · subst q; exact ⟨0, h1, k', fs, e0⟩
        · exact ⟨j, h1, c', fs', h2'⟩
      · rcases own_get e with ⟨_, z, _⟩ | ⟨q, e'⟩
        · cases z
        · exact a1.wd.sl.v j d e'
      · rcases own_get e with ⟨_, z, _⟩ | ⟨q, e'⟩
        · cases z
        · obtain ⟨b, vs1, y1, y2, y3, y4, y5⟩ := a1.wd.sl.own j es e'
          exact ⟨b, vs1, y1, by rw [upd_ne (ne q (.inl ⟨_, e'⟩) y1)]; exact y2, y3, y4, y5⟩
      · rcases own_get e with ⟨q, z, _⟩ | ⟨q, e'⟩
        · cases z
          subst q
          exact ⟨a, dx, _, z1, upd_same, hfit, rf, z5, z6⟩
        · obtain ⟨b, dx', fv', y1, y2, yf, y3, y4, y5⟩ := a1.wd.sl.ob j c' fs' e'
          exact ⟨b, dx', fv', y1, by rw [upd_ne (ne q (.inr ⟨_, _, e'⟩) y1)]; exact y2, yf, y3, y4, y5⟩
      · exact a1.wd.sl.dist i j b hij (old h1) (old h2) e
  · exact p1.elim
end
section
variable {X : Cx} {E : En}
theorem bii_repr (hK : X.K = E.K) (hgd : X.A.guards = some []) (hu : X.A.units + 66 < cLine) : CallR X (.builtin "repr") (rBi E .repr) := by
  intro pins s σ H xs us Q I r h
  obtain ⟨ρ, S, g, ds, z, w, ho, e, gv⟩ := h
  obtain ⟨v, d, rfl, ho, e⟩ := arg1_inv ho e
  obtain ⟨u, rfl, ru⟩ := vals1 r
  have rows : reprP d = some z → (∃ a, v = .ref a) → wpAny (model X.prog X.w) X.A (call (.builtin "repr") [u]) (EP X pins σ Q) X.xe s := fun e ⟨a, ev⟩ => by
    subst ev
    obtain rfl : u = Value.ref a := ru
    unfold reprP at e
    cases hp : toPy d with
    | none => rw [hp] at e; cases e
    | some p =>
      rw [hp] at e
      obtain ⟨hb, rfl⟩ := bif_inv (show (bif PyData.showable p && SeqAt.shaped p && decide ((PyData.shown p).length ≤ big) then some (D.str (PyData.shown p)) else none) = some z from e)
      simp only [Bool.and_eq_true] at hb
      obtain ⟨⟨h1, h2⟩, h3⟩ := hb
      unfold SeqAt.shaped at h2
      rw [Bool.and_eq_true] at h2
      obtain ⟨as, rd⟩ := Dp.reads I p (.ref a) (.ref a) (hK ▸ ho.dp w hp) rfl
      have hd : p.depth ≤ 64 := of_decide_eq_true h2.2
      refine repr_of_reads' rd h1 (PyData.noDict_hsm (PyData.hasDict_of_canLay p h2.1)) hgd (by omega) (fun _ _ z => z) (fun h' t tk hk => ⟨.str _, H, I.kept (t' := tk) hk, ⟨_, rfl⟩, gv.old _ (.str _)⟩) (le_line (of_decide_eq_true h3))
  cases d with
  | int i =>
    obtain ⟨hb, rfl⟩ := bif_inv (show (bif decide (i.natAbs.log2 < 1920) then some (D.str (toString i)) else none) = some z from e)
    cases ho.int
    obtain ⟨t, rfl⟩ := ru
    exact P.repr_of_int (of_decide_eq_true hb) ⟨.str _, H, I.tok _, ⟨_, rfl⟩, gv.old _ (.str _)⟩
  | bl b =>
    cases e
    cases ho.bl
    cases ru
    exact P.repr_of_bool ⟨.str _, H, I.tok _, ⟨_, rfl⟩, gv.old _ (.str _)⟩
  | str x =>
    obtain ⟨hb, rfl⟩ := bif_inv (show (bif decide ((reprText x).length ≤ big) then some (D.str (reprText x)) else none) = some z from e)
    cases ho.str
    obtain ⟨t, rfl⟩ := ru
    exact P.repr_of_str ⟨.str _, H, I.tok _, ⟨_, rfl⟩, gv.old _ (.str _)⟩ (le_line (of_decide_eq_true hb))
  | non =>
    cases e
    cases ho.non
    cases ru
    exact P.repr_of_none ⟨.str _, H, I.tok _, ⟨_, rfl⟩, gv.old _ (.str _)⟩
  | tup ds => exact rows e (by cases ho with | rep r => cases r; exact ⟨_, rfl⟩)
  | lst ds => exact rows e (by cases ho with | rep r => cases r; exact ⟨_, rfl⟩ | cell _ _ => exact ⟨_, rfl⟩)
  | _ => cases (show (none : Option D) = some z from e)
end
end Pi
namespace Pi
open PySem L2

section
variable {E : En} {ρ : List Addr} {S H : Hp} {s : Pi.S} {σ : St}
theorem nodup_get {l : List Addr} (h : l.Nodup) {i j : Nat} {a : Addr} (h1 : l[i]? = some a) (h2 : l[j]? = some a) : i = j := by
  obtain ⟨q1, e1⟩ := List.getElem?_eq_some_iff.mp h1
  obtain ⟨q2, e2⟩ := List.getElem?_eq_some_iff.mp h2
  exact (List.getElem_inj h).mp (e1.trans e2.symm)
theorem Sl.noρ (w : Sl E ρ S H σ s.l) {a : Addr} (h : OwP σ s.l a) : a ∉ ρ ∧ S a = none := by
  obtain ⟨i, q1, q2⟩ := h
  rcases q2 with ⟨ds, q2⟩ | ⟨k, fs, q2⟩
  · obtain ⟨a', vs, z1, z2, z3, z4, z5⟩ := w.own i ds q2
    rw [q1] at z1; cases z1; exact ⟨z5, z4⟩
  · obtain ⟨a', dx, fv, z1, z2, zf, z3, z4, z5⟩ := w.ob i k fs q2
    rw [q1] at z1; cases z1; exact ⟨z5, z4⟩
/-- a list of the store has another content -/
theorem Wd.reset {n : Nat} {a : Addr} {vs : List V} {ds0 ds : List D} (w : Wd E ρ S s σ H) (hn : ρ[n]? = some a) (h0 : s.g[n]? = some (.lst ds0)) (r : Reps E S ρ vs ds) :
    Wd E ρ S ⟨s.l, s.g.set n (.lst ds)⟩ σ (upd H a (.lst vs)) ∧ Step ρ S (Ow σ s.l) H ρ S (Ow σ s.l) (upd H a (.lst vs)) := by
  have hm : a ∈ ρ := List.mem_iff_getElem?.mpr ⟨n, hn⟩
  have hS := w.gr.off a hm
  have hl : n < s.g.length := (List.getElem?_eq_some_iff.mp h0).1
  refine ⟨⟨⟨fun b o e => ?_, by simp [w.gr.len], w.gr.nd, w.gr.off, fun m b mo e1 e2 => ?_⟩, w.sl.keep (Inc.refl _ _) (fun b ow o e => ?_) (fun _ _ _ z => z) fun _ _ _ z => z⟩, Inc.refl _ _, fun _ z => .inl z, fun _ _ z => .inl z, fun _ z => .inl z, fun b o e nb _ => ?_, fun b z => ?_, fun _ z => z⟩
  · rw [upd_ne (show b ≠ a from fun z => by rw [z, hS] at e; cases e)]; exact w.gr.sub b o e
  · by_cases q : m = n
    · subst q
      rw [hn] at e1
      cases e1
      have e2' : (s.g.set m (.lst ds))[m]? = some mo := e2
      rw [List.getElem?_set_self hl] at e2'
      cases e2'
      exact ⟨vs, upd_same, r⟩
    · have e2' : (s.g.set n (.lst ds))[m]? = some mo := e2
      rw [List.getElem?_set_ne (Ne.symm q)] at e2'
      refine (w.gr.ob m b mo e1 e2').mono (Inc.refl _ _) fun o z => ?_
      rw [upd_ne (show b ≠ a from fun y => q (nodup_get w.gr.nd e1 (y ▸ hn)))]
      exact z
  · rw [upd_ne (show b ≠ a from fun z => (w.sl.noρ ow).1 (z ▸ hm))]; exact e
  · rw [upd_ne (show b ≠ a from fun z => nb (z ▸ hm))]; exact e
  · by_cases y : b = a
    · subst y; rw [upd_same] at z; cases z
    · rw [upd_ne y] at z; exact z
/-- a new list of the store -/
theorem Wd.grow {p : Addr} {vs : List V} {ds : List D} (w : Wd E ρ S s σ H) (hp : H p = none) (r : Reps E S ρ vs ds) :
    Wd E (ρ ++ [p]) S ⟨s.l, s.g ++ [.lst ds]⟩ σ (upd H p (.lst vs)) ∧ Step ρ S (Ow σ s.l) H (ρ ++ [p]) S (Ow σ s.l) (upd H p (.lst vs)) ∧ (ρ ++ [p])[s.g.length]? = some p := by
  obtain ⟨f1, f2⟩ := w.gr.fresh hp
  have inc : Inc S ρ S (ρ ++ [p]) := ⟨fun _ _ h => h, fun n a h => by
    rw [List.getElem?_append_left (List.getElem?_eq_some_iff.mp h).1]; exact h⟩
  have at_end : (ρ ++ [p])[s.g.length]? = some p := by rw [← w.gr.len]; simp
  refine ⟨⟨⟨fun b o e => ?_, by simp [w.gr.len], ?_, fun b hb => ?_, fun m b mo e1 e2 => ?_⟩, w.sl.keep inc (fun b _ o e => ?_) (fun _ _ _ z => z) fun b _ ne n z => ?_⟩, ⟨inc, fun b hb => ?_, fun _ _ z => .inl z, fun _ z => .inl z, fun b o e _ _ => ?_, fun b z => ?_, fun _ z => z⟩, at_end⟩
  · rw [upd_ne (show b ≠ p from fun z => by rw [z, f1] at e; cases e)]; exact w.gr.sub b o e
  · rw [List.nodup_append]
    refine ⟨w.gr.nd, by simp, fun b hb c hc => ?_⟩
    cases List.mem_singleton.mp hc
    exact fun z => f2 (z ▸ hb)
  · rcases List.mem_append.mp hb with z | z
    · exact w.gr.off b z
    · cases List.mem_singleton.mp z; exact f1
  · have e2' : (s.g ++ [MO.lst ds])[m]? = some mo := e2
    by_cases q : m < s.g.length
    · rw [List.getElem?_append_left q] at e2'
      rw [List.getElem?_append_left (by rw [w.gr.len]; exact q)] at e1
      refine (w.gr.ob m b mo e1 e2').mono inc fun o z => ?_
      rw [upd_ne (ne_of_none z hp)]
      exact z
    · have hm : m = s.g.length := by
        have := (List.getElem?_eq_some_iff.mp e2').1
        simp at this
        omega
      subst hm
      rw [at_end] at e1
      cases e1
      simp at e2'
      subst e2'
      exact ⟨vs, upd_same, r.mono inc⟩
  · rw [upd_ne (ne_of_none e hp)]; exact e
  · rcases List.mem_append.mp z with z | z
    · exact n z
    · cases List.mem_singleton.mp z; exact ne hp
  · rcases List.mem_append.mp hb with z | z
    · exact .inl z
    · cases List.mem_singleton.mp z; exact .inr hp
  · rw [upd_ne (ne_of_none e hp)]; exact e
  · by_cases y : b = p
    · subst y; exact hp
    · rw [upd_ne y] at z; exact z
end
section
variable {c : Cn} {X : Cx} {e a b i : Expr} {te ta ti : T} {es : List Expr} {pos : Pos}
theorem pi_mkr (h : PAI c X es ta) : PEI c X (.List es pos) (.mkr ta) :=
  pe_le (pe_lst h) fun σ H Q h => by
    obtain ⟨ρ, S, s, w, p⟩ := h
    refine ⟨ρ, S, s, w, (Post.bindA p).imp ?_⟩
    rintro x H1 ⟨ρ1, S1, s1, d1, a1, r1, p1⟩
    obtain ⟨hb, p2⟩ := Post.bif p1
    refine ⟨by rw [r1.len]; exact le_line (of_decide_eq_true hb), fun q hq => ?_⟩
    obtain ⟨w2, st2, e2⟩ := a1.wd.grow hq r1
    exact p2 _ _ S1 _ st2 w2 (.ref e2)
theorem pi_revr {k : Nat} {p1 p2 p3 : Pos} (hK : X.K = c.E.K) (he : PEI c X e ta) : PEI c X (.Subscript e (.Slice none none (some (.UnaryOp .USub (.Constant (.int 1) k p1) p2)) p3) pos) (.revr ta) :=
  pe_le (pe_revL he) fun σ H Q h => by
    obtain ⟨ρ, S, s, w, p⟩ := h
    refine ⟨ρ, S, s, w, (Post.bind p).imp ?_⟩
    rintro x H1 ⟨ρ1, S1, s1, d1, a1, r1, p1⟩
    have ov := Opd.view (s := s1) a1.wd.gr r1
    split at p1
    · rename_i ds hv
      rw [hv] at ov
      obtain ⟨q, vs, rfl, sq, rr⟩ := ov.lst (s := s1) a1.wd.gr
      refine ⟨q, vs, rfl, hK ▸ sq, fun l hl => ?_⟩
      obtain ⟨w2, st2, e2⟩ := a1.wd.grow hl rr.reverse
      exact p1 _ _ S1 _ st2 w2 (.ref e2)
    · exact p1.elim
theorem pi_rev {k : Nat} {p1 p2 p3 : Pos} (hK : X.K = c.E.K) (he : PEI c X e ta) : PEI c X (.Subscript e (.Slice none none (some (.UnaryOp .USub (.Constant (.int 1) k p1) p2)) p3) pos) (.rev ta) :=
  pe_le (pe_revL he) fun σ H Q h => by
    obtain ⟨ρ, S, s, w, p⟩ := h
    refine ⟨ρ, S, s, w, (Post.bind p).imp ?_⟩
    rintro x H1 ⟨ρ1, S1, s1, d1, a1, r1, p1⟩
    have ov := Opd.view (s := s1) a1.wd.gr r1
    obtain ⟨z, e, p2⟩ := Post.of p1
    cases hv : view s1.g d1 with
    | lst ds =>
      rw [hv] at ov e
      cases e
      obtain ⟨q, vs, rfl, sq, rr⟩ := ov.lst (s := s1) a1.wd.gr
      exact ⟨q, vs, rfl, hK ▸ sq, fun l hl => (Post.give a1.wd p2).lst l _ _ rfl rr.reverse hl⟩
    | _ => rw [hv] at e; cases (show (none : Option D) = some z from e)
end
end Pi
namespace Pi
open PySem L2

section
variable {c : Cn} {X : Cx} {e a b i : Expr} {te ta ti tc : T} {t : Pi.TS} {es : List Expr} {body : List Stmt} {pos ap cp : Pos}
/-- a list of the store, held -/
theorem ref_of {E : En} {S H : Hp} {ρ : List Addr} {g : List MO} {x : V} {n : Nat} {ds : List D} (w : Gr E ρ S g H) (r : Rep E S ρ x (.ref n)) (h : g[n]? = some (.lst ds)) : ∃ q vs, x = .ref q ∧ ρ[n]? = some q ∧ H q = some (.lst vs) ∧ Reps E S ρ vs ds := by
  cases r with
  | ref hn =>
    obtain ⟨vs, h1, h2⟩ := w.ob n _ _ hn h
    exact ⟨_, vs, rfl, hn, h1, h2⟩
/-- x.pop() -/
theorem pi_popr (he : PEI c X e ta) (hbase : attributeBase e "pop" X.env (eval e X.env) = eval e X.env := by rfl) (hline : (ap.endLine == cp.line) = true := by rfl) : PEI c X (.Call (.Attribute e "pop" ap) [] [] cp) (.popr ta) :=
  pe_le (pe_bm0 PySem.F.plainAttrs_list PySem.F.slot_list_pop PySem.F.type_list_pop mt_pop he hbase hline) fun σ H Q h => by
    obtain ⟨ρ, S, s, w, p⟩ := h
    refine ⟨ρ, S, s, w, (Post.bind p).imp ?_⟩
    rintro x H1 ⟨ρ1, S1, s1, d1, a1, r1, p1⟩
    split at p1
    · rename_i n
      split at p1
      · rename_i ds hg
        split at p1
        · rename_i d hd
          obtain ⟨q, vs, rfl, hn, h1, h2⟩ := ref_of a1.wd.gr r1 hg
          have hl := h2.len
          have hd' : ds[ds.length - 1]? = some d := by rw [← List.getLast?_eq_getElem?]; exact hd
          obtain ⟨y, hy, ry⟩ := h2.get hd'
          obtain ⟨w2, st2⟩ := a1.wd.reset (vs := vs.dropLast) (ds := ds.dropLast) hn hg (by
            rw [List.dropLast_eq_take, List.dropLast_eq_take, hl]
            exact h2.take _)
          exact ⟨.inl ⟨rfl, vs, SqL.of h1⟩, q, vs, y, rfl, rfl, h1, by rw [hl]; exact hy, p1 y ρ1 S1 _ st2 w2 ry⟩
        · exact p1.elim
      · exact p1.elim
    · exact p1.elim
/-- o.append(e) -/
theorem psi_appr (ha : PEI c X a ta) (he : PEI c X e te) (hbase : attributeBase a "append" X.env (eval a X.env) = eval a X.env := by rfl)
    (hfew : ((backTo cp (starEach [e] X.env)).all (fun x => !x.1) && (backToKw cp (keywordEach [] X.env)).all (fun x => x.1.isSome) && decide ([e].length + ([] : List Keyword).length + (if ([] : List Keyword).isEmpty then 0 else 1) < 30)) = true := by rfl)
    (hline : (ap.endLine == cp.line) = true := by rfl) (hs : starEach [e] X.env = (false, eval e X.env) :: starEach [] X.env := by rfl) (hplain : (backTo cp (starEach [] X.env)).any (·.1) = false := by rfl)
    (hsw : swapsWith (.Call (.Attribute a "append" ap) [e] [] cp) none pos.line X.env = pure false := by rfl) : PSI c X (.Expr (.Call (.Attribute a "append" ap) [e] [] cp) pos) (.appr ta te) :=
  ps_le (ps_expr (pe_bm PySem.F.plainAttrs_list PySem.F.slot_list_append PySem.F.type_list_append mt_append ha (pa_cons he pa_nil hs) hbase hfew hline hs hplain) hsw) fun D σ H h => by
    obtain ⟨ρ, S, s, w, p⟩ := h
    refine ⟨ρ, S, s, w, (PostS.bind p).imp ?_⟩
    rintro x H1 ⟨ρ1, S1, s1, d1, a1, _, r1, p1⟩
    split at p1
    · rename_i n
      split at p1
      · rename_i ds0 hg
        obtain ⟨q, vs, rfl, hn, h1, h2⟩ := ref_of a1.wd.gr r1 hg
        refine ⟨.inl ⟨rfl, vs, SqL.of h1⟩, ρ1, S1, s1, a1.wd, (PostS.bind p1).imp ?_⟩
        rintro y H2 ⟨ρ2, S2, s2, d2, a2, _, r2, p2⟩
        split at p2
        · rename_i ds hg2
          obtain ⟨hb, p3⟩ := PostS.bif p2
          obtain ⟨q', vs', e1, hn', h1', h2'⟩ := ref_of a2.wd.gr (r1.mono a2.inc) hg2
          cases e1
          obtain ⟨w2, st2⟩ := a2.wd.reset hn' hg2 (h2'.append (.cons r2 .nil))
          exact ⟨q, vs', y, rfl, rfl, h1', by rw [h2'.len]; exact lt_line (of_decide_eq_true hb), p3 ρ2 S2 _ σ st2 w2⟩
        · exact p2.elim
      · exact p1.elim
    · exact p1.elim
theorem Reps.set {E : En} {S : Hp} {ρ : List Addr} {y : V} {d : Pi.D} (r : Rep E S ρ y d) : ∀ {vs : List V} {ds : List Pi.D} (n : Nat), Reps E S ρ vs ds → Reps E S ρ (vs.set n y) (ds.set n d)
  | _, _, _, .nil => .nil
  | _, _, 0, .cons _ t => .cons r t
  | _, _, n + 1, .cons h t => .cons h (Reps.set r n t)
/-- o[i] = e -/
theorem psi_setr (he : PEI c X e te) (ha : PEI c X a ta) (hi : PEI c X i ti)
    (h0 : ∀ v, assign (.Subscript a i ap) X.env v = (do
      let ov ← holding [v] (eval a X.env)
      let iv ← holding [v, ov] (eval i X.env)
      standAt ap
      holding [v, ov, iv] (setItem ov iv v)
      release [v, ov, iv] []) := by intro _; rfl)
    (hs : swapsWithSole [.Subscript a i ap] e pos.line X.env = pure false := by rfl) (hw : swappedStores [.Subscript a i ap] e X.env = pure none := by rfl)
    (h1 : (assignEach [.Subscript a i ap] X.env).map (·.2) = [assign (.Subscript a i ap) X.env] := by rfl) : PSI c X (.Assign [.Subscript a i ap] e pos) (.setr ta ti te) :=
  ps_le (ps_asg he (pg_sub ha hi set_list h0) hs hw h1) fun D σ H h => by
    obtain ⟨ρ, S, s, w, p⟩ := h
    refine ⟨ρ, S, s, w, (PostS.bind p).imp ?_⟩
    rintro x H1 ⟨ρ1, S1, s1, d1, a1, _, r1, p1⟩
    refine ⟨ρ1, S1, s1, a1.wd, (PostS.bind p1).imp ?_⟩
    rintro y H2 ⟨ρ2, S2, s2, d2, a2, _, r2, p2⟩
    refine ⟨ρ2, S2, s2, a2.wd, (PostS.bind p2).imp ?_⟩
    rintro z H3 ⟨ρ3, S3, s3, d3, a3, _, r3, p3⟩
    split at p3
    · rename_i n k
      split at p3
      · rename_i ds hg
        split at p3
        · rename_i j hj
          cases r3
          obtain ⟨q, vs, rfl, hn, h1, h2⟩ := ref_of a3.wd.gr (r2.mono a3.inc) hg
          obtain ⟨w2, st2⟩ := a3.wd.reset (vs := vs.set j x) (ds := ds.set j d1) hn hg (Reps.set (r1.mono (a2.inc.trans a3.inc)) j h2)
          exact ⟨q, vs, k, j, rfl, rfl, h1, by rw [h2.len]; exact hj, p3 ρ3 S3 _ σ st2 w2⟩
        · exact p3.elim
      · exact p3.elim
    · exact p3.elim
/-- while, at most so many turns -/
theorem psi_while {n : Nat} (hp : PassesOwn (model X.prog X.w) X.A X.env X.xe) (hc : PTI c X e tc) (hb : PSsI c X body t) : PSI c X (.While e body [] pos) (.whl n tc t) :=
  ps_le (ps_while hp hc hb) fun D σ H h => by
    obtain ⟨ρ, S, s, w, p⟩ := h
    obtain ⟨Tt, hT⟩ : ∃ Tt, loopW (evS c.o t) (ev c.o tc) n s = Tt := ⟨_, rfl⟩
    have p0 : PostS c.E c.W σ ρ S s.l H Tt D := by rw [← hT]; exact p
    refine ⟨fun m σ' H' => ∃ ρ' S' s', Step ρ S (Ow σ s.l) H ρ' S' (Ow σ' s'.l) H' ∧ Wd c.E ρ' S' s' σ' H' ∧ loopW (evS c.o t) (ev c.o tc) m s' = Tt, ⟨n, ρ, S, s, Step.refl, w, hT⟩, ?_⟩
    rintro m σ1 H1 ⟨ρ1, S1, s1, st1, w1, e1⟩
    cases m with
    | zero =>
      have p1 : PostS c.E c.W σ ρ S s.l H .no D := by
        have : loopW (evS c.o t) (ev c.o tc) 0 s1 = .no := rfl
        rw [← this, e1]
        exact p0
      exact p1.elim
    | succ m =>
      have p1 : PostS c.E c.W σ1 ρ1 S1 s1.l H1 Tt D := PostS.step (l1 := s1.l) st1 p0
      refine ⟨ρ1, S1, s1, w1, ?_⟩
      have e2 : (ev c.o tc s1).bind (testW (evS c.o t) (loopW (evS c.o t) (ev c.o tc) m)) = Tt := e1
      cases q : ev c.o tc s1 with
      | ex k fs s2 =>
        rw [q] at e2
        have : Tt = .ex k fs s2 := e2.symm
        rw [this] at p1
        exact fun ρ4 S4 H4 x fv st4 => p1 ρ4 S4 H4 σ1 x fv st4
      | no =>
        rw [q] at e2
        have : Tt = .no := e2.symm
        rw [this] at p1; exact p1
      | ok d s2 =>
        rw [q] at e2
        intro v ρ2 S2 H2 st2 w2 r2
        have e3 : testW (evS c.o t) (loopW (evS c.o t) (ev c.o tc) m) d s2 = Tt := e2
        have st02 : Step ρ S (Ow σ s.l) H ρ2 S2 (Ow σ1 s2.l) H2 := st1.trans st2
        have pT : PostS c.E c.W σ1 ρ2 S2 s2.l H2 Tt D := PostS.step (l1 := s2.l) st2 p1
        cases d with
        | bl k =>
          refine ⟨k, bl_of r2, ?_⟩
          cases k with
          | false =>
            rw [if_neg Bool.false_ne_true]
            have : Tt = .ok .nx s2 := e3.symm
            rw [this] at pT
            exact PostS.here w2 pT
          | true =>
            rw [if_pos rfl]
            refine ⟨fun σ' H' => ∃ ρ' S' s', Step ρ S (Ow σ s.l) H ρ' S' (Ow σ' s'.l) H' ∧ Wd c.E ρ' S' s' σ' H' ∧ loopW (evS c.o t) (ev c.o tc) m s' = Tt, fun σ' H' z => ⟨m, Nat.lt_succ_self m, z⟩, ρ2, S2, s2, w2, ?_⟩
            have e4 : contW (loopW (evS c.o t) (ev c.o tc) m) (evS c.o t s2) = Tt := e3
            cases hq : evS c.o t s2 with
            | ok fl s4 =>
              rw [hq] at e4
              intro ρ4 S4 H4 σ4 st4 w4
              cases fl with
              | nx => exact ⟨ρ4, S4, s4, st02.trans st4, w4, e4⟩
              | ct => exact ⟨ρ4, S4, s4, st02.trans st4, w4, e4⟩
              | bk =>
                have : Tt = .ok .nx s4 := e4.symm
                rw [this] at pT
                exact pT ρ4 S4 H4 σ4 st4 w4
              | rt d =>
                have : Tt = .ok (.rt d) s4 := e4.symm
                rw [this] at pT
                exact pT ρ4 S4 H4 σ4 st4 w4
            | ex k fs s4 =>
              rw [hq] at e4
              have : Tt = .ex k fs s4 := e4.symm
              rw [this] at pT
              exact fun ρ4 S4 H4 σ4 x fv st4 => pT ρ4 S4 H4 σ4 x fv st4
            | no =>
              rw [hq] at e4
              have : Tt = .no := e4.symm
              rw [this] at pT
              exact pT.elim
        | _ =>
          have : Tt = .no := e3.symm
          rw [this] at pT
          exact pT.elim
/-- a, b = x, y -/
theorem psi_par {i j : Nat} {x y : Str} {a b : Expr} {px py pt : Pos} {kt k2 pt2} (hc : X.calm = true) (hN : X.N.Nodup) (hi : X.N[i]? = some x) (hj : X.N[j]? = some y) (hij : i ≠ j)
    (hx : X.env.scope.names.lookup x = some .local) (hy : X.env.scope.names.lookup y = some .local) (ha : PAI c X [a, b] ta)
    (hw : swappedStores [.Tuple [.Name x px, .Name y py] kt pt] (.Tuple [a, b] k2 pt2) X.env = pure (some [x, y])) (hs : swapsWithSole [.Tuple [.Name x px, .Name y py] kt pt] (.Tuple [a, b] k2 pt2) pos.line X.env = pure false := by rfl) :
    PSI c X (.Assign [.Tuple [.Name x px, .Name y py] kt pt] (.Tuple [a, b] k2 pt2) pos) (.par [i, j] ta) :=
  ps_le (ps_par hc hN hi hj hij hx hy ha hw hs) fun D σ H h => by
    obtain ⟨ρ, S, s, w, p⟩ := h
    refine ⟨ρ, S, s, w, (PostS.bindA p).imp ?_⟩
    rintro vs H1 ⟨ρ1, S1, s1, ds, e1, a1, st1, r1, p1⟩
    cases r1 with
    | nil => exact p1.elim
    | cons q1 r1 =>
      cases r1 with
      | nil => exact p1.elim
      | cons q2 r1 =>
        cases r1 with
        | nil => 
          refine ⟨_, _, rfl, ?_⟩
          have w1 := a1.wd
          have w2 : Wd c.E ρ1 S1 ⟨s1.l.set i (.v _), s1.g⟩ (σ.set i (some _)) H1 := ⟨w1.gr, w1.sl.set q1⟩
          have w3 : Wd c.E ρ1 S1 ⟨(s1.l.set i (.v _)).set j (.v _), s1.g⟩ ((σ.set i (some _)).set j (some _)) H1 := ⟨w2.gr, w2.sl.set q2⟩
          exact p1 ρ1 S1 H1 _ (Step.refl.ow fun a => ⟨fun z => Ow_set w1.sl.len (Ow_set w2.sl.len z), fun z => Ob_set w1.sl.len (Ob_set w2.sl.len z)⟩) w3
        | cons q3 r1 => exact p1.elim
end
end Pi
namespace Pi
open PySem L2

section
variable {c : Cn} {X : Cx} {e tg a b i : Expr} {te ta ti tc : T} {t : Pi.TS} {es : List Expr} {rest body : List Stmt} {pos ap cp : Pos} {st : Stmt}
/-! ### what is never reached -/
theorem pi_stuck : PEI c X e .nil := ⟨fun pins s σ H Q I h => by
  obtain ⟨ρ, S, s, w, p⟩ := h
  exact (show False from p).elim⟩
theorem psi_stuck : PSI c X st (.ex .nil) := ⟨fun pins s σ H D I h => by
  obtain ⟨ρ, S, s, w, p⟩ := h
  exact (show False from p).elim⟩
theorem pssi_stuck : PSsI c X body (.ex .nil) := ⟨fun pins s σ H D I h => by
  obtain ⟨ρ, S, s, w, p⟩ := h
  exact (show False from p).elim⟩

/-! ### texts, sign by sign -/
theorem dl_str {E : En} {ρ : List Addr} {x : Str} {S : Hp} : Dl E ρ (Its x) (x.cps.toList.map fun c => D.str ⟨#[c]⟩) S := fun ρ' S' H i' k _ i => by
  refine ⟨fun y e => ?_, fun e => ?_⟩
  · rw [List.getElem?_map] at e
    cases h : x.cps.toList[i]? with
    | none => rw [h] at e; cases e
    | some c =>
      rw [h] at e
      cases e
      have hi : i < x.cps.size := by
        have := (List.getElem?_eq_some_iff.mp h).1
        simpa using this
      refine ⟨hi, fun y H3 z => ⟨S', ?_, ?_⟩⟩
      · rw [z.1]; exact .same
      · obtain ⟨_, c', h1, h2⟩ := z
        rw [h2]
        have : x.cps[i]? = some c := by rw [← h]; simp
        rw [this] at h1
        cases h1
        exact .str _
  · show x.cps.size ≤ i
    have := List.getElem?_eq_none_iff.mp e
    simpa using this
theorem pii_its (he : PEI c X e ta) : PII c X tg e (.its ta) := by
  refine pI_le (L2.pi_str he) fun σ H Q h => ?_
  obtain ⟨ρ, S, s, w, p⟩ := h
  refine ⟨ρ, S, s, w, (PostI.bind p).imp ?_⟩
  rintro x H1 ⟨ρ1, S1, s1, d1, a1, r1, p1⟩
  cases r1 with
  | str z => exact ⟨z, rfl, PostI.here a1.wd dl_str p1⟩
  | tup _ _ => exact (show False from p1).elim
  | lst _ _ => exact (show False from p1).elim
  | non => exact (show False from p1).elim
  | bl _ => exact (show False from p1).elim
  | int _ => exact (show False from p1).elim
  | ins _ _ _ => exact (show False from p1).elim
  | ref _ => exact (show False from p1).elim
theorem inSV_inv : ∀ {a b z : D}, inSV a b = some z → ∃ k y, a = .str ⟨#[k]⟩ ∧ b = .str y ∧ z = .bl (decide (k ∈ y.cps.toList))
  | .str ⟨⟨[k]⟩⟩, .str y, z, h => by cases h; exact ⟨k, y, rfl, rfl, rfl⟩
  | .str ⟨⟨[]⟩⟩, .str y, z, h => by cases h
  | .str ⟨⟨_ :: _ :: _⟩⟩, .str y, z, h => by cases h
  | .str x, .non, z, h => by cases h
  | .str x, .bl _, z, h => by cases h
  | .str x, .int _, z, h => by cases h
  | .str x, .tup _, z, h => by cases h
  | .str x, .lst _, z, h => by cases h
  | .str x, .ins _ _, z, h => by cases h
  | .str x, .ref _, z, h => by cases h
  | .non, _, z, h => by cases h
  | .bl _, _, z, h => by cases h
  | .int _, _, z, h => by cases h
  | .tup _, _, z, h => by cases h
  | .lst _, _, z, h => by cases h
  | .ins _ _, _, z, h => by cases h
  | .ref _, _, z, h => by cases h
theorem opi_inS {E : En} : OpR X (compareOp .In) (rOp E .inS) := fun pins s σ H x y v u Q I rx ry h => by
  refine op_inS pins s σ H x y v u Q I rx ry ?_
  obtain ⟨ρ, S, g, d1, d2, z, w, o1, o2, e, q⟩ := h
  obtain ⟨k, y', rfl, rfl, rfl⟩ := inSV_inv (show inSV d1 d2 = some z from e)
  exact ⟨k, y', o1.str, o2.str, q.old _ (.bl _)⟩
/-- x.extend([..]) -/
theorem psi_ext {j : Nat} {x : Str} {p' ap cp lp : Pos} (he : PAI c X es te) (hN : X.N[j]? = some x := by rfl) (hv : Vis X.env.scope x := by first | exact Or.inl rfl | exact Or.inr (Or.inl rfl) | exact Or.inr (Or.inr rfl))
    (hbase : attributeBase (.Name x p') "extend" X.env (eval (.Name x p') X.env) = eval (.Name x p') X.env := by rfl)
    (hfew : ((backTo cp (starEach [.List es lp] X.env)).all (fun x => !x.1) && (backToKw cp (keywordEach [] X.env)).all (fun x => x.1.isSome) && decide ([Expr.List es lp].length + ([] : List Keyword).length + (if ([] : List Keyword).isEmpty then 0 else 1) < 30)) = true := by rfl)
    (hline : (ap.endLine == cp.line) = true := by rfl) (hs : starEach [.List es lp] X.env = (false, eval (.List es lp) X.env) :: starEach [] X.env := by rfl) (hplain : (backTo cp (starEach [] X.env)).any (·.1) = false := by rfl)
    (hd : (x == ("__debug__" : Str)) = false := by decide) (hcd : (x == ("__classdict__" : Str)) = false := by decide)
    (hsw : swapsWith (.Call (.Attribute (.Name x p') "extend" ap) [.List es lp] [] cp) none pos.line X.env = pure false := by rfl) : PSI c X (.Expr (.Call (.Attribute (.Name x p') "extend" ap) [.List es lp] [] cp) pos) (.ext j te) := by
  refine ps_le (ps_expr (pe_bm PySem.F.plainAttrs_list PySem.F.slot_list_extend PySem.F.type_list_extend mt_extend (pe_var hN hv hd hcd) (pa_cons (pe_lst he) pa_nil hs) hbase hfew hline hs hplain) hsw) fun D σ H h => ?_
  obtain ⟨ρ, S, s, w, p⟩ := h
  obtain ⟨ho, p⟩ := PostS.bif (show PostS c.E c.W σ ρ S s.l H (bif isOwn s.l j then _ else .no) D from p)
  obtain ⟨ds0, h0⟩ := isOwn_inv ho
  obtain ⟨q, vs0, q1, q2, q3, q4, q5⟩ := w.sl.own j ds0 h0
  refine ⟨.ref q, q1, .inl ⟨rfl, vs0, SqL.of q2⟩, ρ, S, s, w, (PostS.bindA p).imp ?_⟩
  rintro ys H1 ⟨ρ1, S1, s1, xs, e1, a1, st1, r1, p1⟩
  split at p1
  · rename_i ds h1
    obtain ⟨hb, p2⟩ := PostS.bif p1
    have hb := of_decide_eq_true hb
    refine ⟨le_line (by rw [r1.len]; omega), fun b hb2 => ?_⟩
    have w2 := a1.wd.new (o := .lst ys) hb2
    have s2 := Step.new (B := Ow σ s1.l) a1.wd.gr (o := .lst ys) hb2
    have i2 := Inc.new (ρ := ρ1) (o := .lst ys) (a1.wd.gr.fresh hb2).1
    obtain ⟨q', vs, z1, z2, z3, z4, z5⟩ := w2.sl.own j ds h1
    rw [q1] at z1
    cases z1
    obtain ⟨w3, st3⟩ := w2.regrow h1 q1 (z3.append (r1.mono i2))
    refine ⟨q, b, vs, ys, rfl, rfl, z2, upd_same, ?_, p2 ρ1 _ _ σ (s2.trans st3) w3⟩
    rw [z3.len, r1.len]
    exact le_line hb
  · exact p1.elim
end
end Pi
namespace Pi
open PySem PySem.Spec L2

/-! ### defs and what is known of them -/
/-- a def of the text -/
structure Def (K : PySem.W.Frag) (f : Addr) (x qual : Str) (st : Stmt) (ps : List Str) (dvs : List V) : Prop where
  ex : ∃ fd, FunD K x qual (defArgs st) (defBody st) (defScope st) dvs [] f fd ∧ ∀ j, j ≤ dvs.length → ∃ ds, Vals (dvs.drop j) ds ∧ Binds K fd ps ds
/-- a def that means m -/
structure Good (P : Program) (w : World) (K : PySem.W.Frag) (mg : Str → Option Value) (base : Heap) (E : En) (k : Nat) (f : Addr) (ps : List Str) (dvs : List V) (n : Nat) (m : List D → List MO → Pi.C) : Prop where
  ex : ∃ fd, FnG P w K mg base k f fd ps (spI E n m) ∧ ∀ j, j ≤ dvs.length → ∃ ds, Vals (dvs.drop j) ds ∧ Binds K fd ps ds
/-- an __init__ that means m -/
structure GoodN (P : Program) (w : World) (K : PySem.W.Frag) (mg : Str → Option Value) (base : Heap) (E : En) (k : Nat) (f : Addr) (ps : List Str) (dvs : List V) (n c : Nat) (m : List D → List MO → Pi.CI) : Prop where
  ex : ∃ fd, FnG P w K mg base k f fd ps (spN E n c m) ∧ ∀ j, j ≤ dvs.length → ∃ ds, Vals (dvs.drop j) ds ∧ Binds K fd ps ds
section
variable {P : Program} {w : World} {K : PySem.W.Frag} {mg : Str → Option Value} {base : Heap} {E : En} {k : Nat} {f : Addr} {N ps : List Str} {dvs : List V} {n c : Nat} {x qual : Str} {st : Stmt} {o : O} {t : Pi.TS}
theorem Def.good (d : Def K f x qual st ps dvs) (Sc : FnScope N ps (defScope st)) (hN : ps.length ≤ N.length)
    (hb : ∀ (cdv : Value) (A : Around) (outer : List Env) (s : Shared) (H : Hp) (Z : XK), A.guards = some [] → Room k (A.deeper (PyProof.Rows.envOfC qual (defScope st) s.heap.objs.size f cdv)) →
      PSsI ⟨E, o, WZ Z⟩ (cxOf (L2.CX P w) P w K mg base N qual (defScope st) f cdv A outer s H Z) (defBody st) t) :
    Good P w K mg base E (k + 1) f ps dvs ps.length (runD o N.length t) := by
  obtain ⟨fd, h1, h2⟩ := d.ex
  exact ⟨fd, fnI h1 Sc hN hb, h2⟩
theorem Def.goodN (d : Def K f x qual st ps dvs) (Sc : FnScope N ps (defScope st)) (hps : ps.length = n + 1) (hN : ps.length ≤ N.length) (hco : E.co c = true)
    (hb : ∀ (cdv : Value) (A : Around) (outer : List Env) (s : Shared) (H : Hp) (Z : XK), A.guards = some [] → Room k (A.deeper (PyProof.Rows.envOfC qual (defScope st) s.heap.objs.size f cdv)) →
      PSsI ⟨E, o, WZ Z⟩ (cxOf (L2.CX P w) P w K mg base N qual (defScope st) f cdv A outer s H Z) (defBody st) t) :
    GoodN P w K mg base E (k + 1) f ps dvs n c (runN o N.length c t) := by
  obtain ⟨fd, h1, h2⟩ := d.ex
  exact ⟨fd, initI h1 Sc hps hN hco hb, h2⟩
/-- a def that is never called -/
theorem Def.never (d : Def K f x qual st ps dvs) (Sc : FnScope N ps (defScope st)) (m : List D → List MO → Pi.C) (hm : ∀ ds g, m ds g = .no) : Good P w K mg base E (k + 1) f ps dvs n m := by
  obtain ⟨fd, h1, h2⟩ := d.ex
  have no : ∀ vs H Q Z, ¬ spI E n m vs H Q Z := fun vs H Q Z h => by
    obtain ⟨_, ρ, S, g, ds, _, _, p⟩ := h
    rw [hm] at p
    exact p
  exact ⟨fd, FnG.def h1 Sc (fun vs H Q Z h => (no vs H Q Z h).elim) fun cdv A outer s H vs Q Z hgd hr h => (no vs H Q Z h).elim, h2⟩
theorem Good.mono {j : Nat} {m : List D → List MO → Pi.C} (G : Good P w K mg base E j f ps dvs n m) (h : j ≤ k) : Good P w K mg base E k f ps dvs n m := by
  obtain ⟨fd, h1, h2⟩ := G.ex
  exact ⟨fd, h1.mono h, h2⟩
theorem Good.as {m m' : List D → List MO → Pi.C} (G : Good P w K mg base E k f ps dvs n m) (h : ∀ ds g, ds.length = n → m' ds g ≠ .no → m ds g = m' ds g) : Good P w K mg base E k f ps dvs n m' := by
  obtain ⟨fd, h1, h2⟩ := G.ex
  exact ⟨fd, fnI_as h1 h, h2⟩
theorem GoodN.as {m m' : List D → List MO → Pi.CI} (G : GoodN P w K mg base E k f ps dvs n c m) (h : ∀ ds g, ds.length = n → m' ds g ≠ .no → m ds g = m' ds g) : GoodN P w K mg base E k f ps dvs n c m' := by
  obtain ⟨fd, h1, h2⟩ := G.ex
  exact ⟨fd, initI_as h1 h, h2⟩
end
/-- the words of what a def is called with -/
inductive Dfl : List V → List D → Prop
  | nil : Dfl [] []
  | bl (b : Bool) {vs ds} : Dfl vs ds → Dfl (.bl b :: vs) (.bl b :: ds)
  | int (i : Int) {vs ds} : Dfl vs ds → Dfl (.int i :: vs) (.int i :: ds)
  | str (x : Str) {vs ds} : Dfl vs ds → Dfl (.str x :: vs) (.str x :: ds)
  | non {vs ds} : Dfl vs ds → Dfl (.non :: vs) (.non :: ds)
theorem Dfl.reps {E : En} {S : Hp} {ρ : List Addr} {vs : List V} {ds : List D} (h : Dfl vs ds) : Reps E S ρ vs ds := by
  induction h with
  | nil => exact .nil
  | bl b _ ih => exact .cons (.bl b) ih
  | int b _ ih => exact .cons (.int b) ih
  | str b _ ih => exact .cons (.str b) ih
  | non _ ih => exact .cons .non ih
section
variable {c : Cn} {X : Cx} {x : Str} {f : Addr} {ps : List Str} {dvs : List V} {n k i j : Nat} {df : List D}
theorem Good.callee (G : Good X.prog X.w X.K X.mg X.base c.E k f ps dvs n (c.o.call i)) (hgd : X.A.guards = some []) (hr : Room k X.A) (hm : X.mg x = some (.ref f)) (hk : PySem.W.keepIn X.K (.ref f) = true) (j : Nat) (hj : j ≤ dvs.length) (hd : Dfl (dvs.drop j) df) : Callee c X x i n df := by
  obtain ⟨fd, h1, h2⟩ := G.ex
  obtain ⟨ds, h3, h4⟩ := h2 j hj
  exact ⟨k, f, fd, ps, _, ds, h1, hgd, hr, hm, hk, h4, h3, fun S ρ => hd.reps⟩
theorem GoodN.maker {q : Nat} (G : GoodN X.prog X.w X.K X.mg X.base c.E k f ps dvs n q (c.o.init q)) (hgd : X.A.guards = some []) (hr : Room (k + 1) X.A) (hc : c.E.co q = true) (M : Mk X.K (c.E.cl q) f) (hm : X.mg x = some (.ref (c.E.cl q))) (j : Nat) (hj : j ≤ dvs.length) (hd : Dfl (dvs.drop j) df) : Maker c X x q n df := by
  obtain ⟨fd, h1, h2⟩ := G.ex
  obtain ⟨ds, h3, h4⟩ := h2 j hj
  exact ⟨hc, k, f, fd, ps, _, ds, M, h1, hgd, hr, hm, h4, h3, fun S ρ => hd.reps⟩
/-- an own method that an operator calls -/
structure Slot (K : PySem.W.Frag) (C : Addr) (m : Str) (f : Addr) : Prop where
  find : PySem.W.findIn K (.ref C) m = some (some (.ref f))
  ty : PySem.W.typeIn K (.ref f) = some (.type "function")
theorem Good.slot {C : Addr} {m : Str} (G : Good X.prog X.w X.K X.mg X.base c.E k f ps [] n (c.o.call i)) (hgd : X.A.guards = some []) (hr : Room k X.A) (M : Slot X.K C m f) :
    ∃ (j : Nat) (a : Addr) (fd : FuncData) (ps : List Str), FnG X.prog X.w X.K X.mg X.base j a fd ps (spI c.E n (c.o.call i)) ∧ X.A.guards = some [] ∧ Room j X.A ∧
    PySem.W.findIn X.K (.ref C) m = some (some (.ref a)) ∧ PySem.W.typeIn X.K (.ref a) = some (.type "function") ∧ Binds X.K fd ps [] := by
  obtain ⟨fd, h1, h2⟩ := G.ex
  obtain ⟨ds, h3, h4⟩ := h2 0 (Nat.le_refl _)
  cases h3
  exact ⟨k, f, fd, ps, h1, hgd, hr, M.find, M.ty, h4⟩
end
end Pi
namespace Pi
open PySem PySem.Spec L2
/-- an own class -/
structure ClsF (K : PySem.W.Frag) (C : Addr) : Prop where
  cls : Cls K C
  gc : PySem.W.findIn K (.ref C) "__class__" = some (some (.builtin "object.__class__"))
  mro : PySem.W.mroIn K C (.type "object") = some true
def Ty.bi : Ty → Bool
  | .cls _ => false
  | _ => true
theorem kit_of {c : Cn} {t : Ty} (hb : t.bi = true) (h : ∀ k, c.E.co k = true → PySem.W.kitOne c.E.K (.ref (c.E.cl k)) (tw c.E t) = some false) : Kit c t :=
  ⟨fun d v hv hc => by
    cases d with
    | ins k fs =>
      cases hv
      rw [h k (hc k fs rfl)]
      cases t <;> first
        | rfl
        | cases hb
    | ref n => cases hv
    | _ =>
      cases hv
      cases t <;> first
        | rfl
        | cases hb⟩
theorem blk_cx {CX : CXT} {P : Program} {w : World} {K : PySem.W.Frag} {mg : Str → Option Value} {base : Heap} {N : List Str} {qual : Str} {sc scope : PySem.Scope} {f : Addr} {cd : Value} {A : Around} {outer : List Env} {s : Shared} {H : Hp} {E : XK} {own : List (Str × Nat)}
    (h : BlkOk N sc scope own) : BlkOk (cxOf CX P w K mg base N qual sc f cd A outer s H E).N (cxOf CX P w K mg base N qual sc f cd A outer s H E).env.scope scope own := h
theorem kit_mro {K : PySem.W.Frag} {C : Addr} {T : String} {b : Bool} (hm : PySem.W.kitMeta T = true) (h : PySem.W.mroIn K C (.type T) = some b) : PySem.W.kitOne K (.ref C) (.type T) = some b := by
  have e : PySem.W.kitOne K (.ref C) (.type T) = if PySem.W.kitMeta T = true then PySem.W.subIn K (.ref C) (.type T) else none := rfl
  rw [e, if_pos hm]
  exact h
theorem hu66 {A : Around} {k : Nat} (h : Room k A) : A.units + 66 < cLine := by
  have := h.un
  omega
theorem hu64 {A : Around} {k : Nat} (h : Room k A) : A.units + 64 < cLine := by
  have := h.un
  omega
end Pi
/-! The law's own call, its frame without guards. -/
namespace Pi
open PySem PySem.Spec PyProof.Rows L2
section
variable {P : Program} {w : World} {K : PySem.W.Frag} {mg mb : Str → Option Value} {k : Nat} {fa a : Addr} {fd : FuncData} {x : Str} {sp : Sp} {s1 : Shared} {vs : List Value} {ns : List Int}
/-- what stands behind law's call -/
def Told (s1 : Shared) : Except Value Flow → Shared → Prop := fun out s2 => out = .ok (.ret (.bool true)) ∧ OldK s1.heap s2.heap ∧ s2.os = s1.os ∧ AllBare s2.gens
theorem told_at {H : Hp} (inK : K.In s1.heap) (top : s1.heap.Ns mainGlobals mg) (bi : s1.heap.Ns builtinsNs mb) (bib : ∀ y : Str, y ≠ "__name__" → mb y = bootBuiltins y) (noL : s1.heap.NoLimit) (noG : s1.gens = #[])
    (here : s1.heap.get? a = some { cls := .type "list", data := .seq vs.toArray }) (hr : Room k callerA)
    (G : ∀ base : Heap, K.In base → base.Ns mainGlobals mg → FnG P w K mg base k fa fd [x] sp) (bind : ∀ (s : Shared) (u : Value), BindsTo s fd ⟨[u], []⟩ [(x, u)])
    (only : Only H) (hok : HOk P w H s1.heap) (alone : ∀ b, H b ≠ none → b = a) (off : H a ≠ none → K.lookup a = none)
    (say : sp [.ref a] H (fun v _ => v = .bl true) fun _ _ _ => False) : codeAny (model P w) callerA (.call (.ref fa) ⟨[.ref a], []⟩) (Told s1) s1 := by
  have untracked : ∀ (b : Addr) (u : Obj), s1.heap.get? b = some u → (H b ≠ none → False) → (hidT s1.heap H).get? b = some u := fun b u e no => hidT_get e (Classical.byContradiction no)
  have dicts : ∀ (b : Addr) (u : Obj) (es : Array DictEntry) (ep : Nat), s1.heap.get? b = some u → u.data = .dict es ep → H b ≠ none → False := fun b u es ep e d no => by
    have e2 := here
    rw [← alone b no, e] at e2
    rw [Option.some.inj e2] at d
    exact absurd d (by simp)
  have names : ∀ (b : Addr) (m : Str → Option Value), s1.heap.Ns b m → (hidT s1.heap H).Ns b m := fun b m h => by
    obtain ⟨u, es, ep, e, d, rest⟩ := h
    exact ⟨u, es, ep, untracked b u e (dicts b u es ep e d), d, rest⟩
  have inB : K.In (hidT s1.heap H) := fun b u e => untracked b u (inK b u e) fun no => by
    have e3 := alone b no
    rw [e3] at no e
    rw [off no] at e
    cases e
  have lim : (hidT s1.heap H).NoLimit := by
    obtain ⟨mc, l1, l2⟩ := noL
    exact ⟨mc, names _ _ l1, l2⟩
  have e0 : Env0 P w K mg (hidT s1.heap H) callerA [] s1 H :=
    ⟨rfl, ⟨inB, names _ _ top, ⟨mb, names _ _ bi, bib⟩, lim⟩, fun b u e => of_hidT e, Nat.le_of_eq (hidT_size _ _), trivial, (fun b z => (List.not_mem_nil (show b ∈ ([] : List Addr) from z)).elim), hok, .of_eq noG⟩
  have went := (G _ inB (names _ _ top)).run callerA [] s1 H ⟨[.ref a], []⟩ [.ref a] [.ref a] _ _ rfl hr e0 (bind s1 (.ref a)) (.cons rfl .nil) say
  apply codeAny_mono went
  intro out s2 ends
  match out, ends with
  | .error e, ends =>
    obtain ⟨_, _, _, _, _, _, _, _, _, _, _, _, no⟩ := ends
    exact no.elim
  | .ok .next, ends => exact ends.elim
  | .ok .brk, ends => exact ends.elim
  | .ok .cont, ends => exact ends.elim
  | .ok (.ret u), ends =>
    obtain ⟨v, H2, os, bare, un, hok2, rv, q⟩ := ends
    have qv : v = V.bl true := q
    subst qv
    have qu : u = Value.bool true := rv
    subst qu
    refine ⟨rfl, OldK.of_keep fun b u e => ?_, os, bare⟩
    by_cases z : H b = none
    · exact un.keep b u e z (fun h => (List.not_mem_nil (show b ∈ ([] : List Addr) from h)).elim) (fun h => (List.not_mem_nil (show b ∈ ([] : List Addr) from h)).elim)
    · rcases only b with no | ⟨ob, xs, fz⟩
      · exact absurd no z
      · have f1 := (hok b _ fz).1
        have f2 := (hok2 b _ (un.frzs b ob _ fz)).1
        rw [f1] at e
        rw [← e]
        exact f2
theorem told (inK : K.In s1.heap) (top : s1.heap.Ns mainGlobals mg) (bi : s1.heap.Ns builtinsNs mb) (bib : ∀ y : Str, y ≠ "__name__" → mb y = bootBuiltins y) (noL : s1.heap.NoLimit) (noG : s1.gens = #[])
    (here : s1.heap.get? a = some { cls := .type "list", data := .seq vs.toArray }) (hns : IntsAre vs ns) (few : ns.length ≤ sizeLine) (hr : Room k callerA)
    (G : ∀ base : Heap, K.In base → base.Ns mainGlobals mg → FnG P w K mg base k fa fd [x] sp) (bind : ∀ (s : Shared) (u : Value), BindsTo s fd ⟨[u], []⟩ [(x, u)])
    (say : ∀ H : Hp, Only H → SqL K H a (ns.map V.int) → sp [.ref a] H (fun v _ => v = .bl true) fun _ _ _ => False) : codeAny (model P w) callerA (.call (.ref fa) ⟨[.ref a], []⟩) (Told s1) s1 := by
  have rv := vals_ints hns
  have size : vs.toArray.size ≤ sizeLine := by rw [List.size_toArray, hns.length]; exact few
  cases mine : K.lookup a with
  | some u =>
    have hu := inK a u mine
    rw [here] at hu
    have hu' := (Option.some.inj hu).symm
    subst hu'
    have none0 : Only (fun _ => none : Hp) := fun _ => Or.inl rfl
    have row : SqL K (fun _ => none : Hp) a (ns.map V.int) := .inr ⟨_, vs.toArray, _, mine, rfl, rfl, rfl, size, by simpa using rv⟩
    exact told_at inK top bi bib noL noG here hr G bind none0 (fun b u z => by have z2 : (none : Option HO) = some u := z; cases z2) (fun b z => (z rfl).elim) (fun z => (z rfl).elim) (say _ none0 row)
  | none =>
    obtain ⟨F, hF⟩ : ∃ F : HO, F = .frz { cls := .type "list", data := .seq vs.toArray } (.lst (ns.map V.int)) := ⟨_, rfl⟩
    obtain ⟨H, hH⟩ : ∃ H : Hp, H = fun b => if b = a then some F else none := ⟨_, rfl⟩
    have at_a : H a = some F := by rw [hH]; exact if_pos rfl
    have at_b : ∀ b, b ≠ a → H b = none := fun b ne => by rw [hH]; exact if_neg ne
    have only : Only H := fun b => by
      by_cases q : b = a
      · rw [q, at_a, hF]; exact .inr ⟨_, _, rfl⟩
      · exact .inl (at_b b q)
    have row : SqL K H a (ns.map V.int) := .inl (.inr ⟨{ cls := .type "list", data := .seq vs.toArray }, by rw [at_a, hF]⟩)
    refine told_at inK top bi bib noL noG here hr G bind only (fun b u z => ?_) (fun b z => Classical.byContradiction fun q => z (at_b b q)) (fun _ => mine) (say H only row)
    by_cases q : b = a
    · subst q
      rw [at_a, hF] at z
      cases z
      exact ⟨here, by rw [List.length_map]; exact few, vs, _, rv, here⟩
    · rw [at_b b q] at z
      cases z
end
/-- the law, from what its def promises in a frame without guards -/
theorem walkG {l : PySem.W.OpenLaw} {n k : Nat} {q : Program} {loose : List Str} {XP : (Str → Option Value) → Heap → Prop} {YP : World → Heap → Prop} {d : DefRec} {K : Params → PySem.W.Frag} {sp : World → Sp} {x : Str}
    (most : l.most = some n) (few : n ≤ sizeLine) (plain : d.params.defaults = []) (hr : Room k callerA) (hY : ∀ (w : World) (h : Heap), YP w h → (K w.params).In h)
    (G : ∀ (w : World) (mg : Str → Option Value) (fa : Addr) (h : Heap), (K w.params).In h → h.Ns mainGlobals mg → mg d.name = some (.ref fa) →
      ∃ fd : FuncData, (∀ (s : Shared) (u : Value), BindsTo s fd ⟨[u], []⟩ [(x, u)]) ∧ ∀ base : Heap, (K w.params).In base → base.Ns mainGlobals mg → FnG l.prog w (K w.params) mg base k fa fd [x] (sp w))
    (say : ∀ (w : World) (H : Hp) (a : Addr) (ns : List Int), ns.length ≤ n → Only H → SqL (K w.params) H a (ns.map V.int) → sp w [.ref a] H (fun v _ => v = .bl true) fun _ _ _ => False) :
    PySem.W.WalkO q loose XP YP l.row.toRowW d [] (fun f vs => PySem.call f vs) := by
  apply Att.attach_call most plain
  intro w s0 s1 mg mb fa o pm cd doc a vs ns J Y ho hd hcd hmg hobj hints hlen hg
  obtain ⟨fd, bind, hG⟩ := G w mg fa s1.heap (hY w _ Y) J.T.g hmg
  exact told (hY w _ Y) J.T.g J.T.b J.T.builtins J.T.nolimit hg hobj hints (Nat.le_trans hlen few) hr hG bind fun H only row => say w H a ns hlen only row
end Pi
/-! == and != by an own __eq__ -/
namespace PySem.W
open PySem PySem.SeqAt
section
variable {prog : Program} {w : World} {A : Around} {E : Value → Shared → Prop} {s : Shared} {K : Frag} {x C f : Addr} {ox : Obj} {od : Option Obj} {b tb : Value}
theorem pi_ne_entry {Q : Fin → Shared → Prop} (hu : A.units < cLine) (X : K.In s.heap) (I : InstAt s.heap x ox C od) (hs : findIn K (.ref C) "__eq__" = some (some (.ref f))) (hf : isFn K (.ref f) = true)
    (h : wpAny (model prog w) A (call (.ref f) [.ref x, b]) (fun v s' => ∃ k, v = .bool k ∧ Q (.done (.ret (.bool (!k)))) s') E s) : wpAny (model prog w) A (Builtin.«object.__ne__» ⟨[.ref x, b], []⟩) Q E s := by
  unfold Builtin.«object.__ne__»
  repeat (first
    | with_reducible refine wpAny_cRoomFor hu ?_
    | (refine wpAny_bind (m := callSpecialIfBound? (.ref x) (Str.ofString "__eq__") [b])
        (ifBound_K X I hs hf (wpAny_mono h (fun r s' hr => by
          obtain ⟨k, rfl, hq⟩ := hr
          repeat (first | exact hq | exact wpAny_pure hq | exact wpAny_truthy_bool hq | (refine wpAny_bind (m := truthy (.bool _)) (wpAny_truthy_bool ?_)) | wp_step)) fun _ _ e => e)))
    | wp_step)
theorem pi_ne_bound {args : List Value} {Q : Option Value → Shared → Prop} (X : K.In s.heap) (I : InstAt s.heap x ox C od) (hs : findIn K (.ref C) "__ne__" = some (some (.builtin "object.__ne__")))
    (h : wpAny (model prog w) A (call (.builtin "object.__ne__") (.ref x :: args)) (fun v => Q (some v)) E s) : wpAny (model prog w) A (callSpecialIfBound? (.ref x) "__ne__" args) Q E s := by
  simp only [callSpecialIfBound?, bindSpecialIfBound?]
  refine wpAny_holding (wpAny_bind (wpAny_bind (wpAny_bind (I.type.here ((PySem.W.looks_findIn X hs).here ?_)))))
  refine wpAny_bind (wpAny_askSetting (wpAny_ite ?_))
  have fin : wpAny (model prog w) A (call (.builtin "object.__ne__") ([.ref x] ++ args) >>= fun v => pure (some v)) Q E s := wpAny_bind (wpAny_mono h (fun v s' h' => wpAny_pure h') fun _ _ h' => h')
  split
  · exact wpAny_bind (wpAny_of_eq (F.cmp_object.ne.bind _) (wpAny_pure (by exact fin)))
  · exact wpAny_tryCatch (wpAny_bind (wpAny_of_eq (F.cmp_object.ne.bind _) (wpAny_pure (by exact fin))))
theorem pi_rc_ne {Q : Value → Shared → Prop} (hu : A.units + 1 < cLine) (X : K.In s.heap) (I : InstAt s.heap x ox C od) (hb : Looks (model prog w) s.heap (typeOf b) tb) (hn : notFirst K C tb = true)
    (hs : findIn K (.ref C) "__eq__" = some (some (.ref f))) (hf : isFn K (.ref f) = true) (hne : findIn K (.ref C) "__ne__" = some (some (.builtin "object.__ne__"))) (hm : mroIn K C (.type "object") = some true)
    (h : wpAny (model prog w) A.in1 (call (.ref f) [.ref x, b]) (fun v s' => ∃ k, v = .bool k ∧ Q (.bool (!k)) s') E s) : wpAny (model prog w) A (richCompare .NotEq (.ref x) b) Q E s := by
  have one : wpAny (model prog w) A (tryCompare (.ref x) "__ne__" b) (fun r s' => ∃ v, r = some v ∧ Q v s') E s := by
    unfold tryCompare
    refine wpAny_bind (pi_ne_bound X I hne (wpAny_call (codeAny_call_builtin F.cmp_object.ne.plain F.cmpEntry_ne (check_slot F.cmpKind_ne F.cmpSplit_ne (I.type.andThen (looks_mroIn X hm)) (F.cmpArgs_ne _ _)
      (pi_ne_entry (A := A.in1) hu X I hs hf (wpAny_mono h (fun v s' hv => ?_) fun _ _ e => e))))))
    obtain ⟨k, rfl, hq⟩ := hv
    exact ⟨k, rfl, wpAny_pure ⟨_, rfl, hq⟩⟩
  unfold richCompare
  simp only [oneThing_ref, cmpInfo_NotEq]
  refine wpAny_holding (wpAny_bind (wpAny_cRoomFor (Nat.lt_of_succ_lt hu) ?_))
  refine wpAny_bind (I.type.here (wpAny_bind (hb.here ?_)))
  split
  · rename_i q
    have e : subIn K tb (.ref C) = some false := by
      rcases Bool.or_eq_true_iff.mp hn with e | e
      · rw [beq_iff_eq.mp e] at q; simp at q
      · exact beq_iff_eq.mp e
    refine wpAny_bind ((looks_subIn X e).here ?_)
    simp only [Bool.false_eq_true, if_false]
    refine wpAny_bind (wpAny_mono one (fun r s' z => ?_) fun _ _ e => e)
    obtain ⟨v, rfl, hq⟩ := z
    exact wpAny_pure hq
  · refine wpAny_bind (wpAny_pure ?_)
    simp only [Bool.false_eq_true, if_false]
    refine wpAny_bind (wpAny_mono one (fun r s' z => ?_) fun _ _ e => e)
    obtain ⟨v, rfl, hq⟩ := z
    exact wpAny_pure hq
end
end PySem.W
/-! x == y, x != y, x in (y, ..) where an own __eq__ answers -/
namespace Pi
open PySem PySem.Spec PyProof.Rows L2
section
variable {c : Cn} {X : Cx} {a b : Expr} {ta tb : T} {pos : Pos}
theorem notFirst_bi {K : PySem.W.Frag} {C : Addr} {T : String} (h : ∃ ms, fastBuiltinMro T = some ms ∧ ms.contains (.ref C) = false) : PySem.W.notFirst K C (.type T) = true := by
  obtain ⟨ms, h1, h2⟩ := h
  have : PySem.W.subIn K (.type T) (.ref C) = some false := by
    show (fastBuiltinMro T).map (·.contains (.ref C)) = some false
    rw [h1]
    show some (ms.contains (.ref C)) = some false
    rw [h2]
  unfold PySem.W.notFirst
  rw [this]
  simp
theorem nf_none {K : PySem.W.Frag} {C : Addr} : PySem.W.notFirst K C (.type "NoneType") = true := notFirst_bi ⟨[.type "NoneType", .type "object"], by decide +kernel, by simp⟩
theorem nf_bool {K : PySem.W.Frag} {C : Addr} : PySem.W.notFirst K C (.type "bool") = true := notFirst_bi ⟨[.type "bool", .type "int", .type "object"], by decide +kernel, by simp⟩
theorem nf_int {K : PySem.W.Frag} {C : Addr} : PySem.W.notFirst K C (.type "int") = true := notFirst_bi ⟨[.type "int", .type "object"], by decide +kernel, by simp⟩
theorem nf_str {K : PySem.W.Frag} {C : Addr} : PySem.W.notFirst K C (.type "str") = true := notFirst_bi ⟨[.type "str", .type "object"], by decide +kernel, by simp⟩
theorem nf_tuple {K : PySem.W.Frag} {C : Addr} : PySem.W.notFirst K C (.type "tuple") = true := notFirst_bi ⟨[.type "tuple", .type "object"], by decide +kernel, by simp⟩
theorem nf_list {K : PySem.W.Frag} {C : Addr} : PySem.W.notFirst K C (.type "list") = true := notFirst_bi ⟨[.type "list", .type "object"], by decide +kernel, by simp⟩
/-- which own class is one of which -/
structure Subs (c : Cn) : Prop where
  ex : ∀ i j, c.E.co i = true → c.E.co j = true → PySem.W.subIn c.E.K (.ref (c.E.cl i)) (.ref (c.E.cl j)) = some (c.o.sub i j)
/-- own __eq__ of the classes that have one -/
structure Eqs (c : Cn) (X : Cx) : Prop where
  ex : ∀ k f, c.E.co k = true → c.o.eqm k = some f → ∃ (j : Nat) (a : Addr) (fd : FuncData) (ps : List Str), FnG X.prog X.w X.K X.mg X.base j a fd ps (spI c.E 2 (c.o.call f)) ∧ X.A.guards = some [] ∧ Room (j + 2) X.A ∧
    PySem.W.findIn X.K (.ref (c.E.cl k)) "__eq__" = some (some (.ref a)) ∧ PySem.W.isFn X.K (.ref a) = true ∧ Binds X.K fd ps [] ∧ PySem.W.findIn X.K (.ref (c.E.cl k)) "__ne__" = some (some (.builtin "object.__ne__")) ∧
    PySem.W.subIn X.K (.ref (c.E.cl k)) (.type "NoneType") = some false ∧ PySem.W.subIn X.K (.ref (c.E.cl k)) (.type "str") = some false ∧ PySem.W.subIn X.K (.ref (c.E.cl k)) (.type "tuple") = some false
theorem okR_nf {E : En} {o : O} {W : WX} (hs : Subs ⟨E, o, W⟩) {g : List MO} {k : Nat} (hk : E.co k = true) {y d : D} {v : Value} (h : okR o g k y = true) (e : tyD g y = some d) (q : kv E d = some v) (co : ∀ k fs, d = .ins k fs → E.co k = true) : PySem.W.notFirst E.K (E.cl k) v = true := by
  unfold okR at h
  rw [e] at h
  cases d with
  | ins k' fs =>
    cases q
    have h' : (k' == k || !o.sub k' k) = true := h
    have hc := co k' fs rfl
    unfold PySem.W.notFirst
    by_cases z : k' = k
    · subst z; simp
    · have : (k' == k) = false := by simpa using z
      rw [this, Bool.false_or] at h'
      have e2 := hs.ex k' k hc hk
      simp only [Bool.not_eq_true'] at h'
      rw [show PySem.W.subIn E.K (.ref (E.cl k')) (.ref (E.cl k)) = some (o.sub k' k) from e2, h']
      simp
  | non => cases q; exact nf_none
  | bl _ => cases q; exact nf_bool
  | int _ => cases q; exact nf_int
  | str _ => cases q; exact nf_str
  | tup _ => cases q; exact nf_tuple
  | lst _ => cases q; exact nf_list
  | ref _ => cases q
/-- a def is run below the frame -/
theorem run_gA {k : Nat} {f : Addr} {fd : FuncData} {ps : List Str} {sp : Sp} {A : Around} {Z : XK} {pins : List (Addr × Obj)} {σ : L2.St} {H : Hp} {s : Shared} {Q : VK} {us : List Value} {vs : List V} (G : FnG X.prog X.w X.K X.mg X.base k f fd ps sp) (hg : A.guards = some []) (hr : Room k A) (hf : A.frames = X.A.frames)
    (hb : Binds X.K fd ps []) (hx : Passes (L2.CX X.prog X.w) X Z) (I : L2.Inv X pins σ H s) (rv : Vals vs us) (h : sp vs H Q Z) : wpAny (model X.prog X.w) A (call (Value.ref f) us) (EP X pins σ Q) X.xe s := by
  have e0 : Env0 X.prog X.w X.K X.mg X.base A X.stack s H := by
    have e := I.env0
    exact ⟨by rw [hf]; exact e.frames, e.mod, e.bs, e.bsz, e.funs, e.frf, e.hok, e.bare⟩
  have hl := G.len _ _ _ _ h
  refine wpAny_call (codeAny_mono (G.run A X.stack s H ⟨us, []⟩ us vs Q Z hg hr e0 (by
    have := hb s us I.kIn (by simpa [← rv.length] using hl)
    simpa using this) rv h) fun r s' hq => ?_)
  cases r with
  | error e => exact hx pins σ H s e s' I hq
  | ok fl =>
    cases fl with
    | ret w =>
      obtain ⟨z, H', I', rz, q⟩ := I.after hq
      exact ⟨z, H', I', rz, q⟩
    | next => exact False.elim hq
    | brk => exact False.elim hq
    | cont => exact False.elim hq
/-- what an own == says, seen from where it is asked -/
def PostE (E : En) (ρ : List Addr) (S H : Hp) (r : Pi.C) (Q : Bool → Hp → Prop) : Prop := PostC E ρ S H r (fun v H' => ∃ k, v = .bl k ∧ Q k H') (fun _ _ _ => False)
/-- the own == below the frame: richCompare .Eq -/
theorem eq_run (T : Eqs c X) (hs : Subs c) (tk : Takes X c.W) {A : Around} (hK : X.K = c.E.K) (hgd : A.guards = some []) (hrm : ∀ j, Room (j + 2) X.A → Room (j + 1) A) (hf : A.frames = X.A.frames) {pins : List (Addr × Obj)} {s : Shared} {σ : L2.St} {H : Hp} {x y : V} {v u : Value} {Q : Bool → Hp → Prop} {ρ : List Addr} {S : Hp} {g : List MO} {d1 d2 : D}
    (I : L2.Inv X pins σ H s) (rx : RelV x v) (ry : RelV y u) (gr : Gr c.E ρ S g H) (r1 : Rep c.E S ρ x d1) (r2 : Rep c.E S ρ y d2) (p : PostE c.E ρ S H (eqoC c.o d1 d2 g) Q) :
    wpAny (model X.prog X.w) A (richCompare .Eq v u) (fun z s' => ∃ k, z = .bool k ∧ ∃ H', L2.Inv X pins σ H' s' ∧ Q k H') X.xe s := by
  unfold eqoC at p
  split at p
  · rename_i k hk
    split at p
    · rename_i f hfk
      cases hok : okR c.o g k d2 with
      | false => rw [hok] at p; exact False.elim p
      | true =>
        rw [hok] at p
        obtain ⟨q, dx, fv, fs, rfl, h1, h2, h3⟩ := clsS_inv gr r1 hk
        cases rx
        obtain ⟨j, fa, fd, ps, G, _, hr, hm, ht, hb, _⟩ := T.ex k f h2.1 hfk
        obtain ⟨mA, O, _⟩ := ins_get I.hok h1
        obtain ⟨od, J, _⟩ := O.look
        obtain ⟨m, hF⟩ := I.fr
        obtain ⟨dy, hdy⟩ : ∃ dy, tyD g d2 = some dy := by
          unfold okR at hok
          cases q : tyD g d2 with
          | none => rw [q] at hok; cases hok
          | some dy => exact ⟨dy, rfl⟩
        obtain ⟨tv, q1, q2, q3⟩ := r2.ty gr hdy
        obtain ⟨P, KX, hP, _⟩ := L2.kit_of I ry (hK ▸ q2)
        have hn := okR_nf (W := c.W) (E := c.E) (o := c.o) hs h2.1 hok hdy q1 q3
        refine PySem.W.cmp_K (op := .Eq) (tb := tv) (hrm j hr).units0 hF I.ok.mod.kin J (KX.ty _ _ I.kIn hP) (by rw [hK]; exact hn) hm ht ?_
        have hsp : spI c.E 2 (c.o.call f) [.ref q, y] H (fun v H' => ∃ k, v = .bl k ∧ Q k H') (fun _ _ _ => False) := ⟨rfl, ρ, S, g, [d1, d2], gr, .cons r1 (.cons r2 .nil), p⟩
        refine wpAny_mono (run_gA (A := A) (us := [.ref q, u]) (vs := [.ref q, y]) (Z := fun _ _ _ => False) G hgd ((hrm j hr).mono (Nat.le_succ _)) hf hb (passes_call tk fun _ _ _ _ z => z.elim) I (.cons rfl (.cons ry .nil)) hsp) (fun z s1 hz => ?_) fun _ _ z => z
        obtain ⟨w, H1, I1, rw', b, rfl, qq⟩ := hz
        cases rw'
        exact ⟨b, rfl, H1, I1, qq⟩
    · exact False.elim p
  · exact False.elim p
end
end Pi
/-! a plain thing == an own instance: its own __eq__ answers; x in (a, b, ..) -/
namespace PySem.W
open PySem PySem.SeqAt AutoSeq1 MeetsSeq2
section
variable {prog : Program} {w : World} {A : Around} {E : Value → Shared → Prop} {s : Shared} {K : Frag} {x C f : Addr} {ox : Obj} {od : Option Obj}
theorem pi_str_eq {a : Str} {t : Tok} {dx : Addr} {Q : Fin → Shared → Prop} (h : s.heap.get? x = some (instObj C dx)) (hq : Q (.done (.ret .notImplemented)) s) : wpAny (model prog w) A (Builtin.«str.__eq__» ⟨[.str a t, .ref x], []⟩) Q E s := by
  obtain ⟨hp, g, d, tk, os⟩ := s
  unfold instObj at h
  wp_walk using wpAny_loadPart' h
  exact hq
theorem pi_tup_eq {l : Addr} {Q : Fin → Shared → Prop} (hx : ∀ (M : Model), Looks M s.heap (isInstance (.ref x) (.type "tuple")) false) (hq : Q (.done (.ret .notImplemented)) s) : wpAny (model prog w) A (Builtin.«tuple.__eq__» ⟨[.ref l, .ref x], []⟩) Q E s := by
  show wpAny _ A (do
    let (a, [b]) ← slotArgs "__eq__" 1 ⟨[.ref l, .ref x], []⟩ | unsupported "internal:tuple.compare"
    if !(← isInstance b (.type "tuple")) then return ← ret .notImplemented
    _) Q E s
  refine wpAny_bind (wpAny_of_eq (rfl : slotArgs "__eq__" 1 ⟨[.ref l, .ref x], []⟩ = pure (.ref l, [.ref x])) ?_)
  show wpAny _ A (isInstance (.ref x) (.type "tuple") >>= _) Q E s
  refine wpAny_bind ((hx _).here ?_)
  rw [if_pos (show (!false) = true from rfl)]
  exact wpAny_pure hq
end
end PySem.W
namespace PySem.W
open PySem PySem.SeqAt AutoSeq1 MeetsSeq2
section
variable {prog : Program} {w : World} {A : Around} {E : Value → Shared → Prop} {s : Shared} {K : Frag} {x C f : Addr} {ox : Obj} {od : Option Obj} {y : Value} {T id : String} {B : Builtin}
theorem pi_rc_right {Q : Value → Shared → Prop} (hu : A.units < cLine) (X : K.In s.heap) (I : InstAt s.heap x ox C od) (hy : s.TypeIs y T) (h1 : oneThing? .Eq y (.ref x) = none) (slot : Slot T "__eq__" id) (entry : entryFor table id = some B) (args : argsOk id ⟨[y, .ref x], []⟩)
    (hdec : ∀ {A : Around} {E : Value → Shared → Prop} {Q : Fin → Shared → Prop}, Q (.done (.ret .notImplemented)) s → wpAny (model prog w) A (B ⟨[y, .ref x], []⟩) Q E s) (hT : subIn K (.ref C) (.type T) = some false)
    (hs : findIn K (.ref C) "__eq__" = some (some (.ref f))) (hf : isFn K (.ref f) = true)
    (h : wpAny (model prog w) A (call (.ref f) [.ref x, y]) (CmpBack Q) E s) : wpAny (model prog w) A (richCompare .Eq y (.ref x)) Q E s := by
  have one : wpAny (model prog w) A (tryCompare y "__eq__" (.ref x)) (fun r s' => r = none ∧ s' = s) E s :=
    wpAny_tryCompare_declines hy slot (GQ.call_here slot hy entry args (hdec ⟨rfl, rfl, rfl⟩))
  have two : wpAny (model prog w) A (tryCompare (.ref x) "__eq__" y) (fun r s' => ∃ v, r = some v ∧ Q v s') E s := by
    unfold tryCompare
    refine wpAny_bind (ifBound_K X I hs hf (wpAny_mono h (fun v s' hv => ?_) fun _ _ e => e))
    cases v <;> first | exact hv.elim | exact wpAny_pure ⟨_, rfl, hv⟩
  unfold richCompare
  simp only [cmpInfo_Eq, h1]
  refine wpAny_holding (wpAny_bind (wpAny_cRoomFor hu ?_))
  refine wpAny_bind (wpAny_typeOf hy (wpAny_bind (I.type.here ?_)))
  rw [if_pos (show (Value.type T != Value.ref C) = true by simp)]
  refine wpAny_bind ((looks_subIn X hT).here ?_)
  simp only [Bool.false_eq_true, if_false, Bool.not_false, if_true]
  refine wpAny_bind (m := tryCompare y _ (.ref x)) (wpAny_mono one (fun r s1 z => ?_) fun _ _ e => e)
  obtain ⟨z1, z2⟩ := z
  subst z1
  subst z2
  refine wpAny_bind (m := tryCompare (.ref x) _ y) (wpAny_mono two (fun r s2 z => ?_) fun _ _ e => e)
  obtain ⟨v, rfl, hq⟩ := z
  exact wpAny_pure hq
/-- x in a tuple, item by item; the store may grow -/
theorem pi_tup_in {l : Addr} {items : Array Value} {n : Nat} {dd : Option Addr} {sl : Array (Option Value)} {v : Value} {R : Result → Shared → Prop} (I : Nat → Shared → Prop) (hl : s.heap.get? l = some { cls := .type "tuple", dict := dd, data := .seq items n, slots := sl })
    (turn : ∀ i (h1 : i < items.size) s, I i s → wpAny (model prog w) A.in1 (eqBool items[i] v) (fun r s' => if r = true then R (.ok (.ret (.bool true))) s' else I (i + 1) s') (fun e s' => R (.error e) s') s)
    (fin : ∀ s, I items.size s → R (.ok (.ret (.bool false))) s) (h : I 0 s) :
    wpAny (model prog w) A.in1 (Builtin.«tuple.__contains__» ⟨[.ref l, v], []⟩) (GQ.FinOf prog w A R) (fun e s' => R (.error e) s') s := by
  have h0 := h
  obtain ⟨hp, g, d, tk, os⟩ := s
  wp_walk using wpAny_loadPart' hl, wpAny_forIn_array _ (fun rest b s' => b.1 = none ∧ ∃ i, rest = items.toList.drop i ∧ i ≤ items.size ∧ I i s') _
  case turn =>
    rintro y rest b s' ⟨hb', i, hz, hi, hI⟩
    have hlt : i < items.toList.length := by
      rcases Nat.lt_or_ge i items.toList.length with h' | h'
      · exact h'
      · rw [List.drop_of_length_le h'] at hz; cases hz
    have h1 : i < items.size := by simpa using hlt
    rw [List.drop_eq_getElem_cons hlt] at hz
    injection hz with hy hrest
    have hy' : y = items[i] := by simpa using hy
    subst hy'
    refine wpAny_bind (wpAny_mono (turn i h1 s' hI) (fun r s2 q2 => ?_) fun _ _ x => x)
    cases r with
    | true =>
      rw [if_pos rfl] at q2
      wp_walk
      exact q2
    | false =>
      rw [if_neg Bool.false_ne_true] at q2
      wp_walk
      exact ⟨rfl, i + 1, hrest, h1, q2⟩
  case fin =>
    rintro ⟨b1, b2⟩ s' ⟨hb', i, hz, hi, hI⟩
    simp only at hb'
    subst hb'
    have hge : items.size ≤ i := by
      rcases Nat.lt_or_ge i items.size with h' | h'
      · have hlt : i < items.toList.length := by simpa using h'
        rw [List.drop_eq_getElem_cons hlt] at hz; cases hz
      · exact h'
    have hi' : i = items.size := by omega
    have hR := fin s' (hi' ▸ hI)
    wp_walk
    exact hR
  case h =>
    exact ⟨rfl, 0, rfl, Nat.zero_le _, h0⟩
end
end PySem.W
namespace Pi
open PySem PySem.Spec PyProof.Rows L2
theorem PostC.step {E : En} {ρ ρ1 : List Addr} {S S1 H H1 : Hp} {r : Pi.C} {Q : VK} {Z : XK} (st : Step ρ S noB H ρ1 S1 noB H1) (p : PostC E ρ S H r Q Z) : PostC E ρ1 S1 H1 r Q Z := by
  cases r with
  | ok d g => exact fun v ρ' S' H' st' => p v ρ' S' H' (st.trans st')
  | ex k fs g => exact fun ρ' S' H' x fv st' => p ρ' S' H' x fv (st.trans st')
  | no => exact p
section
variable {c : Cn} {X : Cx} {a b : Expr} {ta tb : T} {pos : Pos}
/-- a plain thing == an own instance -/
theorem eq_right (T : Eqs c X) (tk : Takes X c.W) {A : Around} (hK : X.K = c.E.K) (hgd : A.guards = some []) (hrm : ∀ j, Room (j + 2) X.A → Room (j + 1) A) (hf : A.frames = X.A.frames) {pins : List (Addr × Obj)} {s : Shared} {σ : L2.St} {H : Hp} {x y : V} {v u : Value} {Q : Bool → Hp → Prop} {ρ : List Addr} {S : Hp} {g : List MO} {d1 d2 : D}
    (I : L2.Inv X pins σ H s) (rx : RelV x v) (ry : RelV y u) (gr : Gr c.E ρ S g H) (r1 : Rep c.E S ρ x d1) (r2 : Rep c.E S ρ y d2) (hy : plainY d2 = true) (p : PostE c.E ρ S H (eqoC c.o d1 d2 g) Q) :
    wpAny (model X.prog X.w) A (eqBool u v) (fun k s' => ∃ H', L2.Inv X pins σ H' s' ∧ Q k H') X.xe s := by
  unfold eqoC at p
  split at p
  · rename_i k hk
    split at p
    · rename_i f hfk
      cases hok : okR c.o g k d2 with
      | false => rw [hok] at p; exact False.elim p
      | true =>
        rw [hok] at p
        obtain ⟨q, dx, fv, fs, rfl, h1, h2, h3⟩ := clsS_inv gr r1 hk
        cases rx
        obtain ⟨j, fa, fd, ps, G, _, hr, hm, ht, hb, _, hn1, hn2, hn3⟩ := T.ex k f h2.1 hfk
        obtain ⟨mA, O, _⟩ := ins_get I.hok h1
        obtain ⟨od, J, _⟩ := O.look
        have hsp : spI c.E 2 (c.o.call f) [.ref q, y] H (fun v H' => ∃ k, v = .bl k ∧ Q k H') (fun _ _ _ => False) := ⟨rfl, ρ, S, g, [d1, d2], gr, .cons r1 (.cons r2 .nil), p⟩
        have run : wpAny (model X.prog X.w) A (call (.ref fa) [.ref q, u]) (PySem.W.CmpBack fun z s' => ∃ k, z = .bool k ∧ ∃ H', L2.Inv X pins σ H' s' ∧ Q k H') X.xe s := by
          refine wpAny_mono (run_gA (A := A) (us := [.ref q, u]) (vs := [.ref q, y]) (Z := fun _ _ _ => False) G hgd ((hrm j hr).mono (Nat.le_succ _)) hf hb (passes_call tk fun _ _ _ _ z => z.elim) I (.cons rfl (.cons ry .nil)) hsp) (fun z s1 hz => ?_) fun _ _ z => z
          obtain ⟨w, H1, I1, rw', b, rfl, qq⟩ := hz
          cases rw'
          exact ⟨b, rfl, H1, I1, qq⟩
        have fin : ∀ {u : Value}, (u == Value.ref q) = false → wpAny (model X.prog X.w) A (richCompare .Eq u (.ref q)) (fun z s' => ∃ k, z = .bool k ∧ ∃ H', L2.Inv X pins σ H' s' ∧ Q k H') X.xe s →
            wpAny (model X.prog X.w) A (eqBool u (.ref q)) (fun k s' => ∃ H', L2.Inv X pins σ H' s' ∧ Q k H') X.xe s := fun {u} hne hrc => by
          unfold eqBool
          refine wpAny_holding ?_
          refine wpAny_ite_split (fun hab => absurd hab (by rw [hne]; exact Bool.false_ne_true)) (fun _ => ?_)
          dsimp only
          split
          · rename_i z; cases z
          refine wpAny_bind (wpAny_mono hrc (fun v s' hv => ?_) fun _ _ x => x)
          obtain ⟨k, rfl, hq⟩ := hv
          exact wpAny_truthy_bool hq
        cases d2 with
        | non =>
          cases r2
          cases (show u = Value.none from ry)
          exact fin rfl (PySem.W.pi_rc_right (T := "NoneType") (hrm j hr).units0 I.kIn J (show s.TypeIs .none "NoneType" from rfl) rfl F.slot_NoneType_eq_refl F.entry_NoneType_eq (F.args_NoneType_eq_2 _ _)
            (fun {A E Q} h => by unfold Builtin.«NoneType.__eq__»; obtain ⟨hp, g, d, tk, os⟩ := s; wp_walk; exact h) hn1 hm ht run)
        | str z =>
          cases r2
          obtain ⟨t, rfl⟩ := (show ∃ t, u = Value.str z t from ry)
          exact fin rfl (PySem.W.pi_rc_right (T := "str") (hrm j hr).units0 I.kIn J (show s.TypeIs (.str z t) "str" from rfl) rfl F.slot_str_eq F.entry_str_eq (F.args_str_eq_2 _ _)
            (fun {A E Q} h => PySem.W.pi_str_eq J.at_ h) hn2 hm ht run)
        | tup ds =>
          obtain ⟨l, vs, rfl, sq, rr⟩ := Opd.tup (s := ⟨[], g⟩) gr (.rep r2)
          cases ry
          obtain ⟨its, rv, ⟨o, e1, e2, n, e3⟩, hz⟩ := I.tuple (hK ▸ sq : SqT X.K H l vs)
          have ne : l ≠ q := fun z => by
            subst z
            rw [J.at_] at e1
            cases e1
            cases e2
          refine fin (by simpa using ne) (PySem.W.pi_rc_right (T := "tuple") (hrm j hr).units0 I.kIn J ⟨o, e1, e2⟩ (oneThing_ref ..) F.slot_tuple_eq F.entry_tuple_eq (F.args_tuple_eq_2 _ _)
            (fun {A E Q} h => PySem.W.pi_tup_eq (fun M => (J.type.andThen (PySem.W.looks_subIn I.kIn hn3))) h) hn3 hm ht run)
        | _ => cases hy
    · exact False.elim p
  · exact False.elim p
def rEqo (c : Cn) (neg : Bool) : R2 := fun x y H Q => ∃ ρ S g d1 d2, Gr c.E ρ S g H ∧ Rep c.E S ρ x d1 ∧ Rep c.E S ρ y d2 ∧ PostE c.E ρ S H (eqoC c.o d1 d2 g) fun k H' => Q (.bl (notB neg k)) H'
theorem opi_eqo (hK : X.K = c.E.K) (hgd : X.A.guards = some []) (tk : Takes X c.W) (T : Eqs c X) (hs : Subs c) : OpR X (compareOp .Eq) (rEqo c false) := by
  intro pins s σ H x y v u Q I rx ry h
  obtain ⟨ρ, S, g, d1, d2, gr, r1, r2, p⟩ := h
  show wpAny (model X.prog X.w) X.A (richCompare .Eq v u) (EP X pins σ Q) X.xe s
  refine wpAny_mono (eq_run T hs tk hK hgd (fun j h => h.mono (Nat.le_succ _)) rfl I rx ry gr r1 r2 p) (fun z s1 hz => ?_) fun _ _ z => z
  obtain ⟨k, rfl, H1, I1, q⟩ := hz
  exact ⟨.bl k, H1, I1, rfl, q⟩
theorem opi_neo (hK : X.K = c.E.K) (hgd : X.A.guards = some []) (tk : Takes X c.W) (T : Eqs c X) (hs : Subs c) : OpR X (compareOp .NotEq) (rEqo c true) := by
  intro pins s σ H x y v u Q I rx ry h
  obtain ⟨ρ, S, g, d1, d2, gr, r1, r2, p⟩ := h
  show wpAny (model X.prog X.w) X.A (richCompare .NotEq v u) (EP X pins σ Q) X.xe s
  unfold eqoC at p
  split at p
  · rename_i k hk
    split at p
    · rename_i f hfk
      cases hok : okR c.o g k d2 with
      | false => rw [hok] at p; exact False.elim p
      | true =>
        rw [hok] at p
        obtain ⟨q, dx, fv, fs, rfl, h1, h2, h3⟩ := clsS_inv gr r1 hk
        cases rx
        obtain ⟨j, fa, fd, ps, G, _, hr, hm, ht, hb, hne, _⟩ := T.ex k f h2.1 hfk
        obtain ⟨mA, O, _⟩ := ins_get I.hok h1
        obtain ⟨od, J, _⟩ := O.look
        obtain ⟨dy, hdy⟩ : ∃ dy, tyD g d2 = some dy := by
          unfold okR at hok
          cases q : tyD g d2 with
          | none => rw [q] at hok; cases hok
          | some dy => exact ⟨dy, rfl⟩
        obtain ⟨tv, q1, q2, q3⟩ := r2.ty gr hdy
        obtain ⟨P, KX, hP, _⟩ := L2.kit_of I ry (hK ▸ q2)
        have hn := okR_nf (W := c.W) (E := c.E) (o := c.o) hs h2.1 hok hdy q1 q3
        have hu : X.A.units + 1 < cLine := by have := hr.un; omega
        refine PySem.W.pi_rc_ne (tb := tv) hu I.kIn J (KX.ty _ _ I.kIn hP) (by rw [hK]; exact hn) hm ht hne (hK ▸ (c.E.cok k h2.1).2.2.2.2) ?_
        have hsp : spI c.E 2 (c.o.call f) [.ref q, y] H (fun v H' => ∃ k, v = .bl k ∧ Q (.bl (notB true k)) H') (fun _ _ _ => False) := ⟨rfl, ρ, S, g, [d1, d2], gr, .cons r1 (.cons r2 .nil), p⟩
        refine wpAny_mono (run_gA (A := X.A.in1) (us := [.ref q, u]) (vs := [.ref q, y]) (Z := fun _ _ _ => False) G hgd (hr.in1.mono (Nat.le_succ _)) rfl hb (passes_call tk fun _ _ _ _ z => z.elim) I (.cons rfl (.cons ry .nil)) hsp) (fun z s1 hz => ?_) fun _ _ z => z
        obtain ⟨w, H1, I1, rw', b, rfl, qq⟩ := hz
        cases rw'
        exact ⟨b, rfl, .bl (!b), H1, I1, rfl, qq⟩
    · exact False.elim p
  · exact False.elim p
theorem eqo_le {neg : Bool} {σ : L2.St} {H : Hp} {Q : VK} (h : tI c.E c.W (ev c.o (.eqo neg ta tb)) σ H Q) : tOp (rEqo c neg) (tI c.E c.W (ev c.o ta)) (tI c.E c.W (ev c.o tb)) σ H Q := by
  obtain ⟨ρ, S, s, w, p⟩ := h
  refine ⟨ρ, S, s, w, (Post.bind p).imp ?_⟩
  rintro x H1 ⟨ρ1, S1, s1, d1, a1, r1, p1⟩
  refine ⟨ρ1, S1, s1, a1.wd, (Post.bind p1).imp ?_⟩
  rintro y H2 ⟨ρ2, S2, s2, d2, a2, r2, p2⟩
  refine ⟨ρ2, S2, s2.g, d1, d2, a2.wd.gr, r1.mono a2.inc, r2, ?_⟩
  have p3 : Post c.E c.W σ ρ2 S2 s2.l H2 (eqoS c.o neg d1 d2 s2) Q := p2
  unfold eqoS at p3
  cases hc : eqoC c.o d1 d2 s2.g with
  | ok z g =>
    rw [hc] at p3
    cases z <;> first
      | (exact (show False from p3).elim)
      | skip
    intro v ρ' S' H' st gr rp
    obtain ⟨w3, st3⟩ := lift st a2.wd gr
    exact ⟨_, bl_of rp, p3 _ ρ' S' H' st3 w3 (.bl _)⟩
  | ex _ _ _ => rw [hc] at p3; exact (show False from p3).elim
  | no => rw [hc] at p3; exact (show False from p3).elim
theorem pi_eqo {neg : Bool} {op : CmpOp} (ho : OpR X (compareOp op) (rEqo c neg)) (ha : PEI c X a ta) (hb : PEI c X b tb) (hm : behindInMarks op b = false) : PEI c X (.Compare a [op] [b] pos) (.eqo neg ta tb) :=
  pe_le (pe_cmpR ho ha hb hm) fun _ _ _ => eqo_le
theorem pit_eqo {neg : Bool} {op : CmpOp} (ho : OpR X (compareOp op) (rEqo c neg)) (ha : PEI c X a ta) (hb : PEI c X b tb) (hm : behindInMarks op b = false) : PTI c X (.Compare a [op] [b] pos) (.eqo neg ta tb) :=
  pt_le (pt_cmpR ho ha hb hm) fun _ _ _ => eqo_le
/-! x in (a, b, ..) -/
def rInq (c : Cn) (neg : Bool) : R2 := fun x y H Q => ∃ ρ S g d1 ds, Gr c.E ρ S g H ∧ Rep c.E S ρ x d1 ∧ Rep c.E S ρ y (.tup ds) ∧ PostE c.E ρ S H (inqC c.o d1 ds g) fun k H' => Q (.bl (notB neg k)) H'
theorem inq_run (hK : X.K = c.E.K) (hgd : X.A.guards = some []) (tk : Takes X c.W) (T : Eqs c X) {neg : Bool} {pins : List (Addr × Obj)} {s : Shared} {σ : L2.St} {H : Hp} {x y : V} {v u : Value} {Q : VK} (I : L2.Inv X pins σ H s) (rx : RelV x v) (ry : RelV y u) (h : rInq c neg x y H Q) :
    ∃ (l : Addr) (items : Array Value) (n : Nat) (dd : Option Addr) (sl : Array (Option Value)), u = .ref l ∧ s.heap.get? l = some { cls := .type "tuple", dict := dd, data := .seq items n, slots := sl } ∧
      ∀ R : Result → Shared → Prop, (∀ k s', (∃ H', L2.Inv X pins σ H' s' ∧ Q (.bl (notB neg k)) H') → R (.ok (.ret (.bool k))) s') → (∀ e s', X.xe e s' → R (.error e) s') →
        wpAny (model X.prog X.w) X.A.in1 (Builtin.«tuple.__contains__» ⟨[.ref l, v], []⟩) (GQ.FinOf X.prog X.w X.A R) (fun e s' => R (.error e) s') s := by
  obtain ⟨ρ, S, g, d1, ds, gr, r1, r2, p⟩ := h
  obtain ⟨l, vs, rfl, sq, rr⟩ := Opd.tup (s := ⟨[], g⟩) gr (.rep r2)
  cases ry
  obtain ⟨its, rv, ⟨o, e1, e2, n, e3⟩, hz⟩ := I.tuple (hK ▸ sq : SqT X.K H l vs)
  obtain ⟨cl, dd, da, sl⟩ := o
  simp only at e2 e3
  subst e2 e3
  refine ⟨l, its.toArray, n, dd, sl, rfl, e1, fun R hR hX => ?_⟩
  obtain ⟨Tt, hT⟩ : ∃ Tt, inqC c.o d1 ds g = Tt := ⟨_, rfl⟩
  rw [hT] at p
  have lv := rv.length
  have lr := rr.len
  refine PySem.W.pi_tup_in (fun i s' => ∃ H' ρ' S' g', L2.Inv X pins σ H' s' ∧ Step ρ S noB H ρ' S' noB H' ∧ Gr c.E ρ' S' g' H' ∧ inqC c.o d1 (ds.drop i) g' = Tt) e1 ?_ ?_ ⟨H, ρ, S, g, I, Step.refl, gr, by rw [List.drop_zero]; exact hT⟩
  · rintro i h1 s1 ⟨H1, ρ1, S1, g1, I1, st1, gr1, eT⟩
    have hi : i < ds.length := by rw [List.size_toArray] at h1; omega
    have hi2 : i < vs.length := by omega
    obtain ⟨yv, hy1, hy2⟩ : ∃ yv, vs[i]? = some yv ∧ Rep c.E S ρ yv ds[i] := rr.get (List.getElem?_eq_getElem hi)
    obtain ⟨w, hw1, hw2⟩ := rv.get hy1
    have hwi : its.toArray[i] = w := by
      have : its[i]? = some w := hw1
      simpa using (List.getElem?_eq_some_iff.mp this).2
    rw [hwi]
    rw [List.drop_eq_getElem_cons hi] at eT
    have p1 := PostC.step st1 p
    have eT' : (bif plainY ds[i] then (match eqoC c.o d1 ds[i] g1 with
      | .ok (.bl true) g => Pi.C.ok (.bl true) g
      | .ok (.bl false) g => inqC c.o d1 (ds.drop (i + 1)) g
      | _ => .no) else .no) = Tt := eT
    cases hp : plainY ds[i] with
    | false =>
      rw [hp] at eT'
      rw [← eT'] at p1
      exact False.elim p1
    | true =>
      rw [hp] at eT'
      simp only [cond_true] at eT'
      refine wpAny_mono (eq_right (Q := fun k H2 => ∃ ρ2 S2 g2, Step ρ S noB H ρ2 S2 noB H2 ∧ Gr c.E ρ2 S2 g2 H2 ∧ (k = true → ∃ k', V.bl true = .bl k' ∧ Q (.bl (notB neg k')) H2) ∧ (k = false → inqC c.o d1 (ds.drop (i + 1)) g2 = Tt)) T tk (A := X.A.in1) hK hgd (fun j h => h.in1) rfl I1 rx hw2 gr1 (r1.mono st1.inc) (hy2.mono st1.inc) hp ?_) (fun k s2 hk => ?_) fun _ _ z => hX _ _ z
      · cases hc : eqoC c.o d1 ds[i] g1 with
        | ok z g2 =>
          rw [hc] at eT'
          cases z <;> first
            | (rw [← show Pi.C.no = Tt from eT'] at p1; exact False.elim p1)
            | skip
          rename_i k
          intro v2 ρ2 S2 H2 st2 gr2 rp
          refine ⟨k, bl_of rp, ρ2, S2, g2, st1.trans st2, gr2, fun hk => ?_, fun hk => ?_⟩
          · subst hk
            rw [← show Pi.C.ok (.bl true) g2 = Tt from eT'] at p1
            exact p1 _ ρ2 S2 H2 st2 gr2 (.bl true)
          · subst hk
            exact eT'
        | ex _ _ _ =>
          rw [hc] at eT'
          rw [← show Pi.C.no = Tt from eT'] at p1
          exact False.elim p1
        | no =>
          rw [hc] at eT'
          rw [← show Pi.C.no = Tt from eT'] at p1
          exact False.elim p1
      · obtain ⟨H2, I2, ρ2, S2, g2, st2, gr2, q1, q2⟩ := hk
        cases k with
        | true =>
          rw [if_pos rfl]
          obtain ⟨k', ek, q⟩ := q1 rfl
          cases ek
          exact hR true s2 ⟨H2, I2, q⟩
        | false =>
          rw [if_neg Bool.false_ne_true]
          exact ⟨H2, ρ2, S2, g2, I2, st2, gr2, q2 rfl⟩
  · rintro s1 ⟨H1, ρ1, S1, g1, I1, st1, gr1, eT⟩
    have hd : ds.drop its.toArray.size = [] := List.drop_eq_nil_of_le (by rw [List.size_toArray]; omega)
    rw [hd] at eT
    have p1 := PostC.step st1 p
    rw [← show Pi.C.ok (.bl false) g1 = Tt from eT] at p1
    obtain ⟨k', ek, q⟩ := p1 (.bl false) ρ1 S1 H1 Step.refl gr1 (.bl false)
    cases ek
    exact hR false s1 ⟨H1, I1, q⟩
theorem opi_inq (hK : X.K = c.E.K) (hgd : X.A.guards = some []) (tk : Takes X c.W) (T : Eqs c X) : OpR X (compareOp .In) (rInq c false) := by
  intro pins s σ H x y v u Q I rx ry h
  obtain ⟨l, items, n, dd, sl, rfl, e1, run⟩ := inq_run hK hgd tk T I rx ry h
  show wpAny _ _ (do let b ← contains (.ref l) v; return Value.bool b) _ _ s
  refine wpAny_bind (wpAny_contains_slot ⟨_, e1, rfl⟩ F.slot_tuple_contains (GQ.call_here F.slot_tuple_contains ⟨_, e1, rfl⟩ F.entry_tuple_contains (F.args_tuple_contains_2 _ _) (run _ (fun k s' hk => ?_) fun e s' z => z)))
  obtain ⟨H1, I1, q⟩ := hk
  exact wpAny_truthy_bool (wpAny_pure ⟨.bl k, H1, I1, rfl, q⟩)
theorem opi_ninq (hK : X.K = c.E.K) (hgd : X.A.guards = some []) (tk : Takes X c.W) (T : Eqs c X) : OpR X (compareOp .NotIn) (rInq c true) := by
  intro pins s σ H x y v u Q I rx ry h
  obtain ⟨l, items, n, dd, sl, rfl, e1, run⟩ := inq_run hK hgd tk T I rx ry h
  show wpAny _ _ (do let b ← contains (.ref l) v; return Value.bool (!b)) _ _ s
  refine wpAny_bind (wpAny_contains_slot ⟨_, e1, rfl⟩ F.slot_tuple_contains (GQ.call_here F.slot_tuple_contains ⟨_, e1, rfl⟩ F.entry_tuple_contains (F.args_tuple_contains_2 _ _) (run _ (fun k s' hk => ?_) fun e s' z => z)))
  obtain ⟨H1, I1, q⟩ := hk
  exact wpAny_truthy_bool (wpAny_pure ⟨.bl (!k), H1, I1, rfl, q⟩)
theorem inq_le {neg : Bool} {σ : L2.St} {H : Hp} {Q : VK} (h : tI c.E c.W (ev c.o (.inq neg ta tb)) σ H Q) : tOp (rInq c neg) (tI c.E c.W (ev c.o ta)) (tI c.E c.W (ev c.o tb)) σ H Q := by
  obtain ⟨ρ, S, s, w, p⟩ := h
  refine ⟨ρ, S, s, w, (Post.bind p).imp ?_⟩
  rintro x H1 ⟨ρ1, S1, s1, d1, a1, r1, p1⟩
  refine ⟨ρ1, S1, s1, a1.wd, (Post.bind p1).imp ?_⟩
  rintro y H2 ⟨ρ2, S2, s2, d2, a2, r2, p2⟩
  cases d2 with
  | tup ds =>
    refine ⟨ρ2, S2, s2.g, d1, ds, a2.wd.gr, r1.mono a2.inc, r2, ?_⟩
    have p3 : Post c.E c.W σ ρ2 S2 s2.l H2 (inqS c.o neg d1 s2.l ds s2.g) Q := p2
    unfold inqS at p3
    cases hc : inqC c.o d1 ds s2.g with
    | ok z g =>
      rw [hc] at p3
      cases z <;> first
        | (exact (show False from p3).elim)
        | skip
      intro v ρ' S' H' st gr rp
      obtain ⟨w3, st3⟩ := lift st a2.wd gr
      exact ⟨_, bl_of rp, p3 _ ρ' S' H' st3 w3 (.bl _)⟩
    | ex _ _ _ => rw [hc] at p3; exact (show False from p3).elim
    | no => rw [hc] at p3; exact (show False from p3).elim
  | _ => exact (show False from p2).elim
theorem pi_inq {neg : Bool} {op : CmpOp} (ho : OpR X (compareOp op) (rInq c neg)) (ha : PEI c X a ta) (hb : PEI c X b tb) (hm : behindInMarks op b = false) : PEI c X (.Compare a [op] [b] pos) (.inq neg ta tb) :=
  pe_le (pe_cmpR ho ha hb hm) fun _ _ _ => inq_le
theorem pit_inq {neg : Bool} {op : CmpOp} (ho : OpR X (compareOp op) (rInq c neg)) (ha : PEI c X a ta) (hb : PEI c X b tb) (hm : behindInMarks op b = false) : PTI c X (.Compare a [op] [b] pos) (.inq neg ta tb) :=
  pt_le (pt_cmpR ho ha hb hm) fun _ _ _ => inq_le
end
end Pi
/-! lists that the frame owns: compared, popped, made two at a time -/
namespace Pi
open PySem L2
section
variable {c : Cn} {X : Cx} {e a b : Expr} {ta tb te : T} {pos : Pos}
theorem opo_le {k : Op} {i : Nat} {σ : L2.St} {H : Hp} {Q : VK} (h : tI c.E c.W (ev c.o (.opo k i tb)) σ H Q) : tOp (rOp c.E k) (tVar i) (tI c.E c.W (ev c.o tb)) σ H Q := by
  obtain ⟨ρ, S, s, w, p⟩ := h
  obtain ⟨ho, p⟩ := Post.bif (show Post c.E c.W σ ρ S s.l H (bif isOwn s.l i then _ else .no) Q from p)
  obtain ⟨ds0, h0⟩ := isOwn_inv ho
  obtain ⟨q, vs0, q1, q2, q3, q4, q5⟩ := w.sl.own i ds0 h0
  refine ⟨.ref q, q1, ρ, S, s, w, (Post.bind p).imp ?_⟩
  rintro y H2 ⟨ρ2, S2, s2, d2, a2, r2, p2⟩
  split at p2
  · rename_i ds h1
    obtain ⟨q', vs, z1, z2, z3, z4, z5⟩ := a2.wd.sl.own i ds h1
    rw [q1] at z1
    cases z1
    obtain ⟨z, e, p3⟩ := Post.of p2
    exact ⟨ρ2, S2, s2.g, .lst ds, _, z, a2.wd.gr, .cell z2 z3, Opd.view (s := s2) a2.wd.gr r2, e, Post.give a2.wd p3⟩
  · exact p2.elim
theorem pi_opo {k : Op} {i : Nat} {x : Str} {p' : Pos} {op : CmpOp} (ho : OpR X (compareOp op) (rOp c.E k)) (hb : PEI c X b tb) (hm : behindInMarks op b = false) (hN : X.N[i]? = some x := by rfl) (hv : Vis X.env.scope x := by first | exact Or.inl rfl | exact Or.inr (Or.inl rfl) | exact Or.inr (Or.inr rfl))
    (hd : (x == ("__debug__" : Str)) = false := by decide) (hcd : (x == ("__classdict__" : Str)) = false := by decide) : PEI c X (.Compare (.Name x p') [op] [b] pos) (.opo k i tb) :=
  pe_le (pe_cmpR ho (pe_var hN hv hd hcd) hb hm) fun _ _ _ => opo_le
theorem pit_opo {k : Op} {i : Nat} {x : Str} {p' : Pos} {op : CmpOp} (ho : OpR X (compareOp op) (rOp c.E k)) (hb : PEI c X b tb) (hm : behindInMarks op b = false) (hN : X.N[i]? = some x := by rfl) (hv : Vis X.env.scope x := by first | exact Or.inl rfl | exact Or.inr (Or.inl rfl) | exact Or.inr (Or.inr rfl))
    (hd : (x == ("__debug__" : Str)) = false := by decide) (hcd : (x == ("__classdict__" : Str)) = false := by decide) : PTI c X (.Compare (.Name x p') [op] [b] pos) (.opo k i tb) :=
  pt_le (pt_cmpR ho (pe_var hN hv hd hcd) hb hm) fun _ _ _ => opo_le
/-- x.pop(e) of an own list -/
theorem pi_popo {i : Nat} {x : Str} {p' ap cp : Pos} (hK : X.K = c.E.K) (he : PEI c X e te) (hN : X.N[i]? = some x := by rfl) (hv : Vis X.env.scope x := by first | exact Or.inl rfl | exact Or.inr (Or.inl rfl) | exact Or.inr (Or.inr rfl))
    (hbase : attributeBase (.Name x p') "pop" X.env (eval (.Name x p') X.env) = eval (.Name x p') X.env := by rfl)
    (hfew : ((backTo cp (starEach [e] X.env)).all (fun x => !x.1) && (backToKw cp (keywordEach [] X.env)).all (fun x => x.1.isSome) && decide ([e].length + ([] : List Keyword).length + (if ([] : List Keyword).isEmpty then 0 else 1) < 30)) = true := by rfl)
    (hline : (ap.endLine == cp.line) = true := by rfl) (hs : starEach [e] X.env = (false, eval e X.env) :: starEach [] X.env := by rfl) (hplain : (backTo cp (starEach [] X.env)).any (·.1) = false := by rfl)
    (hd : (x == ("__debug__" : Str)) = false := by decide) (hcd : (x == ("__classdict__" : Str)) = false := by decide) : PEI c X (.Call (.Attribute (.Name x p') "pop" ap) [e] [] cp) (.popo i te) := by
  refine pe_le (pe_bm PySem.F.plainAttrs_list PySem.F.slot_list_pop PySem.F.type_list_pop mt_popAt (pe_var hN hv hd hcd) (pa_cons he pa_nil hs) hbase hfew hline hs hplain) fun σ H Q h => ?_
  obtain ⟨ρ, S, s, w, p⟩ := h
  obtain ⟨ho, p⟩ := Post.bif (show Post c.E c.W σ ρ S s.l H (bif isOwn s.l i then _ else .no) Q from p)
  obtain ⟨ds0, h0⟩ := isOwn_inv ho
  obtain ⟨q, vs0, q1, q2, q3, q4, q5⟩ := w.sl.own i ds0 h0
  refine ⟨.ref q, q1, .inl ⟨rfl, vs0, SqL.of q2⟩, ρ, S, s, w, (Post.bind p).imp ?_⟩
  rintro y H1 ⟨ρ1, S1, s1, d1, a1, r1, p1⟩
  split at p1
  · rename_i ds k h1
    obtain ⟨hb, p2⟩ := Post.bif p1
    simp only [Bool.and_eq_true, decide_eq_true_eq] at hb
    obtain ⟨⟨k0, k1⟩, k2⟩ := hb
    split at p2
    · rename_i d hdk
      obtain ⟨q', vs, z1, z2, z3, z4, z5⟩ := a1.wd.sl.own i ds h1
      rw [q1] at z1
      cases z1
      cases r1
      have lv := z3.len
      obtain ⟨u, hu, ru⟩ := z3.get hdk
      obtain ⟨w2, st2⟩ := a1.wd.regrow h1 q1 (z3.eraseIdx k.toNat)
      refine ⟨q, vs, k, k.toNat, u, rfl, rfl, z2, by omega, by unfold big at k2; omega, ?_, hu, p2 u ρ1 S1 _ st2 w2 (ru.mono (Inc.refl _ _))⟩
      unfold seqIndex?
      have a1 : (0 : Int) ≤ k := k0
      have a2 : k < (vs.length : Int) := by omega
      have n : ¬ k < 0 := by omega
      simp [n, a1, a2]
    · exact p2.elim
  · exact p1.elim
/-! ### what a slot is given -/
def PostP (E : En) (W : WX) (σ : L2.St) (ρ : List Addr) (S : Hp) (l : List SV) (H : Hp) (r : R SV) (Q : VK) : Prop := match r with
  | .ok (.v d) s' => ∀ v ρ' S' H', Step ρ S (Ow σ l) H ρ' S' (Ow σ s'.l) H' → Wd E ρ' S' s' σ H' → Rep E S' ρ' v d → Q v H'
  | .ok (.own ds) s' => ∀ p vs ρ' S' H', Step ρ S (Ow σ l) H ρ' S' (Ow σ s'.l) H' → Wd E ρ' S' s' σ H' → Reps E S' ρ' vs ds → H' p = some (.lst vs) → S' p = none → p ∉ ρ' → ¬ Ow σ s'.l p → H p = none → Q (.ref p) H'
  | .ok _ _ => False
  | .ex c fs s' => ∀ ρ' S' H' x fv, Step ρ S (Ow σ l) H ρ' S' (Ow σ s'.l) H' → Wd E ρ' S' s' σ H' → S' x = some (.xd fv) → RepF E S' ρ' fv fs → W (.ref (E.cl c)) (some x) σ H'
  | .no => False
def tP (E : En) (W : WX) (m : Pi.S → R SV) : TE := fun σ H Q => ∃ ρ S s, Wd E ρ S s σ H ∧ PostP E W σ ρ S s.l H (m s) Q
abbrev PPI (c : Cn) (X : Cx) (own : Bool) (e : Expr) (t : T) : Prop := PE X e (tP c.E c.W (evP c.o own t))
theorem ppi_v (h : PEI c X e te) : PPI c X false e te := pe_le h fun σ H Q h => by
  obtain ⟨ρ, S, s, w, p⟩ := h
  refine ⟨ρ, S, s, w, ?_⟩
  unfold evP at p
  cases q : ev c.o te s with
  | ok d s' => rw [q] at p; exact p
  | ex _ _ _ => rw [q] at p; exact p
  | no => rw [q] at p; exact p
theorem not_Ow_new {σ : L2.St} {ρ : List Addr} {S H : Hp} {s : Pi.S} (w : Wd c.E ρ S s σ H) {q : Addr} (hq : H q = none) : ¬ Ow σ s.l q := fun ⟨j, h1, h2⟩ => by
  rcases h2 with ⟨es, h2⟩ | ⟨k, fs, h2⟩
  · obtain ⟨a', vs', z1, z2, _⟩ := w.sl.own j es h2
    rw [h1] at z1; cases z1; rw [hq] at z2; cases z2
  · obtain ⟨a', dx, fv, z1, z2, _⟩ := w.sl.ob j k fs h2
    rw [h1] at z1; cases z1; rw [hq] at z2; cases z2
/-- a new list at q -/
theorem new_own {σ : L2.St} {ρ : List Addr} {S H : Hp} {s : Pi.S} (w : Wd c.E ρ S s σ H) {q : Addr} {vs : List V} (hq : H q = none) :
    Wd c.E ρ S s σ (upd H q (.lst vs)) ∧ Step ρ S (Ow σ s.l) H ρ S (Ow σ s.l) (upd H q (.lst vs)) := by
  obtain ⟨f1, f2⟩ := w.gr.fresh hq
  refine ⟨⟨w.gr.at f1 f2, w.sl.keep (Inc.refl _ _) (fun a _ u z => by rw [upd_ne (ne_of_none z hq)]; exact z) (fun _ _ _ z => z) fun _ _ _ z => z⟩, Inc.refl _ _, fun _ z => .inl z, fun _ _ z => .inl z, fun _ z => .inl z, fun a u z _ _ => by rw [upd_ne (ne_of_none z hq)]; exact z, fun a z => ?_, fun _ z => z⟩
  by_cases y : a = q
  · subst y; exact hq
  · rw [upd_ne y] at z; exact z
/-- [a, b, ..] -/
theorem ppi_lst {es : List Expr} {lp : Pos} (h : PAI c X es te) : PPI c X true (.List es lp) (.lst te) := pe_le (pe_lst h) fun σ H Q h => by
  obtain ⟨ρ, S, s, w, p⟩ := h
  refine ⟨ρ, S, s, w, ?_⟩
  have p' : PostP c.E c.W σ ρ S s.l H ((ev c.o (.lst te) s).bind (slotK true)) Q := p
  rw [ev_lst] at p'
  cases q : evA c.o te s with
  | no => rw [q] at p'; exact p'.elim
  | ex k fs s' => rw [q] at p'; exact p'
  | ok ds s' =>
    rw [q] at p'
    intro vs ρ1 S1 H1 st1 w1 r1
    cases hb : decide (ds.length ≤ big) with
    | false =>
      simp only [R.bind, hb, cond_false, slotK] at p'
      exact False.elim p'
    | true =>
      simp only [R.bind, hb, cond_true, slotK] at p'
      refine ⟨by rw [r1.len]; exact le_line (of_decide_eq_true hb), fun q hq => ?_⟩
      obtain ⟨f1, f2⟩ := w1.gr.fresh hq
      obtain ⟨w2, st2⟩ := new_own w1 (vs := vs) hq
      exact p' q vs ρ1 S1 _ (st1.trans st2) w2 r1 upd_same f1 f2 (not_Ow_new w1 hq) (st1.dom q hq)
/-- list(x) -/
theorem ppi_list {x : Str} {p : Pos} (hx : x = "list") (hK : X.K = c.E.K) (hg : Gl X x) (hm : X.mg x = none) (ha : PAI c X [e] ta) (hn : x ≠ "__name__" := by decide) (hdb : (x == ("__debug__" : Str)) = false := by decide)
    (he : starEach (e :: []) X.env = (false, eval e X.env) :: starEach [] X.env := by rfl) (hpl : (backTo pos (starEach [] X.env)).any (·.1) = false := by rfl) (hv : bootBuiltins x = some (.type "list")) : PPI c X true (.Call (.Name x p) [e] [] pos) (.bi .list ta) := by
  refine pe_le (pe_callTy call_list_of hg hm hv ha hn hdb he hpl) fun σ H Q h => ?_
  obtain ⟨ρ, S, s, w, p⟩ := h
  refine ⟨ρ, S, s, w, ?_⟩
  have p' : PostP c.E c.W σ ρ S s.l H ((ev c.o (.bi .list ta) s).bind (slotK true)) Q := p
  rw [ev_bi] at p'
  cases q : evA c.o ta s with
  | no => rw [q] at p'; exact p'.elim
  | ex k fs s' => rw [q] at p'; exact p'
  | ok ds s' =>
    rw [q] at p'
    intro vs ρ1 S1 H1 st1 w1 r1
    simp only [R.bind] at p'
    cases hz : biS s'.g .list ds with
    | none => rw [hz] at p'; exact False.elim p'
    | some z =>
      rw [hz] at p'
      obtain ⟨v, d, rfl, ho, e1⟩ := arg1_inv (Opds.view (s := s') w1.gr r1) (show arg1 (fun d => (seqD d).map D.lst) (ds.map (view s'.g)) = some z from hz)
      obtain ⟨es, e2, rfl⟩ := map_inv e1
      simp only [R.of, R.bind, slotK] at p'
      cases hb : decide (es.length ≤ big) with
      | false => rw [hb] at p'; exact False.elim p'
      | true =>
        rw [hb] at p'
        simp only [cond_true] at p'
        obtain ⟨a, us, rfl, rr, sq⟩ := seqD_inv w1.gr ho e2
        refine ⟨a, us, rfl, ?_, fun l hl => ?_⟩
        · rcases sq with ⟨sq, _⟩ | ⟨sq, _⟩
          · exact .inl (hK ▸ sq)
          · exact .inr (hK ▸ sq)
        · obtain ⟨f1, f2⟩ := w1.gr.fresh hl
          obtain ⟨w2, st2⟩ := new_own w1 (vs := us) hl
          exact p' l us ρ1 S1 _ (st1.trans st2) w2 rr upd_same f1 f2 (not_Ow_new w1 hl) (st1.dom l hl)
end
end Pi
/-! a, b = x, y where lists are new and will grow; x = list(..) that will grow -/
namespace Pi
open PySem L2
/-- a value that waits for its slot -/
def Hold (E : En) (ρ : List Addr) (S H : Hp) (B : Addr → Prop) (v : V) : SV → Prop
  | .v d => Rep E S ρ v d
  | .own ds => ∃ p vs, v = .ref p ∧ H p = some (.lst vs) ∧ Reps E S ρ vs ds ∧ S p = none ∧ p ∉ ρ ∧ ¬ B p
  | _ => False
theorem Hold.step {E : En} {ρ ρ1 : List Addr} {S S1 H H1 : Hp} {B B1 : Bs} {v : V} {x : SV} (h : Hold E ρ S H B v x) (st : Step ρ S B H ρ1 S1 B1 H1) : Hold E ρ1 S1 H1 B1 v x := by
  cases x with
  | v d => exact Rep.mono st.inc h
  | own ds =>
    obtain ⟨p, vs, e, hp, r, sp, np, nb⟩ := h
    refine ⟨p, vs, e, st.fr p _ hp np nb, r.mono st.inc, ?_, fun z => ?_, fun z => ?_⟩
    · cases q : S1 p with
      | none => rfl
      | some o =>
        rcases st.nS p o q with z | z | z
        · rw [sp] at z; cases z
        · rw [hp] at z; cases z
        · exact absurd z nb
    · rcases st.nρ p z with z | z
      · exact np z
      · rw [hp] at z; cases z
    · rcases st.nB p z with z | z
      · exact nb z
      · rw [hp] at z; cases z
  | un => exact h
  | ob _ _ => exact h
section
variable {E : En} {W : WX} {σ : St} {ρ : List Addr} {S H : Hp} {s : Pi.S} {l : List SV}
theorem Hold.set {v : V} {x : SV} {i : Nat} (w : Wd E ρ S s σ H) (h : Hold E ρ S H (Ow σ s.l) v x) (hi : i < σ.length) :
    Wd E ρ S ⟨s.l.set i x, s.g⟩ (σ.set i (some v)) H ∧ (∀ a, Ow (σ.set i (some v)) (s.l.set i x) a → Ow σ s.l a ∨ ∃ ds, x = .own ds ∧ v = .ref a) ∧ (∀ a, ObP (σ.set i (some v)) (s.l.set i x) a → ObP σ s.l a) := by
  cases x with
  | v d => exact ⟨⟨w.gr, w.sl.set h⟩, fun a z => .inl (Ow_set w.sl.len z), fun a z => Ob_set w.sl.len z⟩
  | own ds =>
    obtain ⟨p, vs, rfl, hp, r, sp, np, nb⟩ := h
    refine ⟨w.own hp sp np r hi fun j hj h1 h2 => nb ⟨j, h1, h2⟩, fun a z => ?_, fun a z => Ob_own z⟩
    rcases Ow_own w.sl.len z with z | z
    · exact .inl z
    · subst z; exact .inr ⟨ds, rfl, rfl⟩
  | un => exact h.elim
  | ob _ _ => exact h.elim
theorem PostP.hold {r : R SV} {Q : VK} (h : ∀ x s' v ρ' S' H', r = .ok x s' → Step ρ S (Ow σ l) H ρ' S' (Ow σ s'.l) H' → Wd E ρ' S' s' σ H' → Hold E ρ' S' H' (Ow σ s'.l) v x → (∀ ds a, x = .own ds → v = .ref a → H a = none) → Q v H')
    (hx : ∀ c fs s', r = .ex c fs s' → ∀ ρ' S' H' x fv, Step ρ S (Ow σ l) H ρ' S' (Ow σ s'.l) H' → Wd E ρ' S' s' σ H' → S' x = some (.xd fv) → RepF E S' ρ' fv fs → W (.ref (E.cl c)) (some x) σ H') (hn : r ≠ .no) (hv : ∀ x s', r = .ok x s' → (∃ d, x = .v d) ∨ ∃ ds, x = .own ds) : PostP E W σ ρ S l H r Q := by
  cases r with
  | ok x s' =>
    rcases hv x s' rfl with ⟨d, rfl⟩ | ⟨ds, rfl⟩
    · exact fun v ρ' S' H' st w rp => h _ _ v ρ' S' H' rfl st w rp fun _ _ z => nomatch z
    · exact fun p vs ρ' S' H' st w rr hp sp np nb hf => h _ _ _ ρ' S' H' rfl st w ⟨p, vs, rfl, hp, rr, sp, np, nb⟩ fun _ _ _ z => by cases z; exact hf
  | ex c fs s' => exact hx c fs s' rfl
  | no => exact absurd rfl hn
theorem evP_v {o : O} {p : Bool} {t : T} {s s' : Pi.S} {x : SV} (h : evP o p t s = .ok x s') : (∃ d, x = .v d) ∨ ∃ ds, x = .own ds := by
  unfold evP at h
  cases q : ev o t s with
  | ex _ _ _ => rw [q] at h; cases h
  | no => rw [q] at h; cases h
  | ok d s1 =>
    rw [q] at h
    have h' : slotK p d s1 = .ok x s' := h
    unfold slotK at h'
    split at h'
    · rename_i ds
      cases hb : decide (ds.length ≤ big) with
      | true => rw [hb] at h'; cases h'; exact .inr ⟨_, rfl⟩
      | false => rw [hb] at h'; cases h'
    · cases h'
    · cases h'; exact .inl ⟨_, rfl⟩
end
section
variable {c : Cn} {X : Cx} {a b e : Expr} {ta tb te : T} {pos : Pos}
theorem psi_par2 {i j : Nat} {p q : Bool} {x y : Str} {px py pt : Pos} {kt k2 pt2} (hc : X.calm = true) (hN : X.N.Nodup) (hi : X.N[i]? = some x) (hj : X.N[j]? = some y) (hij : i ≠ j)
    (hx : X.env.scope.names.lookup x = some .local) (hy : X.env.scope.names.lookup y = some .local) (ha : PPI c X p a ta) (hb : PPI c X q b tb)
    (hw : swappedStores [.Tuple [.Name x px, .Name y py] kt pt] (.Tuple [a, b] k2 pt2) X.env = pure (some [x, y])) (hs : swapsWithSole [.Tuple [.Name x px, .Name y py] kt pt] (.Tuple [a, b] k2 pt2) pos.line X.env = pure false := by rfl)
    (h1 : starEach (a :: [b]) X.env = (false, eval a X.env) :: starEach [b] X.env := by rfl) (h2 : starEach (b :: []) X.env = (false, eval b X.env) :: starEach [] X.env := by rfl) :
    PSI c X (.Assign [.Tuple [.Name x px, .Name y py] kt pt] (.Tuple [a, b] k2 pt2) pos) (.par2 i p ta j q tb) :=
  ⟨fun pins s0 σ H D I hh => by
    have li : i < σ.length := by rw [I.len]; exact (List.getElem?_eq_some_iff.mp hi).1
    have lj : j < σ.length := by rw [I.len]; exact (List.getElem?_eq_some_iff.mp hj).1
    refine (ps_par hc hN hi hj hij hx hy (pa_cons ha (pa_cons hb pa_nil h2) h1) hw hs).run pins s0 σ H D I ?_
    obtain ⟨ρ, S, s, w, p0⟩ := hh
    have p1 : PostS c.E c.W σ ρ S s.l H ((evP c.o p ta s).bind fun x s => (evP c.o q tb s).bind fun y s => .ok .nx ⟨(s.l.set i x).set j y, s.g⟩) D := p0
    refine ⟨ρ, S, s, w, PostP.hold (fun x s1 v ρ1 S1 H1 e1 st1 w1 hd1 nw1 => ?_) (fun k fs s1 e1 => ?_) (fun e1 => ?_) fun _ _ z => evP_v z⟩
    · rw [e1] at p1
      have p2 : PostS c.E c.W σ ρ S s.l H ((evP c.o q tb s1).bind fun y s => .ok .nx ⟨(s.l.set i x).set j y, s.g⟩) D := p1
      refine ⟨ρ1, S1, s1, w1, PostP.hold (fun y s2 u ρ2 S2 H2 e2 st2 w2 hd2 nw2 => ?_) (fun k fs s2 e2 => ?_) (fun e2 => ?_) fun _ _ z => evP_v z⟩
      · rw [e2] at p2
        refine ⟨v, u, rfl, ?_⟩
        have hd1' := hd1.step st2
        obtain ⟨w3, o3, b3⟩ := hd1'.set w2 li
        have ap : ∀ ds a, y = .own ds → u = .ref a → ∀ ds', x = .own ds' → v ≠ .ref a := fun ds a e3 e4 ds' e5 e6 => by
          subst e5
          obtain ⟨p1, vs, z1, z2, _⟩ := hd1
          rw [e6] at z1
          cases z1
          have := nw2 ds a e3 e4
          rw [this] at z2
          cases z2
        have hd2' : Hold c.E ρ2 S2 H2 (Ow (σ.set i (some v)) (s2.l.set i x)) u y := by
          cases y with
          | v d => exact hd2
          | own ds =>
            obtain ⟨p2, vs, z1, z2, z3, z4, z5, z6⟩ := hd2
            refine ⟨p2, vs, z1, z2, z3, z4, z5, fun z => ?_⟩
            rcases o3 p2 z with z | ⟨ds', z, z'⟩
            · exact z6 z
            · exact ap ds p2 rfl z1 ds' z z'
          | un => exact hd2
          | ob _ _ => exact hd2
        obtain ⟨w4, o4, b4⟩ := hd2'.set w3 (by rw [List.length_set]; exact lj)
        have stA := st1.trans st2
        refine p2 ρ2 S2 H2 _ ⟨stA.inc, stA.nρ, stA.nS, fun z hz => ?_, stA.fr, stA.dom, fun z hz => stA.nO z (b3 z (b4 z hz))⟩ w4
        rcases o4 z hz with hz | ⟨ds, e3, e4⟩
        · rcases o3 z hz with hz | ⟨ds, e3, e4⟩
          · exact stA.nB z hz
          · exact .inr (nw1 ds z e3 e4)
        · exact .inr (st1.dom z (nw2 ds z e3 e4))
      · rw [e2] at p2
        exact fun ρ' S' H' z fv st w z1 z2 => p2 ρ' S' H' σ z fv (st1.trans st) w z1 z2
      · rw [e2] at p2; exact p2
    · rw [e1] at p1
      exact fun ρ' S' H' z fv st w z1 z2 => p1 ρ' S' H' σ z fv st w z1 z2
    · rw [e1] at p1; exact p1⟩
/-- x = a new list, which will grow -/
theorem psi_mkf {i : Nat} {x : Str} {p' : Pos} (hN : X.N.Nodup) (hi : X.N[i]? = some x) (hx : Loc X.env.scope x) (ha : PPI c X true a ta) (hs : swapsWith a (some (.Name x p')) pos.line X.env = pure false := by rfl) (hf : X.fn x = true ∨ X.env.scope.names.lookup x = some .local := by first | exact .inl rfl | exact .inr rfl) : PSI c X (.Assign [.Name x p'] a pos) (.mkf i ta) :=
  ⟨fun pins s0 σ H D I hh => by
    have li : i < σ.length := by rw [I.len]; exact (List.getElem?_eq_some_iff.mp hi).1
    refine (ps_set hN hi hx ha hs hf).run pins s0 σ H D I ?_
    obtain ⟨ρ, S, s, w, p0⟩ := hh
    have p1 : PostS c.E c.W σ ρ S s.l H ((evP c.o true ta s).bind fun x s => .ok .nx ⟨s.l.set i x, s.g⟩) D := p0
    refine ⟨ρ, S, s, w, PostP.hold (fun x s1 v ρ1 S1 H1 e1 st1 w1 hd1 nw1 => ?_) (fun k fs s1 e1 => ?_) (fun e1 => ?_) fun _ _ z => evP_v z⟩
    · rw [e1] at p1
      obtain ⟨w3, o3, b3⟩ := hd1.set w1 li
      refine p1 ρ1 S1 H1 _ ⟨st1.inc, st1.nρ, st1.nS, fun z hz => ?_, st1.fr, st1.dom, fun z hz => st1.nO z (b3 z hz)⟩ w3
      rcases o3 z hz with hz | ⟨ds, e3, e4⟩
      · exact st1.nB z hz
      · exact .inr (nw1 ds z e3 e4)
    · rw [e1] at p1
      exact fun ρ' S' H' z fv st w z1 z2 => p1 ρ' S' H' σ z fv st w z1 z2
    · rw [e1] at p1; exact p1⟩
end
end Pi
namespace Pi
open PySem PySem.Spec PyProof.Rows L2
section
variable {c : Cn} {X : Cx} {a b e : Expr} {ta tb te : T} {pos : Pos}
/-- len(x) of an own list, and the like -/
theorem bio_le {k : Bi} {i : Nat} {σ : L2.St} {H : Hp} {Q : VK} {x : Str} (h : tI c.E c.W (ev c.o (.bio k i)) σ H Q) : ∃ q, σ[i]? = some (some (.ref q)) ∧ rBi c.E k [.ref q] H Q := by
  obtain ⟨ρ, S, s, w, p⟩ := h
  have p' : Post c.E c.W σ ρ S s.l H (match s.l[i]? with
    | some (.own ds) => R.of (biS s.g k [.lst ds]) s
    | _ => .no) Q := p
  split at p'
  · rename_i ds h1
    obtain ⟨q, vs, z1, z2, z3, z4, z5⟩ := w.sl.own i ds h1
    obtain ⟨z, e, p2⟩ := Post.of p'
    exact ⟨q, z1, ρ, S, s.g, [.lst ds], z, w.gr, .cons (.cell z2 z3) .nil, e, Post.give w p2⟩
  · exact p'.elim
theorem pi_bio {k : Bi} {i : Nat} {x y : Str} {p' p : Pos} {id : String} (ho : CallR X (.builtin id) (rBi c.E k)) (hg : Gl X x) (hm : X.mg x = none) (hv : bootBuiltins x = some (.builtin id)) (hN : X.N[i]? = some y := by rfl) (hvs : Vis X.env.scope y := by first | exact Or.inl rfl | exact Or.inr (Or.inl rfl) | exact Or.inr (Or.inr rfl))
    (hd : (y == ("__debug__" : Str)) = false := by decide) (hcd : (y == ("__classdict__" : Str)) = false := by decide) (hn : x ≠ "__name__" := by decide) (hdb : (x == ("__debug__" : Str)) = false := by decide)
    (he : starEach ((.Name y p') :: []) X.env = (false, eval (.Name y p') X.env) :: starEach [] X.env := by rfl) (hpl : (backTo pos (starEach [] X.env)).any (·.1) = false := by rfl) : PEI c X (.Call (.Name x p) [.Name y p'] [] pos) (.bio k i) :=
  pe_le (pe_callB ho hg hm hv (pa_cons (pe_var hN hvs hd hcd) pa_nil he) hn hdb he hpl) fun σ H Q h => by
    obtain ⟨q, h1, h2⟩ := bio_le (x := x) h
    exact ⟨.ref q, h1, h2⟩
end
/-- facts of a class with an own __eq__ -/
structure EqC (K : PySem.W.Frag) (C f : Addr) : Prop where
  find : PySem.W.findIn K (.ref C) "__eq__" = some (some (.ref f))
  fn : PySem.W.isFn K (.ref f) = true
  ne : PySem.W.findIn K (.ref C) "__ne__" = some (some (.builtin "object.__ne__"))
  n1 : PySem.W.mroIn K C (.type "NoneType") = some false
  n2 : PySem.W.mroIn K C (.type "str") = some false
  n3 : PySem.W.mroIn K C (.type "tuple") = some false
section
variable {c : Cn} {X : Cx} {f : Addr} {ps : List Str} {k i : Nat}
theorem Good.eqs {C : Addr} (G : Good X.prog X.w X.K X.mg X.base c.E k f ps [] 2 (c.o.call i)) (hgd : X.A.guards = some []) (hr : Room (k + 2) X.A) (M : EqC X.K C f) :
    ∃ (j : Nat) (a : Addr) (fd : FuncData) (ps : List Str), FnG X.prog X.w X.K X.mg X.base j a fd ps (spI c.E 2 (c.o.call i)) ∧ X.A.guards = some [] ∧ Room (j + 2) X.A ∧
    PySem.W.findIn X.K (.ref C) "__eq__" = some (some (.ref a)) ∧ PySem.W.isFn X.K (.ref a) = true ∧ Binds X.K fd ps [] ∧ PySem.W.findIn X.K (.ref C) "__ne__" = some (some (.builtin "object.__ne__")) ∧
    PySem.W.subIn X.K (.ref C) (.type "NoneType") = some false ∧ PySem.W.subIn X.K (.ref C) (.type "str") = some false ∧ PySem.W.subIn X.K (.ref C) (.type "tuple") = some false := by
  obtain ⟨fd, h1, h2⟩ := G.ex
  obtain ⟨ds, h3, h4⟩ := h2 0 (Nat.le_refl _)
  cases h3
  exact ⟨k, f, fd, ps, h1, hgd, hr, M.find, M.fn, h4, M.ne, M.n1, M.n2, M.n3⟩
end
/-! ### what is said of each class -/
theorem el_nil {P : Nat → Prop} : ∀ k, List.elem k ([] : List Nat) = true → P k := fun k h => by simp at h
theorem el_cons {P : Nat → Prop} {i : Nat} {L : List Nat} (h : P i) (r : ∀ k, List.elem k L = true → P k) : ∀ k, List.elem k (i :: L) = true → P k := fun k e => by
  have e' : k ∈ i :: L := List.elem_iff.mp e
  rcases List.mem_cons.mp e' with z | z
  · rw [z]; exact h
  · exact r k (List.elem_iff.mpr z)
def el2 (k n : Nat) : List (Nat × List Nat) → Bool
  | [] => false
  | (i, ns) :: L => (k == i && List.elem n ns) || el2 k n L
theorem el2_nil {P : Nat → Nat → Prop} : ∀ k n, el2 k n [] = true → P k n := fun k n h => by simp [el2] at h
theorem el2_cons {P : Nat → Nat → Prop} {i : Nat} {ns : List Nat} {L : List (Nat × List Nat)} (h : ∀ n, List.elem n ns = true → P i n) (r : ∀ k n, el2 k n L = true → P k n) : ∀ k n, el2 k n ((i, ns) :: L) = true → P k n := fun k n e => by
  unfold el2 at e
  rw [Bool.or_eq_true, Bool.and_eq_true] at e
  rcases e with ⟨e1, e2⟩ | e
  · rw [beq_iff_eq.mp e1]; exact h n e2
  · exact r k n e
theorem lk_nil {P : Nat → Nat → Prop} {co : Nat → Bool} : ∀ k f, co k = true → List.lookup k ([] : List (Nat × Nat)) = some f → P k f := fun k f _ h => by cases h
theorem lk_cons {P : Nat → Nat → Prop} {co : Nat → Bool} {i j : Nat} {L : List (Nat × Nat)} (h : P i j) (r : ∀ k f, co k = true → List.lookup k L = some f → P k f) : ∀ k f, co k = true → List.lookup k ((i, j) :: L) = some f → P k f := fun k f c e => by
  rw [List.lookup_cons] at e
  by_cases q : k = i
  · subst q
    rw [beq_self_eq_true] at e
    cases e
    exact h
  · have : (k == i) = false := by simpa using q
    rw [this] at e
    exact r k f c e
theorem subs_of {c : Cn} {L : List Nat} (hL : ∀ k, c.E.co k = List.elem k L) (h : ∀ i, List.elem i L = true → ∀ j, List.elem j L = true → PySem.W.mroIn c.E.K (c.E.cl i) (.ref (c.E.cl j)) = some (c.o.sub i j)) : Subs c :=
  ⟨fun i j hi hj => h i (by rw [← hL]; exact hi) j (by rw [← hL]; exact hj)⟩
theorem bi_sub {K : PySem.W.Frag} {C : Addr} {T : String} (h : ∃ ms, fastBuiltinMro T = some ms ∧ ms.contains (.ref C) = false) : PySem.W.subIn K (.type T) (.ref C) = some false := by
  obtain ⟨ms, h1, h2⟩ := h
  show (fastBuiltinMro T).map (·.contains (.ref C)) = some false
  rw [h1]
  show some (ms.contains (.ref C)) = some false
  rw [h2]
/-- isinstance(x, C) -/
theorem kit_cls {c : Cn} {k : Nat} (hk : c.E.co k = true) (hty : PySem.W.typeIn c.E.K (.ref (c.E.cl k)) = some (.type "type")) (hs : Subs c) (hr : c.o.sub k k = true) : Kit c (.cls k) := by
  have hm := (c.E.cok k hk).2.2.2.2
  have hc : ((PySem.W.clsIn c.E.K (c.E.cl k)).isSome && PySem.W.typeIn c.E.K (.ref (c.E.cl k)) == some (.type "type")) = true := by
    rw [hty]
    unfold PySem.W.mroIn at hm
    cases q : PySem.W.clsIn c.E.K (c.E.cl k) with
    | none => rw [q] at hm; cases hm
    | some _ => rfl
  have one : ∀ t b, (t == Value.ref (c.E.cl k)) = false → PySem.W.subIn c.E.K t (.ref (c.E.cl k)) = some b → PySem.W.kitOne c.E.K t (.ref (c.E.cl k)) = some b := fun t b h1 h2 => by
    unfold PySem.W.kitOne
    rw [h1]
    show (if ((PySem.W.clsIn c.E.K (c.E.cl k)).isSome && PySem.W.typeIn c.E.K (.ref (c.E.cl k)) == some (.type "type")) = true then PySem.W.subIn c.E.K t (.ref (c.E.cl k)) else none) = some b
    rw [hc]
    exact h2
  refine ⟨fun d v hv hd => ?_⟩
  cases d with
  | ins k' fs =>
    cases hv
    have hc' := hd k' fs rfl
    show PySem.W.kitOne c.E.K (.ref (c.E.cl k')) (.ref (c.E.cl k)) = some (c.o.sub k' k)
    by_cases q : c.E.cl k' = c.E.cl k
    · have e1 := hs.ex k' k hc' hk
      have e2 := hs.ex k k hk hk
      rw [q, e2] at e1
      have e3 : c.o.sub k' k = true := by rw [← Option.some.inj e1]; exact hr
      rw [e3, q]
      unfold PySem.W.kitOne
      simp
    · exact one _ _ (by simpa using q) (hs.ex k' k hc' hk)
  | non => cases hv; exact one _ _ rfl (bi_sub ⟨[.type "NoneType", .type "object"], by decide +kernel, by simp⟩)
  | bl _ => cases hv; exact one _ _ rfl (bi_sub ⟨[.type "bool", .type "int", .type "object"], by decide +kernel, by simp⟩)
  | int _ => cases hv; exact one _ _ rfl (bi_sub ⟨[.type "int", .type "object"], by decide +kernel, by simp⟩)
  | str _ => cases hv; exact one _ _ rfl (bi_sub ⟨[.type "str", .type "object"], by decide +kernel, by simp⟩)
  | tup _ => cases hv; exact one _ _ rfl (bi_sub ⟨[.type "tuple", .type "object"], by decide +kernel, by simp⟩)
  | lst _ => cases hv; exact one _ _ rfl (bi_sub ⟨[.type "list", .type "object"], by decide +kernel, by simp⟩)
  | ref _ => cases hv
end Pi
/-! try: .. except X as e: the suite looks at the exception's class and fields. -/
namespace Pi
open PySem PySem.Spec PyProof.Rows
section
open PySem.W PySem.Calls
variable {prog : Program} {w : World} {A : Around} {E : Value → Shared → Prop} {s : Shared} {K : Frag} {x D : Addr} {ox : Obj} {od : Option Obj}
/-- a descriptor that takes stores is ahead of the dict -/
theorem findObj_data {C : Addr} {name : Str} {a g : Value} (hc : (clsIn K C).isSome = true) (ha : findIn K (.ref C) name = some (some a)) (hg : specialIn K a "__get__" = some (some g)) (ht : takesIn K a = some true) : findObj K C od name = some (.bind g a) := by
  obtain ⟨cd, hc⟩ := Option.isSome_iff_exists.mp hc
  unfold findObj
  rw [hc, Option.bind_some, ha, Option.bind_some]
  simp [hg, ht]
/-- the class of an error that has a dict -/
theorem class_ofErr {Q : Option Value → Shared → Prop} (C : L2.ExcC K D) (X : K.In s.heap) (I : InstAt s.heap x ox D od) (h : Q (some (.ref D)) { s with toks := s.toks + 1 }) : wpAny (model prog w) A (getAttr? (.ref x) "__class__") Q E s := by
  have hf : findObj K D od "__class__" = some (.bind (.builtin "getset_descriptor.__get__") (.builtin "object.__class__")) := findObj_data (by obtain ⟨cd, hc, _⟩ := any_some C.hd; rw [hc]; rfl) C.ha C.hn C.ht
  obtain ⟨hp, g, d, t, os⟩ := s
  have L0 := I.type (M := model prog w)
  have L1 := looks_findIn (M := model prog w) X C.hg
  have L2 := looks_findIn (M := model prog w) X C.hk
  have L3 := looks_find (M := model prog w) X I hf
  have sub : Looks (model prog w) hp (isInstance (.ref x) (.type "BaseException")) true := L0.andThen (looks_subIn X C.hs)
  have n2 : (Value.builtin "BaseException.__getattribute__" == Value.builtin "object.__getattribute__") = false := by decide +kernel
  have n1 : (onTheHeap (Value.ref D) && Value.builtin "BaseException.__getattribute__" == Value.builtin "object.__getattribute__") = false := by rw [n2]; rfl
  have n0 : (false && onTheHeap (Value.builtin "BaseException.__getattribute__")) = false := rfl
  unfold getAttr? getAttrBy? getAttrBy
  apply wpAny_bind
  apply wpAny_mkText
  apply wpAny_bind
  apply wpAny_attempt
  apply wpAny_holding
  apply wpAny_bind
  apply L0.at
  apply wpAny_bind
  apply L1.at
  show wpAny _ _ (if (onTheHeap (Value.ref D) && Value.builtin "BaseException.__getattribute__" == Value.builtin "object.__getattribute__") = true then _ else _) _ _ _
  rw [n1, if_neg Bool.false_ne_true]
  unfold getAttrByItsOwn hookBefore
  apply wpAny_bind
  rw [if_pos (show onTheHeap (Value.ref D) = true from rfl)]
  apply L2.at
  apply wpAny_bind
  apply wpAny_attempt
  apply wpAny_holding
  unfold callGetattribute
  rw [n0, if_neg Bool.false_ne_true]
  unfold boundAndCalled
  rw [PySem.F.excAttr_ValueError.ga.bind (.ref x)]
  apply wpAny_bind
  apply wpAny_pure
  show wpAny _ _ (call (.builtin "BaseException.__getattribute__") [.ref x, .str "__class__" t]) _ _ _
  apply wpAny_call
  apply codeAny_call_builtin PySem.F.excAttr_ValueError.ga.plain PySem.F.entry_bexc_ga
  refine @check_slot (model prog w) _ _ ⟨hp, g, d, t + 1, os⟩ "BaseException.__getattribute__" "BaseException" "__getattribute__" (.ref x) [.str "__class__" t] [] _ (by decide +kernel) (by decide +kernel) sub (PySem.F.args_bexc_ga (.ref x) (.str "__class__" t)) ?_
  unfold Builtin.«object.__getattribute__»
  apply wpAny_bind
  refine wpAny_of_eq (a := ((Value.ref x : Value), [Value.str "__class__" t])) (by first | rfl | (simp only [slotArgs]; rfl)) ?_
  apply wpAny_bind
  apply wpAny_pure
  apply wpAny_bind
  apply L0.at
  apply wpAny_bind
  apply L3.at
  show wpAny _ _ (holding [Value.builtin "object.__class__"] (call (.builtin "getset_descriptor.__get__") [.builtin "object.__class__", .ref x, .ref D]) >>= ret) _ _ _
  apply wpAny_bind
  apply wpAny_holding
  apply wpAny_call
  refine class_get (s := ⟨hp, g, d, t + 1, os⟩) (ox := ox) (od := od) X I C.hm ?_
  apply wpAny_pure
  show wpAny _ _ (handedOut (.ref D)) _ _ _
  rw [handedOut_of (v := .ref D) rfl]
  first
    | exact wpAny_pure (wpAny_pure h)
    | exact wpAny_pure h
    | exact wpAny_pure (wpAny_bind (wpAny_pure (wpAny_pure h)))
theorem kit_ofErr (C : L2.ExcC K D) : KitX K (.ref x) (.ref D) (fun h => InstAt h x ox D od) where
  ty := fun _ _ _ I => I.type
  it := fun _ _ X _ => by
    obtain ⟨cdD, hcD, _⟩ := any_some C.hd
    unfold clsIn at hcD
    split at hcD
    · rename_i c' d' cd' sl' ho
      intro A' Q' E' s' k q
      unfold isType loadHead
      exact wpAny_bind (wpAny_loadPart (k _ _ (X _ _ ho)) (wpAny_pure q))
    · cases hcD
  ne := fun h tp dd its n sl X htp => by
    obtain ⟨cdD, hcD, _⟩ := any_some C.hd
    refine Bool.eq_false_iff.mpr fun q => ?_
    have e : D = tp := Value.ref.inj (beq_iff_eq.mp q)
    subst e
    unfold clsIn at hcD
    split at hcD
    · rename_i c' d' cd' sl' ho
      have z := (X _ _ ho).symm.trans htp
      cases z
    · cases hcD
  ca := fun X I k => class_ofErr C X I k
end
open L2
/-- isinstance(e, c), e the exception that the suite holds, its fields in its dict -/
theorem call_isErr {X : Cx} {a x : Addr} {D : Addr} {oe : Obj} {pn : List (Addr × Obj)} (C : ExcC X.K D) (hz : Zc (.ref D) (some x) oe) (hf : ∃ vs, oe.data = .fields vs) :
    CallR (X.suite a ((a, oe) :: pn)) (.builtin "isinstance") (fun xs H Q => ∃ (c : V) (cv : Value) (b : Bool) (fv : List (Str × V)), xs = [.ref a, c] ∧ (∀ u, RelV c u → u = cv) ∧ PySem.W.kitOne X.K (.ref D) cv = some b ∧ H x = some (.xd fv) ∧ Q (.bl b) H) := by
  intro pins s σ H xs us Q I r h
  obtain ⟨c, cv, b, fv, rfl, hcv, e, hx, q⟩ := h
  match r with
  | .cons rx (.cons rt .nil) =>
    cases rx
    have ec := hcv _ rt
    subst ec
    obtain ⟨hget, _⟩ := I.pin (a, oe) (List.mem_append.mpr (.inl List.mem_cons_self))
    obtain ⟨vs, hv⟩ := hf
    have hx : ObjOk X.prog X.w H s.heap x (.xd fv) := I.hok x _ hx
    obtain ⟨mA, hns, hr⟩ := hx
    obtain ⟨od, ho, hl⟩ := lookIn_ns hns
    have J : PySem.W.InstAt s.heap a oe D (some od) := ⟨hget, hz.1, by unfold PySem.W.notCls; rw [hv] <;> rfl, by rw [hz.2]; exact ho⟩
    exact PySem.W.kia_one (kit_ofErr C) I.kIn J e (fun z => nomatch z) fun tk => ⟨.bl b, H, I.kept (t' := tk) fun _ _ z => z, rfl, q⟩
end Pi
namespace Pi
open PySem PySem.Spec PyProof.Rows L2
/-! ### a slot of which nothing is said -/
section
variable {E : En} {ρ : List Addr} {S H : Hp} {s : Pi.S} {σ : L2.St} {l : List SV} {i : Nat} {x : Option V}
theorem unU_ne {j : Nat} {y : SV} (e : (l.set i .un)[j]? = some y) (n : y ≠ .un) : i ≠ j ∧ l[j]? = some y := by
  by_cases q : i = j
  · subst q
    by_cases hi : i < l.length
    · rw [List.getElem?_set_self hi] at e; cases e; exact absurd rfl n
    · rw [List.getElem?_eq_none (by rw [List.length_set]; omega)] at e; cases e
  · rw [List.getElem?_set_ne q] at e; exact ⟨q, e⟩
theorem unU_bs {j : Nat} (h : (∃ ds, (l.set i .un)[j]? = some (.own ds)) ∨ ∃ c fs, (l.set i .un)[j]? = some (.ob c fs)) : i ≠ j ∧ ((∃ ds, l[j]? = some (.own ds)) ∨ ∃ c fs, l[j]? = some (.ob c fs)) := by
  rcases h with ⟨ds, h⟩ | ⟨c, fs, h⟩
  · obtain ⟨q, e'⟩ := unU_ne h fun z => nomatch z
    exact ⟨q, .inl ⟨ds, e'⟩⟩
  · obtain ⟨q, e'⟩ := unU_ne h fun z => nomatch z
    exact ⟨q, .inr ⟨c, fs, e'⟩⟩
theorem Sl.unU (w : Sl E ρ S H σ l) : Sl E ρ S H (σ.set i x) (l.set i .un) := by
  refine ⟨by simp [w.len], fun j d e => ?_, fun j ds e => ?_, fun j k fs e => ?_, fun j k a hjk h1 h2 e => ?_⟩
  · obtain ⟨q, e'⟩ := unU_ne e fun z => nomatch z
    rw [List.getElem?_set_ne q]; exact w.v j d e'
  · obtain ⟨q, e'⟩ := unU_ne e fun z => nomatch z
    rw [List.getElem?_set_ne q]; exact w.own j ds e'
  · obtain ⟨q, e'⟩ := unU_ne e fun z => nomatch z
    rw [List.getElem?_set_ne q]; exact w.ob j k fs e'
  · obtain ⟨q1, g1⟩ := unU_bs h1
    obtain ⟨q2, g2⟩ := unU_bs h2
    rw [List.getElem?_set_ne q1] at e
    rw [List.getElem?_set_ne q2]
    exact w.dist j k a hjk g1 g2 e
theorem Ow_setU {a : Addr} (h : Ow (σ.set i x) (l.set i .un) a) : Ow σ l a := by
  obtain ⟨j, h1, h2⟩ := h
  obtain ⟨q, g⟩ := unU_bs h2
  rw [List.getElem?_set_ne q] at h1
  exact ⟨j, h1, g⟩
theorem Ob_setU {a : Addr} (h : ObP (σ.set i x) (l.set i .un) a) : ObP σ l a := by
  obtain ⟨j, h1, c, fs, h2⟩ := h
  obtain ⟨q, e⟩ := unU_ne h2 fun z => nomatch z
  rw [List.getElem?_set_ne q] at h1
  exact ⟨j, h1, c, fs, e⟩
end
/-! ### the suite's expressions -/
def noW : WX := fun _ _ _ _ => False
def tX (E : En) (i : Nat) (a x : Addr) (fs : List (Nat × D)) (m : Pi.S → R D) : TE := fun σ H Q => ∃ ρ S s, Wd E ρ S s σ H ∧ σ[i]? = some (some (.ref a)) ∧ (∃ fv, S x = some (.xd fv) ∧ RepF E S ρ fv fs) ∧ Post E noW σ ρ S s.l H (m s) Q
def PXI (c : Cn) (X : Cx) (xc : Nat → Option Bool) (i : Nat) (e : Expr) (h : HX) : Prop := ∀ (a x : Addr) (k : Nat) (fs : List (Nat × D)) (oe : Obj) (pn : List (Addr × Obj)), xc k = some true → Zc (.ref (c.E.cl k)) (some x) oe → (∃ vs, oe.data = .fields vs) →
  PE (X.suite a ((a, oe) :: pn)) e (tX c.E i a x fs (hv c.o k fs h))
def tXT (i : Nat) (a x : Addr) (b : Bool) : TT := fun σ H Q => σ[i]? = some (some (.ref a)) ∧ (∃ fv, H x = some (.xd fv)) ∧ Q b H
def PXT (c : Cn) (X : Cx) (xc : Nat → Option Bool) (i : Nat) (e : Expr) (q : HT) : Prop := ∀ (a x : Addr) (k : Nat) (oe : Obj) (pn : List (Addr × Obj)), xc k = some true → Zc (.ref (c.E.cl k)) (some x) oe → (∃ vs, oe.data = .fields vs) →
  PT (X.suite a ((a, oe) :: pn)) e (tXT i a x (hq k q))
def PXW (c : Cn) (X : Cx) (xc : Nat → Option Bool) (i : Nat) (e : Expr) (q : HT) : Prop := ∀ (a x : Addr) (k : Nat) (oe : Obj) (pn : List (Addr × Obj)), xc k = some true → Zc (.ref (c.E.cl k)) (some x) oe → (∃ vs, oe.data = .fields vs) →
  PW (X.suite a ((a, oe) :: pn)) e (tXT i a x (hq k q))
/-- what the suite must know of the classes that it holds -/
structure XcF (c : Cn) (X : Cx) (xc : Nat → Option Bool) : Prop where
  xf : ∀ k, xc k = some true → XfC X.K (c.E.cl k)
  ec : ∀ k, xc k = some true → ExcC X.K (c.E.cl k)
section
variable {c : Cn} {X : Cx} {xc : Nat → Option Bool} {i : Nat} {e a b d : Expr} {rest : List Expr} {h ha hb : HX} {q r : HT} {t : T} {pos p : Pos}
theorem pxi_t (he : ∀ (a : Addr) (pn : List (Addr × Obj)), PEI { c with W := noW } (X.suite a pn) e t) : PXI c X xc i e (.t t) := fun a x k fs oe pn hk hz hf =>
  pe_le (he a _) fun σ H Q ⟨ρ, S, s, w, _, _, p⟩ => ⟨ρ, S, s, w, p⟩
theorem pxi_wd {n : Nat} {f v : Str} (F : XcF c X xc) (hN : X.N[i]? = some v) (hv : Vis X.env.scope v) (hn : n < c.E.nat) (hf : c.E.at_ n = f) (hno : ∀ k, xc k = some true → PySem.W.findIn X.K (.ref (c.E.cl k)) f = some none)
    (hd : (v == ("__debug__" : Str)) = false := by decide) (hcd : (v == ("__classdict__" : Str)) = false := by decide)
    (hb : attributeBase (.Name v p) f X.env (eval (.Name v p) X.env) = eval (.Name v p) X.env := by rfl) : PXI c X xc i (.Attribute (.Name v p) f pos) (.wd n) := fun a x k fs oe pn hk hz hf' => by
  refine pe_le (pe_xf (F.xf k hk) (hno k hk) hz hf' (pe_var (X := X.suite a ((a, oe) :: pn)) hN hv hd hcd) hb) fun σ H Q hh => ?_
  obtain ⟨ρ, S, s, w, h1, ⟨fv, h2, h3⟩, pp⟩ := hh
  obtain ⟨z, e1, p2⟩ := Post.of pp
  obtain ⟨v', h4, h5⟩ := h3.look hn e1
  exact ⟨.ref a, h1, rfl, rfl, x, fv, v', rfl, w.gr.sub _ _ h2, by rw [← hf]; exact h4, Post.here w h5 p2⟩
theorem pxt_isi {et : Expr} {p1 p2 p3 : Pos} {v : Str} {u : V} {cv : Value} {pr : Nat → Bool} (F : XcF c X xc) (hN : X.N[i]? = some v) (hv : Vis X.env.scope v) (hg : Gl X "isinstance") (hm : X.mg "isinstance" = none) (ht : ∀ (a : Addr) (pn : List (Addr × Obj)), PE (X.suite a pn) et (tC u))
    (hu : ∀ w, RelV u w → w = cv) (hk : ∀ k, xc k = some true → PySem.W.kitOne X.K (.ref (c.E.cl k)) cv = some (pr k)) (hd : (v == ("__debug__" : Str)) = false := by decide) (hcd : (v == ("__classdict__" : Str)) = false := by decide)
    (he : starEach (.Name v p1 :: [et]) X.env = (false, eval (.Name v p1) X.env) :: starEach [et] X.env := by rfl) (hs2 : starEach (et :: []) X.env = (false, eval et X.env) :: starEach [] X.env := by rfl) (hpl : (backTo p3 (starEach [et] X.env)).any (·.1) = false := by rfl)
    (hi : ∀ whole, isTrue (.Call (.Name "isinstance" p2) [.Name v p1, et] [] p3) X.env whole = (do let z ← whole; standAt (Expr.pos (.Call (.Name "isinstance" p2) [.Name v p1, et] [] p3)); holding [z] (truthy z)) := by intro _; rfl) :
    PXT c X xc i (.Call (.Name "isinstance" p2) [.Name v p1, et] [] p3) (.isi pr) := fun a x k oe pn hk' hz hf' => by
  have hp : PE (X.suite a ((a, oe) :: pn)) (.Call (.Name "isinstance" p2) [.Name v p1, et] [] p3) _ :=
    pe_callB (X := X.suite a ((a, oe) :: pn)) (call_isErr (F.ec k hk') hz hf') hg hm (by decide +kernel) (pa_cons (pe_var (X := X.suite a ((a, oe) :: pn)) hN hv hd hcd) (pa_cons (ht a _) pa_nil hs2) he) (by decide) (by decide) he hpl
  refine pt_le (pt_val hp hi) fun σ H Q hh => ?_
  obtain ⟨h1, ⟨fv, h2⟩, hq'⟩ := hh
  exact ⟨.ref a, h1, u, cv, _, fv, rfl, hu, hk k hk', h2, _, rfl, hq'⟩
theorem pxt_not (ha : PXT c X xc i a q) : PXT c X xc i (.UnaryOp .Not a pos) (.not q) := fun b x k oe pn hk hz hf => pt_le (pt_not (ha b x k oe pn hk hz hf)) fun σ H Q hh => hh
theorem pxt_w (ha : PXW c X xc i a q) : PXT c X xc i a q := fun b x k oe pn hk hz hf => (ha b x k oe pn hk hz hf).pt
theorem pxw_and1 (ha : PXT c X xc i a q) : PXW c X xc i (.BoolOp .And [a] pos) q := fun b x k oe pn hk hz hf => pw_and1 (ha b x k oe pn hk hz hf)
theorem pxw_and (ha : PXT c X xc i a q) (hb : PXW c X xc i (.BoolOp .And (b :: rest) pos) r) : PXW c X xc i (.BoolOp .And (a :: b :: rest) pos) (.and q r) := fun z x k oe pn hk hz hf =>
  pw_le (pw_and (ha z x k oe pn hk hz hf) (hb z x k oe pn hk hz hf)) fun σ H Q hh => by
    obtain ⟨h1, h2, h3⟩ := hh
    refine ⟨h1, h2, ?_⟩
    have h3 : Q (hq k q && hq k r) H := h3
    cases e : hq k q with
    | true => rw [e] at h3; exact ⟨h1, h2, h3⟩
    | false => rw [e] at h3; exact h3
theorem pxi_ite (hd : PXT c X xc i d q) (ha : PXI c X xc i a h) (hb : PXI c X xc i b hb') : PXI c X xc i (.IfExp d a b pos) (.ite q h hb') := fun z x k fs oe pn hk hz hf =>
  pe_le (pe_ifExp (hd z x k oe pn hk hz hf) (ha z x k fs oe pn hk hz hf) (hb z x k fs oe pn hk hz hf)) fun σ H Q hh => by
    obtain ⟨ρ, S, s, w, h1, ⟨fv, h2, h3⟩, p⟩ := hh
    refine ⟨h1, ⟨fv, w.gr.sub _ _ h2⟩, ?_⟩
    have p : Post c.E noW σ ρ S s.l H (bif hq k q then hv c.o k fs h s else hv c.o k fs hb' s) Q := p
    cases e : hq k q with
    | true => rw [e] at p; show (if true = true then tX c.E i z x fs (hv c.o k fs h) σ H Q else _); rw [if_pos rfl]; exact ⟨ρ, S, s, w, h1, ⟨fv, h2, h3⟩, p⟩
    | false => rw [e] at p; show (if false = true then _ else tX c.E i z x fs (hv c.o k fs hb') σ H Q); rw [if_neg Bool.false_ne_true]; exact ⟨ρ, S, s, w, h1, ⟨fv, h2, h3⟩, p⟩
end
end Pi
namespace Pi
open PySem PySem.Spec PyProof.Rows L2
section
variable {X : Cx} {k : Nat} {f C : Addr} {fd : FuncData} {ps : List Str} {sp : Sp} {dvs : List V} {ds : List Value} {x : Str} {p pos : Pos} {e : Expr} {es : List Expr} {t : TA}
/-- C(..) where what is wished of an error may speak of the frame's slots -/
def tMakeS (C : Addr) (sp : Sp) (dvs : List V) (W : L2.St → XK) (t : TA) : TE := fun σ H Q => t σ H fun vs H1 => ∀ x dx, H1 x = none → H1 dx = none → dx ≠ x →
  sp (.ref x :: (vs ++ dvs)) (upd (upd H1 dx (.own x)) x (.ins C dx [])) (fun v H2 => v = .non ∧ Q (.ref x) H2) (W σ)
theorem make_gS {W : L2.St → XK} {pins : List (Addr × Obj)} {σ : L2.St} {H : Hp} {s : Shared} {Q : VK} {us : List Value} {vs : List V} (M : Mk X.K C f) (G : FnG X.prog X.w X.K X.mg X.base k f fd ps sp) (hg : X.A.guards = some []) (hr : Room (k + 1) X.A) (hb : Binds X.K fd ps ds) (hd : Vals dvs ds)
    (hx : PassesAt (L2.CX X.prog X.w) X σ (W σ)) (I : L2.Inv X pins σ H s) (rv : Vals vs us)
    (h : ∀ a dx, H a = none → H dx = none → dx ≠ a → sp (.ref a :: (vs ++ dvs)) (upd (upd H dx (.own a)) a (.ins C dx [])) (fun v H2 => v = .non ∧ Q (.ref a) H2) (W σ)) :
    wpAny (model X.prog X.w) X.A (call (Value.ref C) us) (EP X pins σ Q) X.xe s := by
  have n0 : s.heap.objs.size ≤ s.heap.objs.size := Nat.le_refl _
  have said := h (s.heap.objs.size + 1) s.heap.objs.size (I.hok.fresh (Nat.le_succ _)) (I.hok.fresh n0) (Nat.ne_of_lt (Nat.lt_succ_self _))
  have J := Inv.made (C := C) I
  have both : Vals (V.ref (s.heap.objs.size + 1) :: (vs ++ dvs)) (Value.ref (s.heap.objs.size + 1) :: (us ++ ds)) := .cons rfl (rv.append hd)
  have many : (Value.ref (s.heap.objs.size + 1) :: us ++ ds).length = ps.length := both.length.symm.trans (G.len _ _ _ _ said)
  apply wpAny_call
  apply make_map (f := f) I.kIn M.makes M.init (beq_iff_eq.mp M.fn)
  apply codeAny_mono (G.run _ X.stack _ _ _ _ _ _ (W σ) ?gd (hr.make C us []) (J.env0.make C us []) (hb _ _ J.kIn many) both said)
  · intro out s2 ends
    match out, ends with
    | .error e, ends => exact hx pins _ _ e s2 J ends
    | .ok (.ret u), ends =>
      obtain ⟨v, H2, J2, r2, e2, q⟩ := J.after ends
      subst e2
      exact ⟨r2, V.ref _, H2, J2, rfl, q⟩
    | .ok .next, ends => exact ends.elim
    | .ok .brk, ends => exact ends.elim
    | .ok .cont, ends => exact ends.elim
  case gd =>
    unfold Around.under
    show pushGuards (Code.guards (Code.builtin "type.__call__" { pos := Value.ref C :: us })) X.A.guards = some []
    rw [hg]
    rfl
theorem pe_makeS {W : L2.St → XK} (M : Mk X.K C f) (G : FnG X.prog X.w X.K X.mg X.base k f fd ps sp) (hgd : X.A.guards = some []) (hr : Room (k + 1) X.A) (hg : Gl X x) (hm : X.mg x = some (.ref C)) (hb : Binds X.K fd ps ds) (hd : Vals dvs ds) (hx : ∀ σ, PassesAt (L2.CX X.prog X.w) X σ (W σ))
    (ha : PA X (e :: es) t) (hdb : (x == ("__debug__" : Str)) = false := by decide) (he : starEach (e :: es) X.env = (false, eval e X.env) :: starEach es X.env := by rfl) (hpl : (backTo pos (starEach es X.env)).any (·.1) = false := by rfl) :
    PE X (.Call (.Name x p) (e :: es) [] pos) (tMakeS C sp dvs W t) :=
  ⟨fun pins s σ H Q I h => wpAny_Call_Name_kw (ld_glob I hg hm (by
    apply PySem.W.callWith_K (h₀ := X.base) I.ok.mod.kin M.kp _ he hpl
    apply thn (ha.run pos pins s σ H _ I h)
    rintro us s1 ⟨vs, H1, I1, rv, q⟩
    exact ⟨I1.kIn, make_gS M G hgd hr hb hd (hx σ) I1 rv q⟩) hdb)⟩
end
section
variable {c : Cn} {X : Cx} {e a b d : Expr} {ta tb td tl th : T} {pos : Pos} {rest : List Expr}
/-- C(..), whatever is wished of an error -/
theorem pi_mkW {x : Str} {p : Pos} {es : List Expr} {k n : Nat} {df : List D} (tk : Takes X c.W) (F : Maker c X x k n df) (hg : Gl X x) (ha : PAI c X (e :: es) ta) (hl : ta.len + df.length = n := by rfl) (hdb : (x == ("__debug__" : Str)) = false := by decide)
    (he : starEach (e :: es) X.env = (false, eval e X.env) :: starEach es X.env := by rfl) (hpl : (backTo pos (starEach es X.env)).any (·.1) = false := by rfl) : PEI c X (.Call (.Name x p) (e :: es) [] pos) (.mk k ta df) := by
  obtain ⟨j, f, fd, ps, dvs, ds, M, G, hgd, hr, hm, hb, hd, hdf⟩ := F.ex
  refine pe_le (pe_makeS (W := fun σ => WE c.W σ) M G hgd hr hg hm hb hd (fun σ => passAt tk σ) ha hdb he hpl) fun σ H Q h => ?_
  obtain ⟨ρ, S, s, w, p⟩ := h
  refine ⟨ρ, S, s, w, (Post.bindA2 p).imp ?_⟩
  rintro vs H1 ⟨ρ1, S1, s1, d1, e1, a1, r1, p1⟩
  intro q dx hq hdx hne
  have k1 : ∀ a, H1 a ≠ none → (upd (upd H1 dx (.own q)) q (.ins (c.E.cl k) dx [])) a = H1 a := fun a ne => by
    rw [upd_ne (show a ≠ q from fun z => ne (z ▸ hq)), upd_ne (show a ≠ dx from fun z => ne (z ▸ hdx))]
  obtain ⟨f1, f2⟩ := a1.wd.gr.fresh hq
  refine ⟨q, _, dx, ρ1, S1, s1.g, d1 ++ df, rfl, ?_, upd_same, f1, f2, a1.wd.gr.off2 k1, r1.append (hdf S1 ρ1), ?_⟩
  · rw [List.length_append, r1.len, (hdf S1 ρ1).len, evA_len e1, hl]
  · show PostN c.E ρ1 S1 _ q k (c.o.init k (d1 ++ df) s1.g) _ (WE c.W σ)
    have p2 : Post c.E c.W σ ρ1 S1 s1.l H1 (R.ofCI s1.l k (c.o.init k (d1 ++ df) s1.g)) Q := p1
    cases hc : c.o.init k (d1 ++ df) s1.g with
    | ok fs g' =>
      rw [hc] at p2
      intro ρ' S' H' dx' fv st gr hp hf rf sp np
      obtain ⟨w3, st3, i3⟩ := made (E := c.E) a1.wd hq k1 st gr hp sp np
      exact ⟨rfl, p2 _ ρ' _ H' st3 w3 (.ins upd_same hf (rf.mono i3))⟩
    | ex k' fs g' =>
      rw [hc] at p2
      intro ρ' S' H' y fv st gr hy rf
      obtain ⟨w3, st3⟩ := unmade (E := c.E) a1.wd hq k1 st gr
      exact p2 ρ' S' H' y fv st3 w3 hy rf
    | no => rw [hc] at p2; exact p2
end
/-! ### try -/
section
variable {c : Cn} {X : Cx} {xc : Nat → Option Bool} {i j : Nat} {eh : Expr} {h : HX} {t : Pi.TS} {body : List Stmt} {x n f : Str} {cv : Value} {np pos pos' pos2 pf : Pos}
theorem psi_trya (hs : X.stack = X.env :: X.outer) (hfr : X.env.frame = some X.env.locals) (hN : X.N.Nodup) (hi : X.N[i]? = some n) (hln : X.env.kindOf n = some .local) (hc : Names X x cv) (tk : Takes X c.W)
    (hj : X.N[j]? = some f) (hlf : Loc X.env.scope f) (hff : X.fn f = true ∨ X.env.scope.names.lookup f = some .local)
    (hxm : ∀ k b, xc k = some b → PySem.W.exmOne X.K (.ref (c.E.cl k)) cv = some b)
    (hb : ∀ (W : WX) (pn : List (Addr × Obj)) (xe : Value → Shared → Prop), Takes (X.tr pn xe) W → PassesOwn (model X.prog X.w) X.A X.env xe → PSsI { c with W := W } (X.tr pn xe) body t)
    (hh : PXI c X xc i eh h) (hsw : swapsWithSole [.Name f pf] eh pos2.line X.env = pure false := by rfl) (hw : swappedStores [.Name f pf] eh X.env = pure none := by rfl)
    (h1 : (assignEach [.Name f pf] X.env).map (·.2) = [assign (.Name f pf) X.env] := by rfl) :
    PSI c X (.Try body [.ExceptHandler (some (.Name x np)) (some n) [.Assign [.Name f pf] eh pos2] pos'] [] [] pos) (.trya t xc i j h) := by
  refine ps_le (ps_try_as (tb := fun W => tIS c.E W (evS c.o t))
    (ts := fun a cls d D σ H => ∃ k fs x' ρ S s, cls = .ref (c.E.cl k) ∧ d = some x' ∧ xc k = some true ∧ Wd c.E ρ S s σ H ∧ σ[i]? = some (some (.ref a)) ∧ (∃ fv, S x' = some (.xd fv) ∧ RepF c.E S ρ fv fs) ∧
      Post c.E noW σ ρ S s.l H (hv c.o k fs h s) fun v H1 => D.nx (σ.set j (some v)) H1)
    hs hfr hN hi hln hc tk hb ?_) ?_
  · intro a oe cls d pn hz hf
    refine ⟨fun pins s σ H D I hh' => ?_⟩
    obtain ⟨k, fs, x', ρ, S, s1, rfl, rfl, hk, w, h2, h3, p⟩ := hh'
    have A := pss_one (ps_asg (X := X.suite a ((a, oe) :: pn)) (pos := pos2) (hh a x' k fs oe pn hk hz hf) (pg_name hN hj hlf hff) hsw hw h1)
    exact A.run pins s σ H D I ⟨ρ, S, s1, w, h2, h3, p⟩
  · intro D σ H hh'
    obtain ⟨ρ, S, s, w, p⟩ := hh'
    refine ⟨ρ, S, s, w, ?_⟩
    have p : PostS c.E c.W σ ρ S s.l H (match evS c.o t s with
      | .ex k fs s' => (match xc k with
        | some true => bif decide (i < s'.l.length) then (match hv c.o k fs h ⟨s'.l.set i .un, s'.g⟩ with
          | .ok d s => .ok .nx ⟨(s.l.set j (.v d)).set i .un, s.g⟩
          | _ => .no) else .no
        | some false => .ex k fs s'
        | none => .no)
      | r => r) D := p
    cases ht : evS c.o t s with
    | ok fl s' => rw [ht] at p; exact p
    | no => rw [ht] at p; exact p
    | ex k fs s' =>
      rw [ht] at p
      intro ρ' S' H' σ' x' fv st w' hx rf
      cases hk : xc k with
      | none => simp only [hk] at p; exact p.elim
      | some b =>
        refine ⟨b, hxm k b hk, ?_, ?_⟩
        · rintro rfl
          intro a ha
          simp only [hk] at p
          have hlen' : i < s'.l.length := by
            by_cases q : i < s'.l.length
            · exact q
            · rw [decide_eq_false q] at p; exact p.elim
          have hlen : i < σ'.length := by rw [w'.sl.len]; exact hlen'
          rw [decide_eq_true hlen'] at p
          simp only [cond_true] at p
          refine ⟨k, fs, x', ρ', S', ⟨s'.l.set i .un, s'.g⟩, rfl, rfl, hk, ⟨w'.gr, w'.sl.unU⟩, List.getElem?_set_self hlen, ⟨fv, hx, rf⟩, ?_⟩
          cases hv' : hv c.o k fs h ⟨s'.l.set i .un, s'.g⟩ with
          | ex _ _ _ => rw [hv'] at p; exact p.elim
          | no => rw [hv'] at p; exact p.elim
          | ok d s2 =>
            rw [hv'] at p
            intro v ρ2 S2 H2 st2 w2 r2
            have st3 : Step ρ' S' (Ow σ' s'.l) H' ρ2 S2 (Ow (σ'.set i (some (.ref a))) s2.l) H2 :=
              ⟨st2.inc, st2.nρ, fun z o e => (st2.nS z o e).imp id fun y => y.imp id Ow_setU, fun z e => (st2.nB z e).imp Ow_setU id, fun z o e n1 n2 => st2.fr z o e n1 fun y => n2 (Ow_setU y), st2.dom, fun z e => Ob_setU (st2.nO z e)⟩
            refine p ρ2 S2 H2 _ ((st.trans st3).ow fun z => ⟨fun q => ?_, fun q => ?_⟩) ⟨w2.gr, (w2.sl.set r2).unU⟩
            · exact Ow_set w2.sl.len (Ow_setU q)
            · exact Ob_set w2.sl.len (Ob_setU q)
        · rintro rfl
          simp only [hk] at p
          exact p ρ' S' H' σ' x' fv st w' hx rf
/-- try: .. except X: return a constant -/
theorem psi_tryr {d : D} {e : Expr} (hs : X.stack = X.env :: X.outer) (hfr : X.env.frame = some X.env.locals) (hc : Names X x cv) (tk : Takes X c.W)
    (hxm : ∀ k b, xc k = some b → PySem.W.exmOne X.K (.ref (c.E.cl k)) cv = some b)
    (hb : ∀ (W : WX) (pn : List (Addr × Obj)) (xe : Value → Shared → Prop), Takes (X.tr pn xe) W → PassesOwn (model X.prog X.w) X.A X.env xe → PSsI { c with W := W } (X.tr pn xe) body t)
    (he : ∀ (a : Addr) (pn : List (Addr × Obj)), PEI { c with W := noW } (X.suite a pn) e (.c d)) :
    PSI c X (.Try body [.ExceptHandler (some (.Name x np)) none [.Return (some e) pos2] pos'] [] [] pos) (.tryr t xc d) := by
  refine ps_le (ps_try_only (tb := fun W => tIS c.E W (evS c.o t))
    (ts := fun a cls d' D σ H => ∃ ρ S s, Wd c.E ρ S s σ H ∧ Post c.E noW σ ρ S s.l H (.ok d s) D.rt) hs hfr hc tk hb ?_) ?_
  · intro a oe cls d' pn hz hf
    refine ⟨fun pins s σ H D I hh' => ?_⟩
    obtain ⟨ρ, S, s1, w, p⟩ := hh'
    exact (pss_one (ps_ret (pos := pos2) (he a _))).run pins s σ H D I ⟨ρ, S, s1, w, p⟩
  · intro D σ H hh'
    obtain ⟨ρ, S, s, w, p⟩ := hh'
    refine ⟨ρ, S, s, w, ?_⟩
    have p : PostS c.E c.W σ ρ S s.l H (match evS c.o t s with
      | .ex k fs s' => (match xc k with
        | some true => .ok (.rt d) s'
        | some false => .ex k fs s'
        | none => .no)
      | r => r) D := p
    cases ht : evS c.o t s with
    | ok fl s' => rw [ht] at p; exact p
    | no => rw [ht] at p; exact p
    | ex k fs s' =>
      rw [ht] at p
      intro ρ' S' H' σ' x' fv st w' hx rf
      cases hk : xc k with
      | none => simp only [hk] at p; exact p.elim
      | some b =>
        refine ⟨b, hxm k b hk, ?_, ?_⟩
        · rintro rfl
          intro a ha
          simp only [hk] at p
          refine ⟨ρ', S', s', w', fun v ρ2 S2 H2 st2 w2 r2 => ?_⟩
          exact p ρ2 S2 H2 σ' (st.trans st2) w2 v r2
        · rintro rfl
          simp only [hk] at p
          exact p ρ' S' H' σ' x' fv st w' hx rf
end
end Pi
namespace Pi
open PySem PySem.Spec PyProof.Rows L2
section
variable {P : Program} {w : World} {K : PySem.W.Frag} {mg : Str → Option Value} {base : Heap} {C fI : Addr} {f qual self word : Str} {st : Stmt} {k : Nat} {p1 p2 p3 pos : Pos}
/-- an error's own __init__ that keeps its argument -/
theorem Def.err (d : Def K fI "__init__" qual st [self, word] []) (T : OexC K C) (hno : PySem.W.findIn K (.ref C) f = some none) (Sc : FnScope [self, word] [self, word] (defScope st))
    (hbd : defBody st = [.Assign [.Attribute (.Name self p1) f p2] (.Name word p3) pos]) (h0 : Vis (defScope st) self) (h1 : Vis (defScope st) word)
    (d0 : (self == ("__debug__" : Str)) = false := by decide) (c0 : (self == ("__classdict__" : Str)) = false := by decide) (d1 : (word == ("__debug__" : Str)) = false := by decide) (c1 : (word == ("__classdict__" : Str)) = false := by decide) :
    ∃ fd, FnOk P w K mg base (L2.CX P w) (k + 1) fI fd [self, word] (spX C f) ∧ Binds K fd [self, word] [] := by
  obtain ⟨fd, F, hb⟩ := d.ex
  refine ⟨fd, F.ok (N := [self, word]) Sc (fun vs H Q E ⟨a, v, e, _⟩ => by rw [e]; rfl) fun cdv A outer s H vs Q E hr hsp => ?_, ?_⟩
  · rw [hbd]
    refine ⟨_, pss_one (ps_ost (pe_var (i := 0) rfl h0 d0 c0) (pe_var (i := 1) rfl h1 d1 c1)), ?_⟩
    obtain ⟨a, v, rfl, ha, hq⟩ := hsp
    exact ⟨v, rfl, .ref a, rfl, a, C, rfl, T, hno, .inl ⟨ha, fun dx n ne => hq dx n ne⟩⟩
  · obtain ⟨ds, h3, h4⟩ := hb 0 (Nat.zero_le _)
    cases h3
    exact h4
/-- raise X(e): what is asked of X -/
theorem Def.excF {c : Cn} {X : Cx} {x : Str} {q n : Nat} (d : Def X.K fI "__init__" qual st [self, word] []) (hq : c.E.cl q = C) (hn : n < c.E.nat) (hf : c.E.at_ n = f) (T : OexC X.K C) (hno : PySem.W.findIn X.K (.ref C) f = some none) (Sc : FnScope [self, word] [self, word] (defScope st))
    (hbd : defBody st = [.Assign [.Attribute (.Name self p1) f p2] (.Name word p3) pos]) (h0 : Vis (defScope st) self) (h1 : Vis (defScope st) word) (hm : X.mg x = some (.ref C)) (hi : PySem.W.findIn X.K (.ref C) "__init__" = some (some (.ref fI))) (ht : PySem.W.typeIn X.K (.ref fI) = some (.type "function")) (hr : Room (k + 2) X.A)
    (d0 : (self == ("__debug__" : Str)) = false := by decide) (c0 : (self == ("__classdict__" : Str)) = false := by decide) (d1 : (word == ("__debug__" : Str)) = false := by decide) (c1 : (word == ("__classdict__" : Str)) = false := by decide) : ExcF c X x q n := by
  subst hq
  subst hf
  obtain ⟨fd, h2, h3⟩ := d.err (P := X.prog) (w := X.w) (mg := X.mg) (base := X.base) (k := k) T hno Sc hbd h0 h1 d0 c0 d1 c1
  exact ⟨hn, T, hm, k + 1, fI, fd, [self, word], hi, ht, h2, hr, h3⟩
end
end Pi
/-! len(set(xs)) of a list of texts, some of them twice. -/
namespace Pi
open PySem PySem.Spec PyProof.Rows L2
theorem dcF_fst : ∀ (l a : List Str) (n : Nat), (l.foldl dcF (a, n)).1 = a ++ l
  | [], a, n => by simp
  | x :: l, a, n => by
    show (l.foldl dcF (a ++ [x], _)).1 = _
    rw [dcF_fst l]
    simp
theorem dct_snoc (l : List Str) (x : Str) : dct (l ++ [x]) = if l.any (· == x) then dct l else dct l + 1 := by
  unfold dct
  rw [List.foldl_append]
  show (if (l.foldl dcF ([], 0)).1.any (· == x) then (l.foldl dcF ([], 0)).2 else (l.foldl dcF ([], 0)).2 + 1) = _
  rw [dcF_fst l [] 0]
  rfl
theorem dct_le : ∀ l : List Str, dct l ≤ l.length := by
  suffices h : ∀ (l a : List Str) (n : Nat), (l.foldl dcF (a, n)).2 ≤ n + l.length by
    intro l
    have := h l [] 0
    simpa [dct] using this
  intro l
  induction l with
  | nil => intro a n; simp
  | cons x l ih =>
    intro a n
    show (l.foldl dcF (a ++ [x], if a.any (· == x) then n else n + 1)).2 ≤ _
    have h := ih (a ++ [x]) (if a.any (· == x) then n else n + 1)
    have h2 : (if a.any (· == x) then n else n + 1) ≤ n + 1 := by split <;> omega
    simp only [List.length_cons]
    omega
/-- the texts met so far, their number -/
abbrev Met (prog : Program) (w : World) (h : Heap) (S : Addr) (l : List Str) : Prop := h.SetOf (PySem.strKind prog w) S (fun z => l.any (· == z)) (dct l)
theorem Met.keep {prog : Program} {w : World} {h h2 : Heap} {S : Addr} {l : List Str} (m : Met prog w h S l) (k : ∀ o, h.get? S = some o → h2.get? S = some o) : Met prog w h2 S l := by
  obtain ⟨o, es, ep, tb, ho, more⟩ := m
  exact ⟨o, es, ep, tb, k _ ho, more⟩
section
variable {prog : Program} {w : World} {A : Around} {R : Result → Shared → Prop} {it : Addr} {fp wr : List Addr} {G : Array GenState → Array GenState → Prop} {n : Nat} {Pv : Nat → Value → Prop} {Tt : Nat → Shared → Prop}
theorem set_strs (W : WalksS prog w A.in1 it fp wr G n Pv Tt) (S : Addr) (away : S ∉ fp) (xs : List Str) (hx : xs.length = n) (few : n < 4000) (hval : ∀ i v, Pv i v → ∃ t, v = .str (xs.getD i Str.empty) t) :
    ∀ (k i : Nat) (s : Shared), n - i = k → i ≤ n → Tt i s → Met prog w s.heap S (xs.take i) → (∀ s2, Moved (S :: wr) G s s2 → Met prog w s2.heap S xs → R (.ok (.ret .none)) s2) →
      codeAny (model prog w) A (.builtin "set.update.loop" ⟨[.ref S, .ref it], []⟩) R s := by
  have nw : S ∉ wr := fun z => away (W.sub _ z)
  have wider : ∀ b ∈ wr, b ∈ S :: wr := fun b z => List.mem_cons_of_mem _ z
  intro k
  induction k with
  | zero =>
    intro i s e1 e2 at_ met out
    obtain rfl : i = n := by omega
    apply codeAny_builtin F.entry_set_update_loop
    rw [Around.under_plainId F.plain_set_update_loop _]
    show wpAny _ A.in1 (pyNext (.ref it) >>= _) _ _ s
    apply wpAny_bind
    apply W.done s _ _ at_
    intro s2 mv
    show wpAny _ A.in1 (ret Value.none) _ _ s2
    have all : xs.take i = xs := List.take_of_length_le (by omega)
    rw [all] at met
    exact wpAny_pure (out s2 (mv.mono wider) (met.keep fun o e => mv.heap S _ nw e))
  | succ k ih =>
    intro i s e1 e2 at_ met out
    have lt : i < n := by omega
    apply codeAny_builtin F.entry_set_update_loop
    rw [Around.under_plainId F.plain_set_update_loop _]
    show wpAny _ A.in1 (pyNext (.ref it) >>= _) _ _ s
    apply wpAny_bind
    apply W.item i s _ _ lt at_
    intro v s2 pv at2 mv
    obtain ⟨t, rfl⟩ := hval i v pv
    have met2 : Met prog w s2.heap S (xs.take i) := met.keep fun o e => mv.heap S _ nw e
    obtain ⟨x, hxi⟩ : ∃ x, x = xs.getD i Str.empty := ⟨_, rfl⟩
    rw [← hxi]
    show wpAny _ A.in1 (holding [Value.str x t] (setAdd S (.str x t)) >>= _) _ _ s2
    apply wpAny_bind
    apply wpAny_holding
    unfold setAdd
    apply wpAny_holding
    apply wpAny_bind
    apply (PySem.strKind prog w).pyHash (k := x) (strKind_is _ _ _ _)
    refine wpAny_setAddHashed_of (knd := PySem.strKind prog w) (s := { s2 with toks := s2.toks + 1 }) (strKind_is _ _ _ _) rfl met2 (by unfold scanBound; have := dct_le (xs.take i); rw [List.length_take] at this; omega) fun h3 sb met3 => ?_
    have step : xs.take (i + 1) = xs.take i ++ [x] := by
      rw [List.take_add_one, hxi, List.getD_eq_getElem?_getD, List.getElem?_eq_getElem (by omega)]
      rfl
    have met4 : Met prog w h3 S (xs.take (i + 1)) := by
      rw [step]
      refine SetOf_congr met3 (fun z => ?_) (dct_snoc _ _).symm
      rw [List.any_append]
      by_cases q : z = x
      · subst q; simp
      · have : (x == z) = false := by simpa [beq_iff_eq] using fun y : x = z => q y.symm
        simp [this, q]
    refine wpAny_pure ⟨plainId_quiet F.plain_set_update_loop _, ih (i + 1) _ (by omega) lt (W.frame _ s2 _ _ at2 (Nat.le_succ _) fun b hb o e => ?_) met4 fun s5 mv5 met5 => ?_⟩
    · rw [sb.2 b fun z : b = S => away (z ▸ hb)]; exact e
    · refine out s5 (Moved.trans W.gtrans ((mv.mono wider).then_heap (Nat.le_succ _) fun b o hb e => ?_) mv5) met5
      rw [sb.2 b fun z : b = S => hb (z ▸ List.mem_cons_self)]; exact e
end
/-- an empty set -/
abbrev bareSet (led : Bool) : Obj := ⟨.type "set", none, .set #[] 0 (.fresh 0 0 led), #[]⟩
section
variable {prog : Program} {w : World} {A : Around} {E : Value → Shared → Prop} {s : Shared}
set_option maxHeartbeats 8000000 in
theorem made_set {l : Addr} {its : Array Value} {xs : List Str} {Q : Value → Shared → Prop} (calm : A.handled = none) (li : s.heap.IsList l its) (are : PyProof.Rows.StrsAre its.toList xs) (few : xs.length < 4000)
    (q : ∀ (h2 : Heap) (tk : Nat), Met prog w h2 s.heap.objs.size xs → (∀ b o, b < s.heap.objs.size → s.heap.get? b = some o → h2.get? b = some o) → Q (.ref s.heap.objs.size) { s with heap := h2, toks := tk }) :
    wpAny (model prog w) A (call (.type "set") [.ref l]) Q E s := by
  have c0 := F.called_set.mro
  obtain ⟨c, tl, c1⟩ := c0
  have c2 := F.called_set.made
  have c3 := F.called_set.sub
  apply wpAny_call
  apply codeAny_of_tree
  show wpAny _ _ (callAny (.type "set") _) _ _ _
  apply wpAny_pure
  refine ⟨Code.quiet_builtin _ (by decide +kernel), codeAny_builtin F.entry_type_call ?_⟩
  rw [Around.under_plain (weight_type_call_type "set" [.ref l] []) rfl]
  have c4 := F.called_set.notType
  have c5 := F.called_set.canCreate
  have c6 := F.typeCall_set_1 (.ref l)
  repeat any_goals first | assumption | wp_step
  have new1 := code_set_new_1 (prog := prog) (w := w) (A := A.in1) (s := s) (.ref l) (E := E) (Q₁ := fun ob s1 => ∃ led : Bool, ob = .ref s.heap.objs.size ∧ s1 = { s with heap := s.heap.push (bareSet led) }) fun led => ⟨led, rfl, rfl⟩
  refine codeAny_mono new1 fun r s1 hr => ?_
  match r, hr with
  | .error e, hr => exact hr
  | .ok .next, hr => exact hr.elim
  | .ok .brk, hr => exact hr.elim
  | .ok .cont, hr => exact hr.elim
  | .ok (.ret ob), hr =>
    obtain ⟨led, rfl, rfl⟩ := hr
    obtain ⟨h1, e1⟩ : ∃ h1, s.heap.push (bareSet led) = h1 := ⟨_, rfl⟩
    have at_ : h1.get? s.heap.objs.size = some (bareSet led) := by rw [← e1]; exact Heap.get?_push_size _ rfl
    have big1 : h1.objs.size = s.heap.objs.size + 1 := by rw [← e1]; exact Heap.size_push ..
    have old : ∀ b o, s.heap.get? b = some o → h1.get? b = some o := fun b o e => by rw [← e1]; exact Heap.get?_push_of_some _ e
    rw [e1]
    have ty : Shared.TypeIs { s with heap := h1 } (.ref s.heap.objs.size) "set" := ⟨_, at_, rfl⟩
    have i1 := F.called_set.init.lookup
    have i2 := F.called_set.init.bind (.ref s.heap.objs.size)
    repeat any_goals first | assumption | wp_step
    refine codeAny_mono (codeAny_call_builtin (R := wants (fun r s2 => r = .none ∧ ∃ h2 tk, s2 = { s with heap := h2, toks := tk } ∧ Met prog w h2 s.heap.objs.size xs ∧ ∀ b o, b < s.heap.objs.size → s.heap.get? b = some o → h2.get? b = some o) E) F.called_set.init.plain F.entry_set_init (check_set_init_1 ty ?_)) fun r2 s2 hr2 => ?_
    · obtain ⟨ol, hol, hcl, nl, hdl⟩ := li
      obtain ⟨k1, k2, k3, k4⟩ := ol
      simp only at hcl hdl
      subst hcl hdl
      have hol1 := old _ _ hol
      have u1 := F.sub_list_set
      have u2 := F.sub_list_frozenset
      have u3 : (Value.type "list" == Value.type "dict") = false := by decide
      have li1 : h1.IsList l its := ⟨_, hol1, rfl, nl, rfl⟩
      unfold Builtin.«set.__init__» noKeywords Builtin.Frozenset.updateFrom
      generalize hPI : pyIter = PI
      wp_walk
      subst hPI
      apply wpAny_pyIter_list li1
      apply wpAny_bind
      apply wpAny_runValue
      have small : l < s.heap.objs.size := Heap.lt_size hol
      have calm3 : A.in1.in1.in1.handled = none := by simp [calm]
      have apart : l ≠ h1.objs.size := by rw [big1]; exact Nat.ne_of_lt (Nat.lt_succ_of_lt small)
      have away : s.heap.objs.size ∉ [h1.objs.size, l] := by
        rw [big1]
        simp only [List.mem_cons, List.not_mem_nil, or_false, not_or]
        exact ⟨Nat.ne_of_lt (Nat.lt_succ_self _), Nat.ne_of_gt small⟩
      have many : xs.length = its.size := by rw [← StrsAre.len_eq are, Array.length_toList]
      have vals : ∀ (i : Nat) (v : Value), its[i]? = some v → ∃ t, v = .str (xs.getD i Str.empty) t := fun i v hv => SS.strs_at are i v (by rw [Array.getElem?_toList]; exact hv)
      refine set_strs ((Walks.list calm3 _ l apart its).toS) s.heap.objs.size away xs many (by omega) vals (its.size - 0) 0 _ (by omega) (Nat.zero_le _) ⟨⟨_, Heap.get?_push_size _ rfl, rfl, rfl⟩, li1.push _⟩ ?_ ?_
      · have at2 := Heap.get?_push_of_some ({ cls := .type "list_iterator", data := .fields #[.ref l, .int 0 0] } : Obj) at_
        exact SetOf_congr ((PyProof.Rows.setObjOf_fresh (knd := PySem.strKind prog w) led).setOf at2 (by unfold scanBound; omega)) (fun _ => rfl) rfl
      · intro s5 mv met
        obtain ⟨g5, gens5, drawn5, tk5, os5⟩ := s5
        have eg : gens5 = s.gens := mv.gens
        have ed : drawn5 = s.drawn := mv.drawn
        have eo : os5 = s.os := mv.os
        subst eg ed eo
        show wpAny _ _ _ _ _ _
        apply wpAny_pure
        show wpAny _ _ (ret Value.none) _ _ _
        apply wpAny_pure
        refine ⟨rfl, g5, tk5, rfl, met, fun b o hb e => ?_⟩
        refine mv.heap b o ?_ (Heap.get?_push_of_some _ (old _ _ e))
        simp only [List.mem_cons, List.not_mem_nil, or_false, not_or]
        rw [big1]
        exact ⟨Nat.ne_of_lt hb, Nat.ne_of_lt (Nat.lt_succ_of_lt hb)⟩
    · match r2, hr2 with
      | .error e, hr2 => exact hr2
      | .ok .next, hr2 => exact hr2.elim
      | .ok .brk, hr2 => exact hr2.elim
      | .ok .cont, hr2 => exact hr2.elim
      | .ok (.ret r), hr2 =>
        obtain ⟨rfl, h2, tk, rfl, met, kept⟩ := hr2
        repeat any_goals first | assumption | wp_step
        exact q _ _ met kept
end
end Pi
namespace Pi
open PySem PySem.Spec PyProof.Rows L2
section
variable {c : Cn} {X : Cx} {a : Expr} {ta : T} {p p2 q pos : Pos}
theorem strsD_ok {E : En} {S : Hp} {ρ : List Addr} : ∀ {vs : List V} {ds : List D} {xs : List Str}, Reps E S ρ vs ds → strsD ds = some xs → vs = xs.map V.str
  | [], [], xs, .nil, e => by cases e; rfl
  | v :: vs, d :: ds, xs, .cons h r, e => by
    cases d with
    | str x =>
      have e' : (strsD ds).map (x :: ·) = some xs := e
      cases q : strsD ds with
      | none => rw [q] at e'; cases e'
      | some ys =>
        rw [q] at e'
        cases e'
        cases h
        rw [strsD_ok r q]
        rfl
    | _ => cases e
theorem strsAre : ∀ {xs : List Str} {us : List Value}, Vals (xs.map V.str) us → PyProof.Rows.StrsAre us xs
  | [], _, .nil => .nil
  | x :: xs, _, .cons r t => by
    obtain ⟨k, rfl⟩ := r
    exact .cons x k (strsAre t)
def tLset (K : PySem.W.Frag) (te : TE) : TE := fun σ H Q => te σ H fun x H1 => ∃ l, ∃ xs : List Str, x = .ref l ∧ SqL K H1 l (xs.map V.str) ∧ xs.length < 4000 ∧ Q (.int (dct xs : Nat)) H1
theorem pe_lset {te : TE} (hc : X.calm = true) (hg : Gl X "len") (hm : X.mg "len" = none) (hg2 : Gl X "set") (hm2 : X.mg "set" = none) (ha : PE X a te)
    (na : starEach [a] X.env = (false, eval a X.env) :: starEach [] X.env := by rfl) : PE X (.Call (.Name "len" p) [.Call (.Name "set" p2) [a] [] q] [] pos) (tLset X.K te) := by
  refine ⟨fun pins s σ H Q I h => ?_⟩
  refine Call_ (ld_blt I hg hm boot_len ?_)
  refine callWith_builtin1 (args_cons ?_ rfl) rfl rfl
  refine Call_ (ld_blt I hg2 hm2 boot_set ?_)
  refine callWith_type1 (args_cons (thn (ha.run pins s σ H _ I h) fun v s1 hh => args_nil ?_) na) na rfl
  obtain ⟨x, H1, I1, r1, l, xs, rfl, sq, few, q1⟩ := hh
  cases r1
  obtain ⟨its, r, pl, hz⟩ := I1.list sq
  refine made_set (I1.ok.hd hc) pl.isList (by simpa using strsAre r) few fun h2 tk met kept => args_nil ?_
  obtain ⟨o, es, ep, t, ho, hex, hd, _, _, _, hf, hn⟩ := met
  have I2 : Inv X pins σ H1 { s1 with heap := h2, toks := tk } := I1.kept fun b o e => kept b o (Heap.lt_size e) e
  have := dct_le xs
  exact call_len_set ho hex hd hf (by rw [hn]; omega) ⟨.int (dct xs : Nat), H1, I2.tok _, ⟨_, by rw [hn]⟩, q1⟩
theorem pi_lset (hK : X.K = c.E.K) (hc : X.calm = true) (hg : Gl X "len") (hm : X.mg "len" = none) (hg2 : Gl X "set") (hm2 : X.mg "set" = none) (ha : PEI c X a ta)
    (na : starEach [a] X.env = (false, eval a X.env) :: starEach [] X.env := by rfl) : PEI c X (.Call (.Name "len" p) [.Call (.Name "set" p2) [a] [] q] [] pos) (.bi .lset (.cons ta .nil)) := by
  refine pe_le (pe_lset hc hg hm hg2 hm2 ha na) fun σ H Q h => ?_
  obtain ⟨ρ, S, s, w, p⟩ := h
  have e : ev c.o (.bi .lset (.cons ta .nil)) s = (ev c.o ta s).bind fun x s => R.of (biS s.g .lset [x]) s := by
    show (evA c.o (.cons ta .nil) s).bind (fun ds s => R.of (biS s.g .lset ds) s) = _
    show ((ev c.o ta s).bind fun x s => (evA c.o .nil s).bind fun xs s => R.ok (x :: xs) s).bind (fun ds s => R.of (biS s.g .lset ds) s) = _
    cases ev c.o ta s <;> rfl
  rw [e] at p
  refine ⟨ρ, S, s, w, (Post.bind p).imp ?_⟩
  rintro x H1 ⟨ρ1, S1, s1, d1, a1, r1, p1⟩
  obtain ⟨z, e1, p2⟩ := Post.of p1
  have ho := Opd.view (s := s1) a1.wd.gr r1
  have e2 : lst1 lsetV (view s1.g d1) = some z := e1
  cases hv : view s1.g d1 with
  | lst ds =>
    rw [hv] at ho e2
    have e3 : lsetV ds = some z := e2
    obtain ⟨q, vs, rfl, sq, rs⟩ := ho.lst a1.wd.gr
    unfold lsetV at e3
    cases hs : strsD ds with
    | none => rw [hs] at e3; cases e3
    | some xs =>
      rw [hs] at e3
      have e3 : (bif decide (xs.length < 4000) then some (D.int (dct xs : Nat)) else none) = some z := e3
      by_cases few : xs.length < 4000
      · rw [decide_eq_true few] at e3
        cases e3
        exact ⟨q, xs, rfl, by rw [hK, ← strsD_ok rs hs]; exact sq, few, Post.here a1.wd (.int _) p2⟩
      · rw [decide_eq_false few] at e3
        cases e3
  | _ => rw [hv] at e2; cases e2
/-- isinstance against an own class, by the mro -/
theorem kit_own {K : PySem.W.Frag} {D C : Addr} {b : Bool} (ty : PySem.W.typeIn K (.ref C) = some (.type "type")) (h : PySem.W.mroIn K D (.ref C) = some b) (hc : ∃ b', PySem.W.mroIn K C (.ref C) = some b') (same : D = C → b = true) : PySem.W.kitOne K (.ref D) (.ref C) = some b := by
  have h1 : ((PySem.W.clsIn K C).isSome && PySem.W.typeIn K (.ref C) == some (.type "type")) = true := by
    rw [ty]
    obtain ⟨b', hc⟩ := hc
    unfold PySem.W.mroIn at hc
    cases q : PySem.W.clsIn K C with
    | none => rw [q] at hc; cases hc
    | some _ => rfl
  by_cases e : D = C
  · rw [same e, e]
    unfold PySem.W.kitOne
    simp
  · unfold PySem.W.kitOne
    rw [show (Value.ref D == Value.ref C) = false by simpa using e]
    show (if ((PySem.W.clsIn K C).isSome && PySem.W.typeIn K (.ref C) == some (.type "type")) = true then PySem.W.subIn K (.ref D) (.ref C) else none) = some b
    rw [h1]
    exact h
end
end Pi
namespace Pi
open PySem PySem.Spec PyProof.Rows L2
section
variable {c : Cn} {X : Cx} {a i e y : Expr} {ta ti te : T} {pos ap tp : Pos}
/-- o[i], x = e -/
theorem psi_setr2 {q : Nat} {x : Str} {kt : Nat} {np : Pos} (hK : X.K = c.E.K) (hc : X.calm = true) (he : PEI c X e te) (ha : PEI c X a ta) (hi : PEI c X i ti) (hN : X.N.Nodup) (hq : X.N[q]? = some x) (hx : Loc X.env.scope x)
    (hf : X.fn x = true ∨ X.env.scope.names.lookup x = some .local)
    (h0 : ∀ v, assign (.Subscript a i ap) X.env v = (do
      let ov ← holding [v] (eval a X.env)
      let iv ← holding [v, ov] (eval i X.env)
      standAt ap
      holding [v, ov, iv] (setItem ov iv v)
      release [v, ov, iv] []) := by intro _; rfl)
    (h2 : (assignEach [.Subscript a i ap, .Name x np] X.env).map (·.2) = assign (.Subscript a i ap) X.env :: (assignEach [.Name x np] X.env).map (·.2) := by rfl)
    (h3 : (assignEach [.Name x np] X.env).map (·.2) = assign (.Name x np) X.env :: (assignEach [] X.env).map (·.2) := by rfl)
    (hn : (assignEach [.Subscript a i ap, .Name x np] X.env).length = 2 := by rfl) (hst : (assignEach [.Subscript a i ap, .Name x np] X.env).findIdx? (·.1) = none := by rfl)
    (hs : swapsWithSole [.Tuple [.Subscript a i ap, .Name x np] kt tp] e pos.line X.env = pure false := by rfl) (hw : swappedStores [.Tuple [.Subscript a i ap, .Name x np] kt tp] e X.env = pure none := by rfl)
    (h1 : (assignEach [.Tuple [.Subscript a i ap, .Name x np] kt tp] X.env).map (·.2) = [assign (.Tuple [.Subscript a i ap, .Name x np] kt tp) X.env] := by rfl) :
    PSI c X (.Assign [.Tuple [.Subscript a i ap, .Name x np] kt tp] e pos) (.setr2 ta ti q te) := by
  refine ps_le (ps_asg he (pg_any (n := 2) hc (pgs_cons (pg_sub ha hi set_list h0) (pgs_cons (pg_name hN hq hx hf) pgs_nil h3) h2) hn hst) hs hw h1) ?_
  intro D σ H h
  obtain ⟨ρ, S, s, w, p⟩ := h
  refine ⟨ρ, S, s, w, (PostS.bind p).imp ?_⟩
  rintro u H1 ⟨ρ1, S1, s1, d1, a1, _, r1, p1⟩
  split at p1
  · rename_i d0 d1
    obtain ⟨ad, vs, rfl, hq', rs⟩ : ∃ ad vs, u = V.ref ad ∧ SqT c.E.K S1 ad vs ∧ Reps c.E S1 ρ1 vs [d0, d1] := by
      cases r1 with
      | tup h r => exact ⟨_, _, rfl, h, r⟩
    obtain ⟨v0, v1, rfl, r0, r1⟩ : ∃ v0 v1, vs = [v0, v1] ∧ Rep c.E S1 ρ1 v0 d0 ∧ Rep c.E S1 ρ1 v1 d1 := by
      cases rs with
      | cons h r =>
        cases r with
        | cons h' r' =>
          cases r'
          exact ⟨_, _, rfl, h, h'⟩
    have sq : SqT X.K H1 ad [v0, v1] := hK ▸ sqT_mono a1.wd.gr.sub hq'
    refine ⟨ad, [v0, v1], rfl, Or.inl sq, rfl, v0, [v1], rfl, ?_⟩
    refine ⟨ρ1, S1, s1, a1.wd, (PostS.bind p1).imp ?_⟩
    rintro y H2 ⟨ρ2, S2, s2, d2, a2, _, r2, p2⟩
    refine ⟨ρ2, S2, s2, a2.wd, (PostS.bind p2).imp ?_⟩
    rintro z H3 ⟨ρ3, S3, s3, d3, a3, _, r3, p3⟩
    split at p3
    · rename_i n k
      split at p3
      · rename_i ds hg
        split at p3
        · rename_i j hj
          cases r3
          obtain ⟨b, ws, rfl, hn, h1, h2⟩ := ref_of a3.wd.gr (r2.mono a3.inc) hg
          obtain ⟨w2, st2⟩ := a3.wd.reset (vs := ws.set j v0) (ds := ds.set j d0) hn hg (Reps.set (r0.mono (a2.inc.trans a3.inc)) j h2)
          refine ⟨b, ws, k, j, rfl, rfl, h1, by rw [h2.len]; exact hj, v1, [], rfl, rfl, ?_⟩
          have r4 : Rep c.E S3 ρ3 v1 d1 := r1.mono (a2.inc.trans a3.inc)
          exact p3 ρ3 S3 _ _ (st2.ow fun z => ⟨Ow_set w2.sl.len, Ob_set w2.sl.len⟩) ⟨w2.gr, w2.sl.set r4⟩
        · exact p3.elim
      · exact p3.elim
    · exact p3.elim
  · exact p1.elim
end
end Pi
namespace Pi
open PySem PySem.Spec PyProof.Rows L2
theorem xl_nil {P : Nat → Bool → Prop} : ∀ k b, List.lookup k ([] : List (Nat × Bool)) = some b → P k b := fun k b e => by cases e
theorem xl_cons {P : Nat → Bool → Prop} {i : Nat} {v : Bool} {L : List (Nat × Bool)} (h : P i v) (r : ∀ k b, List.lookup k L = some b → P k b) : ∀ k b, List.lookup k ((i, v) :: L) = some b → P k b := fun k b e => by
  rw [List.lookup_cons] at e
  by_cases q : k = i
  · subst q
    rw [beq_self_eq_true] at e
    cases e
    exact h
  · have : (k == i) = false := by simpa using q
    rw [this] at e
    exact r k b e
/-- what is known of an error's class -/
structure ErrC (K : PySem.W.Frag) (C fI : Addr) (f : Str) : Prop where
  ox : OexC K C
  ga : PySem.W.findIn K (.ref C) "__getattribute__" = some (some (.builtin "BaseException.__getattribute__"))
  gg : PySem.W.findIn K (.ref C) "__getattr__" = some none
  hd : PySem.W.hasDictIn K C = true
  no : PySem.W.findIn K (.ref C) f = some none
  ii : PySem.W.findIn K (.ref C) "__init__" = some (some (.ref fI))
  ti : PySem.W.typeIn K (.ref fI) = some (.type "function")
  gc : PySem.W.findIn K (.ref C) "__class__" = some (some (.builtin "object.__class__"))
  mr : PySem.W.mroIn K C (.type "object") = some true
theorem ErrC.xf {K : PySem.W.Frag} {C fI : Addr} {f : Str} (T : ErrC K C fI f) : XfC K C := ⟨T.ga, T.gg, T.ox.exC, T.hd⟩
theorem ErrC.ec {K : PySem.W.Frag} {C fI : Addr} {f : Str} (T : ErrC K C fI f) (h1 : PySem.W.specialIn K (.builtin "object.__class__") "__get__" = some (some (.builtin "getset_descriptor.__get__"))) (h2 : PySem.W.takesIn K (.builtin "object.__class__") = some true) : ExcC K C :=
  ⟨T.ga, T.gg, T.ox.exC, T.hd, T.gc, h1, h2, T.mr⟩
theorem xcf_of {c : Cn} {X : Cx} {L : List (Nat × Bool)} (h1 : ∀ k b, List.lookup k L = some b → b = true → XfC X.K (c.E.cl k)) (h2 : ∀ k b, List.lookup k L = some b → b = true → ExcC X.K (c.E.cl k)) : XcF c X (fun k => List.lookup k L) := ⟨fun k h => h1 k true h rfl, fun k h => h2 k true h rfl⟩
/-- raise X(e) in a def of the text -/
theorem Def.exc {c : Cn} {X : Cx} {x qual self word f : Str} {st : Stmt} {q n k : Nat} {C fI : Addr} {p1 p2 p3 pos : Pos} (d : Def X.K fI "__init__" qual st [self, word] []) (T : ErrC X.K C fI f) (hq : c.E.cl q = C) (hn : n < c.E.nat) (hf : c.E.at_ n = f) (Sc : FnScope [self, word] [self, word] (L2.defScope st))
    (hbd : L2.defBody st = [.Assign [.Attribute (.Name self p1) f p2] (.Name word p3) pos]) (h0 : Vis (L2.defScope st) self) (h1 : Vis (L2.defScope st) word) (hm : X.mg x = some (.ref C)) (hr : L2.Room (k + 2) X.A)
    (d0 : (self == ("__debug__" : Str)) = false := by decide) (c0 : (self == ("__classdict__" : Str)) = false := by decide) (d1 : (word == ("__debug__" : Str)) = false := by decide) (c1 : (word == ("__classdict__" : Str)) = false := by decide) : ExcF c X x q n :=
  d.excF hq hn hf T.ox T.no Sc hbd h0 h1 hm T.ii T.ti hr d0 c0 d1 c1
end Pi
namespace Pi
open PySem PySem.Spec PyProof.Rows L2
theorem dl_rngd {E : En} {ρ : List Addr} {lo : Int} {n : Nat} {S : Hp} : Dl E ρ (Itc lo (-1) n) ((List.range n).map fun (k : Nat) => D.int (lo + k * (-1))) S := fun ρ' S' H i k _ j => by
  refine ⟨fun d e => ?_, fun e => ?_⟩
  · rw [List.getElem?_map] at e
    by_cases q : j < n
    · rw [List.getElem?_range q] at e
      cases e
      refine ⟨q, fun y H3 z => ⟨S', ?_, ?_⟩⟩
      · rw [z.1]; exact .same
      · rw [z.2]; exact .int _
    · rw [List.getElem?_eq_none (by simpa using q)] at e
      cases e
  · show n ≤ j
    have := List.getElem?_eq_none_iff.mp e
    simpa using this
section
variable {c : Cn} {X : Cx} {a b e tg : Expr} {ta tb te : T} {p pos : Pos}
/-- range(a, b, -1) -/
theorem pii_rngd (hg : Gl X "range") (hm : X.mg "range" = none) (ha : PEI c X a ta) (hb : PEI c X b tb) (he : PEI c X e te) (hs : starEach [a, b, e] X.env = (false, eval a X.env) :: starEach [b, e] X.env := by rfl) (hpl : (backTo pos (starEach [b, e] X.env)).any (·.1) = false := by rfl)
    (h1 : starEach (b :: [e]) X.env = (false, eval b X.env) :: starEach [e] X.env := by rfl) (h2 : starEach (e :: []) X.env = (false, eval e X.env) :: starEach [] X.env := by rfl) : PII c X tg (.Call (.Name "range" p) [a, b, e] [] pos) (.rngd ta tb te) := by
  refine pI_le (pi_range3 hg hm (pa_cons ha (pa_cons hb (pa_cons he pa_nil h2) h1) hs) hs hpl) fun σ H Q h => ?_
  obtain ⟨ρ, S, s, w, p⟩ := h
  refine ⟨ρ, S, s, w, (PostI.bind p).imp ?_⟩
  rintro x H1 ⟨ρ1, S1, s1, d1, a1, r1, p1⟩
  refine ⟨ρ1, S1, s1, a1.wd, (PostI.bind p1).imp ?_⟩
  rintro y H2 ⟨ρ2, S2, s2, d2, a2, r2, p2⟩
  refine ⟨ρ2, S2, s2, a2.wd, (PostI.bind p2).imp ?_⟩
  rintro z H3 ⟨ρ3, S3, s3, d3, a3, r3, p3⟩
  cases d1 <;> cases d2 <;> cases d3 <;> first
    | (exact (show False from p3).elim)
    | skip
  rename_i i j k
  cases r1
  cases r2
  cases r3
  obtain ⟨hb, p4⟩ := PostI.bif p3
  simp only [Bool.and_eq_true, decide_eq_true_eq] at hb
  obtain ⟨⟨⟨⟨q1, q2⟩, q3⟩, q4⟩, rfl⟩ := hb
  exact ⟨i, j, -1, _, rfl, RgC.neg q1 q2 q3 q4, PostI.here a3.wd dl_rngd p4⟩
end
theorem kts_cons {c : Cn} {t : Ty} {ts : List Ty} (h : Kit c t) (r : ∀ u ∈ ts, Kit c u) : ∀ u ∈ t :: ts, Kit c u := fun u hu => by
  rcases List.mem_cons.mp hu with z | z
  · rw [z]; exact h
  · exact r u z
end Pi
/-! targets within targets; great products and quotients; sum -/
namespace Pi
open PySem PySem.Spec PyProof.Rows L2
section
variable {E : En} {X : Cx}
theorem opi_mulW : OpR X (binaryOp .Mult) (rOp E .mulW) := opi_i2 op_mulW fun a b z h => by
  obtain ⟨i, j, rfl, rfl, h⟩ := i2V_inv h
  obtain ⟨h1, rfl⟩ := bif_inv h
  exact ⟨i, j, rfl, rfl, (show i.natAbs.log2 + j.natAbs.log2 < 1000000 from of_decide_eq_true h1), fun _ _ => .int _⟩
theorem opi_fdivW : OpR X (binaryOp .FloorDiv) (rOp E .fdivW) := opi_i2 op_fdivW fun a b z h => by
  obtain ⟨i, j, rfl, rfl, h⟩ := i2V_inv h
  obtain ⟨h1, rfl⟩ := bif_inv h
  rw [Bool.and_eq_true] at h1
  exact ⟨i, j, rfl, rfl, ⟨of_decide_eq_true h1.1, of_decide_eq_true h1.2⟩, fun _ _ => .int _⟩
theorem intsD_inv {S : Hp} {ρ : List Addr} : ∀ {es : List D} {is : List Int} {vs : List V}, intsD es = some is → Reps E S ρ vs es → vs = is.map V.int
  | [], is, _, h, .nil => by cases h; rfl
  | d :: es, is, _, h, .cons hd hr => by
    cases d <;> first
      | (cases h; done)
      | skip
    rename_i i
    obtain ⟨js, h1, rfl⟩ := map_inv (show (intsD es).map (i :: ·) = some is from h)
    cases hd
    rw [intsD_inv h1 hr]
    rfl
theorem bii_sum (hK : X.K = E.K) (hc : X.calm = true) : CallR X (.builtin "sum") (rBi E .sum) := by
  intro pins s σ H xs us Q I r h
  obtain ⟨ρ, S, g, ds, z, w, ho, e, gv⟩ := h
  obtain ⟨v, d, rfl, ho, e⟩ := arg1_inv ho e
  obtain ⟨es, rfl, e⟩ := lst1_inv e
  obtain ⟨is, e1, rfl⟩ := map_inv e
  obtain ⟨a, vs, rfl, sq, rr⟩ := ho.lst (s := ⟨[], g⟩) w
  cases intsD_inv e1 rr
  exact cr_sum hc pins s σ H _ us Q I r ⟨a, is, rfl, hK ▸ sq, gv.old _ (.int _)⟩
end
/-! ### targets within targets -/
def gNest (K : PySem.W.Frag) : List (Nat ⊕ List Nat) → TGs
  | [] => gNil
  | .inl i :: ts => gCons (gName i) (gNest K ts)
  | .inr is :: ts => gCons (gAny K is.length (gAll is)) (gNest K ts)
theorem gNest_ok {E : En} : ∀ (ts : List (Nat ⊕ List Nat)) {ρ : List Addr} {S : Hp} {s : Pi.S} {σ : L2.St} {H : Hp} {xs : List V} {ds : List D} {l : List SV} {Q : L2.St → Hp → Prop}, Wd E ρ S s σ H → Reps E S ρ xs ds → setNest ts ds s.l = some l →
    (∀ σ', Wd E ρ S ⟨l, s.g⟩ σ' H → (∀ a, ((Ow σ' l) a → (Ow σ s.l) a) ∧ (ObP σ' l a → ObP σ s.l a)) → Q σ' H) → gNest E.K ts xs σ H Q
  | [], ρ, S, s, σ, H, _, _, l, Q, w, .nil, e, k => by
    cases e
    exact ⟨rfl, k σ w fun _ => ⟨fun h => h, fun h => h⟩⟩
  | [], ρ, S, s, σ, H, _, _, l, Q, w, .cons _ _, e, k => by cases e
  | .inl i :: ts, ρ, S, s, σ, H, _, _, l, Q, w, .nil, e, k => by cases e
  | .inr i :: ts, ρ, S, s, σ, H, _, _, l, Q, w, .nil, e, k => by cases e
  | .inl i :: ts, ρ, S, s, σ, H, _, _, l, Q, w, .cons (v := v) (vs := vs) (d := d) (ds := ds) h r, e, k => by
    refine ⟨v, vs, rfl, ?_⟩
    have w1 : Wd E ρ S ⟨s.l.set i (.v d), s.g⟩ (σ.set i (some v)) H := ⟨w.gr, w.sl.set h⟩
    exact gNest_ok ts w1 r e fun σ' w' ow => k σ' w' fun a => ⟨fun z => Ow_set w.sl.len ((ow a).1 z), fun z => Ob_set w.sl.len ((ow a).2 z)⟩
  | .inr is :: ts, ρ, S, s, σ, H, _, _, l, Q, w, .cons (v := v) (vs := vs) (d := d) (ds := ds) h r, e, k => by
    refine ⟨v, vs, rfl, ?_⟩
    cases d <;> first
      | (cases e; done)
      | skip
    rename_i xs
    have e' : (match setAll is xs s.l with
      | some l' => setNest ts ds l'
      | none => none) = some l := e
    split at e'
    · rename_i l1 q
      cases h with
      | tup h' r' =>
        refine ⟨_, _, rfl, .inl (sqT_mono w.gr.sub h'), by rw [r'.len, setAll_len _ _ _ _ q], gAll_ok is w r' q fun σ1 w1 ow1 => ?_⟩
        exact gNest_ok ts (s := ⟨l1, s.g⟩) w1 r e' fun σ' w' ow => k σ' w' fun a => ⟨fun z => (ow1 a).1 ((ow a).1 z), fun z => (ow1 a).2 ((ow a).2 z)⟩
    · cases e'
theorem setNest_len : ∀ (ts : List (Nat ⊕ List Nat)) (ds : List D) (l l' : List SV), setNest ts ds l = some l' → ds.length = ts.length := by
  intro ts
  induction ts with
  | nil => intro ds l l' e; cases ds with | nil => rfl | cons _ _ => cases e
  | cons t ts ih =>
    intro ds l l' e
    cases t with
    | inl i => cases ds with | nil => cases e | cons d ds => simp [ih ds _ _ e]
    | inr is =>
      cases ds with
      | nil => cases e
      | cons d ds =>
        cases d <;> first
          | (cases e; done)
          | skip
        rename_i xs
        have e' : (match setAll is xs l with
          | some l' => setNest ts ds l'
          | none => none) = some l' := e
        split at e'
        · simp [ih ds _ _ e']
        · cases e'
theorem pgi_nest {c : Cn} {X : Cx} {es : List Expr} {k : Nat} {ts : List (Nat ⊕ List Nat)} {pos : Pos} (hK : X.K = c.E.K) (hc : X.calm = true) (h : PGs X es (gNest c.E.K ts)) (hl : ts.length = es.length)
    (hn : (assignEach es X.env).length = es.length := by rfl) (hst : (assignEach es X.env).findIdx? (·.1) = none := by rfl) : PGI c X (.Tuple es k pos) (.nest ts) :=
  ⟨_, pg_any hc h hn hst, fun ρ S s σ H x d l Q w r e kk => by
    cases r with
    | tup h r =>
      rename_i a vs ds
      have e' : setNest ts ds s.l = some l := e
      refine ⟨a, vs, rfl, .inl (hK ▸ sqT_mono w.gr.sub h), ?_, gNest_ok ts w r e' kk⟩
      rw [r.len, setNest_len _ _ _ _ e', hl]
    | lst h r => cases e
    | non => cases e
    | bl _ => cases e
    | int _ => cases e
    | str _ => cases e
    | ins _ _ _ => cases e
    | ref _ => cases e⟩
/-- (a, b) within a target -/
theorem pgs_in {X : Cx} {K : PySem.W.Frag} {es rest : List Expr} {k : Nat} {is : List Nat} {pos : Pos} {u : TGs} (hK : X.K = K) (hc : X.calm = true) (h : PGs X es (gAll is)) (hl : is.length = es.length) (hr : PGs X rest u)
    (hn : (assignEach es X.env).length = es.length := by rfl) (hst : (assignEach es X.env).findIdx? (·.1) = none := by rfl)
    (hs : (assignEach (.Tuple es k pos :: rest) X.env).map (·.2) = assign (.Tuple es k pos) X.env :: (assignEach rest X.env).map (·.2) := by rfl) : PGs X (.Tuple es k pos :: rest) (gCons (gAny K is.length (gAll is)) u) := by
  subst hK
  exact pgs_cons (pg_any hc h (by rw [hl]; exact hn) hst) hr hs
end Pi
/-! own operators, own truth, properties -/
namespace Pi
open PySem PySem.Spec PyProof.Rows L2
section
variable {c : Cn} {X : Cx} {a b : Expr} {ta tb : T} {pos : Pos}
theorem not_ni {z : V} {v : Value} (h : RelV z v) : v ≠ .notImplemented := fun e => by
  subst e
  cases z <;> first
    | (obtain ⟨_, h⟩ := h; cases h; done)
    | (cases h; done)
theorem cmpBack {X : Cx} {pins : List (Addr × Obj)} {σ : L2.St} {Q : VK} {v : Value} {s : Shared} (h : EP X pins σ Q v s) : PySem.W.CmpBack (EP X pins σ Q) v s := by
  obtain ⟨z, H', I, r, q⟩ := h
  have := not_ni r
  unfold PySem.W.CmpBack
  cases v <;> first
    | exact absurd rfl this
    | exact ⟨z, H', I, r, q⟩
theorem isFn_of {K : PySem.W.Frag} {f : Addr} (h : PySem.W.typeIn K (.ref f) = some (.type "function")) : PySem.W.isFn K (.ref f) = true := by
  unfold PySem.W.isFn
  rw [h]
  exact beq_self_eq_true _
def rOpm (c : Cn) (mi : Nat) : R2 := fun x y H Q => ∃ ρ S g d1 d2, Gr c.E ρ S g H ∧ Rep c.E S ρ x d1 ∧ Rep c.E S ρ y d2 ∧ PostC c.E ρ S H (own2 c.o mi d1 d2 g) Q (fun _ _ _ => False)
theorem own2_inv {o : O} {mi : Nat} {d1 d2 : D} {g : List MO} {E : En} {ρ : List Addr} {S H : Hp} {Q : VK} {Z : XK} (h : PostC E ρ S H (own2 o mi d1 d2 g) Q Z) : ∃ k f, clsS g d1 = some k ∧ clsS g d2 = some k ∧ o.meth k mi = some f ∧ PostC E ρ S H (o.call f [d1, d2] g) Q Z := by
  unfold own2 at h
  split at h
  · rename_i k hk
    cases hb : (clsS g d2 == some k) with
    | false => rw [hb] at h; exact h.elim
    | true =>
      rw [hb] at h
      simp only [cond_true] at h
      split at h
      · rename_i f hf
        exact ⟨k, f, hk, eq_of_beq hb, hf, h⟩
      · exact h.elim
  · exact h.elim
theorem own1_inv {o : O} {mi : Nat} {d1 : D} {g : List MO} {E : En} {ρ : List Addr} {S H : Hp} {Q : VK} {Z : XK} (h : PostC E ρ S H (own1 o mi d1 g) Q Z) : ∃ k f, clsS g d1 = some k ∧ o.meth k mi = some f ∧ PostC E ρ S H (o.call f [d1] g) Q Z := by
  unfold own1 at h
  split at h
  · rename_i k hk
    split at h
    · rename_i f hf
      exact ⟨k, f, hk, hf, h⟩
    · exact h.elim
  · exact h.elim
theorem opm_run {m : Str} {mi : Nat} (T : Slotted c X m 2 (fun k => c.o.meth k mi)) (tk : Takes X c.W) {pins : List (Addr × Obj)} {s : Shared} {σ : L2.St} {H : Hp} {x y : V} {v u : Value} {Q : VK} (I : L2.Inv X pins σ H s) (rx : RelV x v) (ry : RelV y u) (h : rOpm c mi x y H Q) :
    ∃ p q C od C' od' C'' f, v = .ref p ∧ u = .ref q ∧ c.E.co C = true ∧ PySem.W.InstAt s.heap p od (c.E.cl C) (some C') ∧ PySem.W.InstAt s.heap q od' (c.E.cl C) (some C'') ∧ PySem.W.findIn X.K (.ref (c.E.cl C)) m = some (some (.ref f)) ∧ PySem.W.typeIn X.K (.ref f) = some (.type "function") ∧
      (∃ j, Room j X.A) ∧ wpAny (model X.prog X.w) X.A (call (.ref f) [.ref p, .ref q]) (PySem.W.CmpBack (EP X pins σ Q)) X.xe s := by
  obtain ⟨ρ, S, g, d1, d2, gr, r1, r2, p⟩ := h
  obtain ⟨k, f, hk, hk2, hf, p⟩ := own2_inv p
  obtain ⟨q, dx, fv, fs, rfl, h1, h2, h3⟩ := clsS_inv gr r1 hk
  obtain ⟨q2, dx2, fv2, fs2, rfl, h12, h22, h32⟩ := clsS_inv gr r2 hk2
  cases rx
  cases ry
  obtain ⟨j, fa, fd, ps, G, hgd, hr, hm, ht, hb⟩ := T.ex k f h2.1 hf
  obtain ⟨mA, O, _⟩ := ins_get I.hok h1
  obtain ⟨od, J, _⟩ := O.look
  obtain ⟨mA2, O2, _⟩ := ins_get I.hok h12
  obtain ⟨od2, J2, _⟩ := O2.look
  refine ⟨q, q2, k, _, od, _, od2, fa, rfl, rfl, h2.1, J, J2, hm, ht, ⟨j, hr⟩, ?_⟩
  have hsp : spI c.E 2 (c.o.call f) [.ref q, .ref q2] H Q (fun _ _ _ => False) := ⟨rfl, ρ, S, g, [d1, d2], gr, .cons r1 (.cons r2 .nil), p⟩
  exact thn (run_g (us := [.ref q, .ref q2]) (vs := [.ref q, .ref q2]) (dvs := []) (Z := fun _ _ _ => False) G hgd hr hb .nil (passes_call tk fun _ _ _ _ z => z.elim) I (.cons rfl (.cons rfl .nil)) hsp) fun z s1 h => cmpBack h
theorem opi_and {mi : Nat} (hK : X.K = c.E.K) (tk : Takes X c.W) (T : Slotted c X "__and__" 2 (fun k => c.o.meth k mi)) (sf : ∀ k, c.E.co k = true → PySem.W.selfFirst c.E.K (c.E.cl k) = true) : OpR X (binaryOp .BitAnd) (rOpm c mi) := by
  intro pins s σ H x y v u Q I rx ry h
  obtain ⟨p, q, C, od, C', od', C'', f, rfl, rfl, hC, J, J2, h1, h2, ⟨j, hr⟩, h3⟩ := opm_run T tk I rx ry h
  obtain ⟨m, hF⟩ := I.fr
  exact PySem.W.binop_K hF I.ok.mod.kin J J2.type (hK ▸ sf C hC) (by exact h1) (isFn_of h2) h3
theorem opi_cmp {mi : Nat} {m : Str} {op : CmpOp} (hop : ∀ a b, compareOp op a b = richCompare op a b) (hm : (cmpInfo op).2.1 = m) (tk : Takes X c.W) (T : Slotted c X m 2 (fun k => c.o.meth k mi)) : OpR X (compareOp op) (rOpm c mi) := by
  intro pins s σ H x y v u Q I rx ry h
  obtain ⟨p, q, C, od, C', od', C'', f, rfl, rfl, hC, J, J2, h1, h2, ⟨j, hr⟩, h3⟩ := opm_run T tk I rx ry h
  obtain ⟨mm, hF⟩ := I.fr
  rw [hop]
  subst hm
  exact PySem.W.cmp_K (op := op) (tb := .ref (c.E.cl C)) hr.units0 hF I.ok.mod.kin J J2.type (by simp [PySem.W.notFirst]) h1 (isFn_of h2) h3
theorem opm_le {mi : Nat} {σ : L2.St} {H : Hp} {Q : VK} (h : tI c.E c.W (ev c.o (.opm mi ta tb)) σ H Q) : tOp (rOpm c mi) (tI c.E c.W (ev c.o ta)) (tI c.E c.W (ev c.o tb)) σ H Q := by
  obtain ⟨ρ, S, s, w, p⟩ := h
  refine ⟨ρ, S, s, w, (Post.bind p).imp ?_⟩
  rintro x H1 ⟨ρ1, S1, s1, d1, a1, r1, p1⟩
  refine ⟨ρ1, S1, s1, a1.wd, (Post.bind p1).imp ?_⟩
  rintro y H2 ⟨ρ2, S2, s2, d2, a2, r2, p2⟩
  refine ⟨ρ2, S2, s2.g, d1, d2, a2.wd.gr, r1.mono a2.inc, r2, ?_⟩
  have p3 : Post c.E c.W σ ρ2 S2 s2.l H2 (R.okC s2.l (own2 c.o mi d1 d2 s2.g)) Q := p2
  cases hc : own2 c.o mi d1 d2 s2.g with
  | ok z g =>
    rw [hc] at p3
    intro v ρ' S' H' st gr rp
    obtain ⟨w3, st3⟩ := lift st a2.wd gr
    exact p3 v ρ' S' H' st3 w3 rp
  | ex _ _ _ => rw [hc] at p3; exact (show False from p3).elim
  | no => rw [hc] at p3; exact (show False from p3).elim
/-- a op b, of one own class -/
theorem pi_opm {mi : Nat} {op : Operator} (ho : OpR X (binaryOp op) (rOpm c mi)) (ha : PEI c X a ta) (hb : PEI c X b tb) : PEI c X (.BinOp a op b pos) (.opm mi ta tb) :=
  pe_le (pe_op ho ha hb) fun _ _ _ => opm_le
theorem pi_cpm {mi : Nat} {op : CmpOp} (ho : OpR X (compareOp op) (rOpm c mi)) (ha : PEI c X a ta) (hb : PEI c X b tb) (hm : behindInMarks op b = false) : PEI c X (.Compare a [op] [b] pos) (.opm mi ta tb) :=
  pe_le (pe_cmpR ho ha hb hm) fun _ _ _ => opm_le
theorem pit_cpm {mi : Nat} {op : CmpOp} (ho : OpR X (compareOp op) (rOpm c mi)) (ha : PEI c X a ta) (hb : PEI c X b tb) (hm : behindInMarks op b = false) : PTI c X (.Compare a [op] [b] pos) (.opm mi ta tb) :=
  pt_le (pt_cmpR ho ha hb hm) fun _ _ _ => opm_le
/-! truth -/
def rTro (c : Cn) (mi : Nat) : V → Hp → (Bool → Hp → Prop) → Prop := fun x H Q => ∃ ρ S g d, Gr c.E ρ S g H ∧ Rep c.E S ρ x d ∧ PostC c.E ρ S H (own1 c.o mi d g) (fun v H' => ∃ k, v = .bl k ∧ Q k H') (fun _ _ _ => False)
theorem tro_run {mi : Nat} (tk : Takes X c.W) (T : Slotted c X "__bool__" 1 (fun k => c.o.meth k mi)) : TruR X (rTro c mi) := by
  intro pins s σ H x v Q I rx h
  obtain ⟨ρ, S, g, d1, gr, r1, p⟩ := h
  obtain ⟨k, f, hk, hf, p⟩ := own1_inv p
  obtain ⟨q, dx, fv, fs, rfl, h1, h2, h3⟩ := clsS_inv gr r1 hk
  cases rx
  obtain ⟨j, fa, fd, ps, G, hgd, hr, hm, ht, hb⟩ := T.ex k f h2.1 hf
  obtain ⟨mA, O, _⟩ := ins_get I.hok h1
  obtain ⟨od, J, _⟩ := O.look
  obtain ⟨mm, hF⟩ := I.fr
  have hsp : spI c.E 1 (c.o.call f) [.ref q] H (fun v H' => ∃ k, v = .bl k ∧ Q k H') (fun _ _ _ => False) := ⟨rfl, ρ, S, g, [d1], gr, .cons r1 .nil, p⟩
  refine PySem.W.truthy_K hF I.ok.mod.kin J hm (isFn_of ht) ?_
  refine thn (run_g (us := [.ref q]) (vs := [.ref q]) (dvs := []) (Z := fun _ _ _ => False) G hgd hr hb .nil (passes_call tk fun _ _ _ _ z => z.elim) I (.cons rfl .nil) hsp) ?_
  rintro z s1 ⟨w, H1, I1, rw', b, rfl, qq⟩
  cases rw'
  exact ⟨H1, I1, qq⟩
theorem pit_tro {mi : Nat} (ho : TruR X (rTro c mi)) (ha : PEI c X a ta) (he : ∀ whole, isTrue a X.env whole = (do let v ← whole; standAt a.pos; holding [v] (truthy v)) := by intro _; rfl) : PTI c X a (.tro mi ta) :=
  pt_le (pt_truthR ha ho he) fun σ H Q h => by
    obtain ⟨ρ, S, s, w, p⟩ := h
    refine ⟨ρ, S, s, w, (Post.bind p).imp ?_⟩
    rintro x H1 ⟨ρ1, S1, s1, d1, a1, r1, p1⟩
    refine ⟨ρ1, S1, s1.g, d1, a1.wd.gr, r1, ?_⟩
    have p3 : Post c.E c.W σ ρ1 S1 s1.l H1 (R.okB s1.l (own1 c.o mi d1 s1.g)) (fun v H' => ∃ k, v = .bl k ∧ Q k H') := p1
    cases hc : own1 c.o mi d1 s1.g with
    | ok z g =>
      rw [hc] at p3
      cases z <;> first
        | (exact (show False from p3).elim)
        | skip
      intro v ρ' S' H' st gr rp
      obtain ⟨w3, st3⟩ := lift st a1.wd gr
      exact p3 v ρ' S' H' st3 w3 rp
    | ex _ _ _ => rw [hc] at p3; exact (show False from p3).elim
    | no => rw [hc] at p3; exact (show False from p3).elim
end
end Pi
namespace Pi
open PySem PySem.Spec PyProof.Rows L2
section
variable {c : Cn} {X : Cx} {a b e : Expr} {ta tb : T} {pos : Pos}
/-! properties -/
structure Props (c : Cn) (X : Cx) (f : Str) (mi : Nat) : Prop where
  ex : ∀ k fn, c.E.co k = true → c.o.meth k mi = some fn → ∃ (j : Nat) (p a : Addr) (fd : FuncData) (ps : List Str), PropOf X.K (c.E.cl k) f p a ∧ FnG X.prog X.w X.K X.mg X.base j a fd ps (spI c.E 1 (c.o.call fn)) ∧ X.A.guards = some [] ∧ Room (j + 1) X.A ∧ Binds X.K fd ps []
def rPrp (c : Cn) (mi : Nat) (x : V) (H : Hp) (Q : VK) : Prop := ∃ ρ S g d, Gr c.E ρ S g H ∧ Rep c.E S ρ x d ∧ PostC c.E ρ S H (own1 c.o mi d g) Q (fun _ _ _ => False)
theorem pe_prpG {f : Str} {mi : Nat} {te : TE} (hK : X.K = c.E.K) (T : Props c X f mi) (he : PE X e te) (hab : attributeBase e f X.env (eval e X.env) = eval e X.env) : PE X (.Attribute e f pos) (fun σ H Q => te σ H fun x H1 => rPrp c mi x H1 Q) := by
  refine ⟨fun pins s σ H Q I h => ?_⟩
  refine attr_of hab (thn (he.run pins s σ H _ I h) fun u s1 ⟨x, H1, I1, rx, q⟩ => ?_)
  obtain ⟨ρ, S, g, d, gr, r1, p⟩ := q
  obtain ⟨k, f', hk, hf, p⟩ := own1_inv p
  obtain ⟨q, dx, fv, fs, rfl, h1, h2, h3⟩ := clsS_inv gr r1 hk
  cases rx
  obtain ⟨j, pp, fa, fd, ps, hp, G, hgd, hr, hb⟩ := T.ex k f' h2.1 hf
  have cc : Cls X.K (c.E.cl k) := hK ▸ (c.E.cok k h2.1).1
  obtain ⟨mA, O, _⟩ := ins_get I1.hok h1
  obtain ⟨od, J, _⟩ := O.look
  obtain ⟨rest, hrec⟩ := hp.rec_
  have I2 := I1.tok (s1.toks + 1)
  have hsp : spI c.E 1 (c.o.call f') [.ref q] H1 Q (fun _ _ _ => False) := ⟨rfl, ρ, S, g, [d], gr, .cons r1 .nil, p⟩
  have hl := G.len _ _ _ _ hsp
  have hcl : (PySem.W.clsIn X.K (c.E.cl k)).isSome = true := by
    obtain ⟨cd, hc, _⟩ := PySem.W.any_some cc.hd
    rw [hc]
    rfl
  refine PySem.W.get_bind I1.kIn J (PySem.W.plainGet_of (cc.get f)).1 (PySem.W.findObj_data hcl hp.at_ hp.get hp.tak) (PySem.W.plainGet_of (cc.get f)).2 (wpAny_call (PySem.W.prop_get (s := { s1 with toks := s1.toks + 1 }) I1.kIn hrec ?_))
  refine codeAny_mono (G.run X.A.in1 X.stack { s1 with toks := s1.toks + 1 } H1 ⟨[.ref q], []⟩ [.ref q] [.ref q] Q (fun _ _ _ => False) hgd hr.in1 I2.env0.in1 (by
    have := hb { s1 with toks := s1.toks + 1 } [.ref q] I2.kIn (by simpa using hl)
    simpa using this) (.cons rfl .nil) hsp) fun r s' hq => ?_
  cases r with
  | error er => obtain ⟨_, _, _, _, _, _, _, _, _, _, _, _, hE⟩ := hq; exact hE.elim
  | ok fl =>
    cases fl with
    | ret u =>
      obtain ⟨v, H', I3, rv, q3⟩ := I2.after hq
      show wpAny _ _ (handedOut u) _ _ _
      rw [PySem.W.handedOut_of (handed_of rv)]
      exact wpAny_pure ⟨v, H', I3, rv, q3⟩
    | next => exact False.elim hq
    | brk => exact False.elim hq
    | cont => exact False.elim hq
/-- e.f, a property -/
theorem pi_prp {f : Str} {mi : Nat} (hK : X.K = c.E.K) (T : Props c X f mi) (he : PEI c X e ta) (hab : attributeBase e f X.env (eval e X.env) = eval e X.env := by rfl) : PEI c X (.Attribute e f pos) (.prp mi ta) :=
  pe_le (pe_prpG hK T he hab) fun σ H Q h => by
    obtain ⟨ρ, S, s, w, p⟩ := h
    refine ⟨ρ, S, s, w, (Post.bind p).imp ?_⟩
    rintro x H1 ⟨ρ1, S1, s1, d1, a1, r1, p1⟩
    refine ⟨ρ1, S1, s1.g, d1, a1.wd.gr, r1, ?_⟩
    have p3 : Post c.E c.W σ ρ1 S1 s1.l H1 (R.okC s1.l (own1 c.o mi d1 s1.g)) Q := p1
    cases hc : own1 c.o mi d1 s1.g with
    | ok z g =>
      rw [hc] at p3
      intro v ρ' S' H' st gr rp
      obtain ⟨w3, st3⟩ := lift st a1.wd gr
      exact p3 v ρ' S' H' st3 w3 rp
    | ex _ _ _ => rw [hc] at p3; exact (show False from p3).elim
    | no => rw [hc] at p3; exact (show False from p3).elim
/-- not e, where e is an own instance -/
theorem pe_notR {r : V → Hp → (Bool → Hp → Prop) → Prop} {te : TE} (ha : PE X a te) (hr : TruR X r) : PE X (.UnaryOp .Not a pos) (fun σ H Q => te σ H fun x H' => r x H' fun k H2 => Q (.bl !k) H2) := by
  refine ⟨fun pins s σ H Q I h => ?_⟩
  refine UnaryOp_ (thn (ha.run pins s σ H _ I h) fun v s1 ⟨x, H1, I1, r1, q1⟩ => ?_)
  exact not_of (wpAny_mono (hr pins s1 σ H1 x v _ I1 r1 q1) (fun b s2 hq => by
    obtain ⟨H2, I2, q⟩ := hq
    exact ⟨.bl (!b), H2, I2, rfl, q⟩) fun _ _ z => z)
theorem pi_ntro {mi : Nat} (ho : TruR X (rTro c mi)) (ha : PEI c X a ta) : PEI c X (.UnaryOp .Not a pos) (.not (.tro mi ta)) :=
  pe_le (pe_notR ha ho) fun σ H Q h => by
    obtain ⟨ρ, S, s, w, p⟩ := h
    refine ⟨ρ, S, s, w, ?_⟩
    have p0 : Post c.E c.W σ ρ S s.l H (((ev c.o ta s).bind fun x s => R.okB s.l (own1 c.o mi x s.g)).bind fun x s => match x with
      | .bl b => R.ok (.bl (!b)) s
      | _ => R.no) Q := p
    cases hv : ev c.o ta s with
    | no => rw [hv] at p0; exact p0.elim
    | ex k fs s' => rw [hv] at p0; exact p0
    | ok d1 s1 =>
      rw [hv] at p0
      have p1 : Post c.E c.W σ ρ S s.l H ((R.okB s1.l (own1 c.o mi d1 s1.g)).bind fun x s => match x with
        | .bl b => R.ok (.bl (!b)) s
        | _ => R.no) Q := p0
      intro v1 ρ1 S1 H1 st1 w1 r1
      refine ⟨ρ1, S1, s1.g, d1, w1.gr, r1, ?_⟩
      cases hc : own1 c.o mi d1 s1.g with
      | ok z g =>
        rw [hc] at p1
        cases z <;> first
          | (exact (show False from p1).elim)
          | skip
        intro v ρ' S' H' st gr rp
        obtain ⟨w3, st3⟩ := lift st w1 gr
        exact ⟨_, bl_of rp, p1 _ ρ' S' H' (st1.trans st3) w3 (.bl _)⟩
      | ex _ _ _ => rw [hc] at p1; exact (show False from p1).elim
      | no => rw [hc] at p1; exact (show False from p1).elim
end
end Pi
/-! o[i] = e of an own list; self.a, self.b, .. = e -/
namespace Pi
open PySem PySem.Spec PyProof.Rows L2
section
variable {c : Cn} {X : Cx} {a b e ix : Expr} {ta tb te ti : T} {pos : Pos}
theorem psi_seto {i : Nat} {x : Str} {p' ap : Pos} (hK : X.K = c.E.K) (he : PEI c X e te) (hi : PEI c X ix ti) (hN : X.N[i]? = some x := by rfl) (hv : Vis X.env.scope x := by first | exact Or.inl rfl | exact Or.inr (Or.inl rfl) | exact Or.inr (Or.inr rfl))
    (h0 : ∀ v, assign (.Subscript (.Name x p') ix ap) X.env v = (do
      let ov ← holding [v] (eval (.Name x p') X.env)
      let iv ← holding [v, ov] (eval ix X.env)
      standAt ap
      holding [v, ov, iv] (setItem ov iv v)
      release [v, ov, iv] []) := by intro _; rfl)
    (hd : (x == ("__debug__" : Str)) = false := by decide) (hcd : (x == ("__classdict__" : Str)) = false := by decide)
    (hs : swapsWithSole [.Subscript (.Name x p') ix ap] e pos.line X.env = pure false := by rfl) (hw : swappedStores [.Subscript (.Name x p') ix ap] e X.env = pure none := by rfl)
    (h1 : (assignEach [.Subscript (.Name x p') ix ap] X.env).map (·.2) = [assign (.Subscript (.Name x p') ix ap) X.env] := by rfl) : PSI c X (.Assign [.Subscript (.Name x p') ix ap] e pos) (.seto i ti te) :=
  ps_le (ps_asg he (pg_sub (pe_var hN hv hd hcd) hi set_list h0) hs hw h1) fun D σ H h => by
    obtain ⟨ρ, S, s, w, p⟩ := h
    refine ⟨ρ, S, s, w, (PostS.bind p).imp ?_⟩
    rintro y H1 ⟨ρ1, S1, s1, d1, a1, _, r1, p1⟩
    obtain ⟨ho, p1⟩ := PostS.bif p1
    obtain ⟨ds0, h0⟩ := isOwn_inv ho
    obtain ⟨q, vs0, q1, q2, q3, q4, q5⟩ := a1.wd.sl.own i ds0 h0
    refine ⟨.ref q, q1, ρ1, S1, s1, a1.wd, (PostS.bind p1).imp ?_⟩
    rintro z H2 ⟨ρ2, S2, s2, d2, a2, _, r2, p2⟩
    split at p2
    · rename_i ds k hk
      split at p2
      · rename_i j hj
        cases r2
        obtain ⟨q', vs, z1, z2, z3, z4, z5⟩ := a2.wd.sl.own i ds hk
        rw [q1] at z1
        cases z1
        obtain ⟨w2, st2⟩ := a2.wd.regrow hk q1 (Reps.set (r1.mono a2.inc) j z3)
        exact ⟨q, vs, k, j, rfl, rfl, z2, by rw [z3.len]; exact hj, p2 ρ2 S2 _ σ st2 w2⟩
      · exact p2.elim
    · exact p2.elim
/-! ### self.a, self.b = e -/
theorem setf_step {ρ : List Addr} {S H : Hp} {s : Pi.S} {σ : L2.St} {k n : Nat} {fs : List (Nat × Pi.D)} {y : V} {d : Pi.D} (w : Wd c.E ρ S s σ H) (e0 : s.l[(0 : Nat)]? = some (.ob k fs)) (r1 : Rep c.E S ρ y d) (hfo : c.E.fo k n = true) :
    ∃ a dx fv, σ[(0 : Nat)]? = some (some (.ref a)) ∧ H a = some (.ins (c.E.cl k) dx fv) ∧ c.E.co k = true ∧ fv.length = fs.length ∧
      Step ρ S (Ow σ s.l) H ρ S (Ow σ (s.l.set 0 (.ob k (putN n d fs)))) (upd H a (.ins (c.E.cl k) dx (putF (c.E.at_ n) y fv))) ∧
      Wd c.E ρ S ⟨s.l.set 0 (.ob k (putN n d fs)), s.g⟩ σ (upd H a (.ins (c.E.cl k) dx (putF (c.E.at_ n) y fv))) := by
  obtain ⟨a, dx, fv, z1, z2, z3, z4, z5, z6⟩ := w.sl.ob 0 k fs e0
  obtain ⟨hn, hna⟩ := c.E.fok k n hfo
  refine ⟨a, dx, fv, z1, z2, z3.1, z4.len, ?_⟩
  have hi : 0 < s.l.length := (List.getElem?_eq_some_iff.mp e0).1
  have hfit : c.E.fits k (putN n d fs) := ⟨z3.1, fun q hq => by
    have aux : ∀ {fs : List (Nat × Pi.D)}, q ∈ putN n d fs → q.1 = n ∨ q ∈ fs := by
      intro fs
      induction fs with
      | nil => intro h; cases List.mem_singleton.mp h; exact .inl rfl
      | cons t r ih =>
        obtain ⟨m, x⟩ := t
        intro h
        by_cases hm : m = n
        · subst hm
          have h' : q ∈ (m, d) :: r := by
            have : putN m d ((m, x) :: r) = (m, d) :: r := by show (bif m == m then _ else _) = _; rw [beq_self_eq_true]; rfl
            rw [this] at h; exact h
          rcases List.mem_cons.mp h' with rfl | h'
          · exact .inl rfl
          · exact .inr (List.mem_cons_of_mem _ h')
        · have h' : q ∈ (m, x) :: putN n d r := by
            have : putN n d ((m, x) :: r) = (m, x) :: putN n d r := by show (bif m == n then _ else _) = _; rw [show (m == n) = false by simpa using hm]; rfl
            rw [this] at h; exact h
          rcases List.mem_cons.mp h' with rfl | h'
          · exact .inr List.mem_cons_self
          · rcases ih h' with z | z
            · exact .inl z
            · exact .inr (List.mem_cons_of_mem _ z)
    rcases aux hq with z | z
    · rw [z]; exact hfo
    · exact z3.2 _ z⟩
  have rf := z4.put hn r1
  have ne : ∀ {j : Nat} {b : Addr}, 0 ≠ j → ((∃ ds, s.l[j]? = some (.own ds)) ∨ ∃ c fs, s.l[j]? = some (.ob c fs)) → σ[j]? = some (some (.ref b)) → b ≠ a := fun {j b} hj h2 h1 z => by
    subst z
    exact w.sl.dist 0 j b hj (.inr ⟨k, fs, e0⟩) h2 z1 h1
  have old : ∀ {m : Nat}, ((∃ ds', (s.l.set 0 (.ob k (putN n d fs)))[m]? = some (.own ds')) ∨ ∃ c fs', (s.l.set 0 (.ob k (putN n d fs)))[m]? = some (.ob c fs')) → ((∃ ds', s.l[m]? = some (.own ds')) ∨ ∃ c fs, s.l[m]? = some (.ob c fs)) := fun {m} h => by
    by_cases q : 0 = m
    · subst q; exact .inr ⟨k, fs, e0⟩
    · rw [List.getElem?_set_ne q] at h; exact h
  refine ⟨⟨Inc.refl _ _, fun _ z => .inl z, fun _ _ z => .inl z, fun b z => ?_, fun b u z _ no => ?_, fun b z => ?_, fun b z => ?_⟩, ⟨w.gr.at z5 z6, by simp [w.sl.len], fun j d e => ?_, fun j es e => ?_, fun j c' fs' e => ?_, fun i j b hij h1 h2 e => ?_⟩⟩
  · obtain ⟨j, h1, h2⟩ := z
    exact .inl ⟨j, h1, old h2⟩
  · have nb : b ≠ a := fun z => no (z ▸ ⟨0, z1, .inr ⟨k, fs, e0⟩⟩)
    rw [upd_ne nb]
    exact z
  · by_cases y : b = a
    · subst y; rw [upd_same] at z; cases z
    · rw [upd_ne y] at z; exact z
  · obtain ⟨j, h1, c', fs', h2⟩ := z
    rcases own_get h2 with ⟨q, _, _⟩ | ⟨q, h2'⟩
    · subst q; exact ⟨0, h1, k, fs, e0⟩
    · exact ⟨j, h1, c', fs', h2'⟩
  · rcases own_get e with ⟨_, z, _⟩ | ⟨q, e'⟩
    · cases z
    · exact w.sl.v j d e'
  · rcases own_get e with ⟨_, z, _⟩ | ⟨q, e'⟩
    · cases z
    · obtain ⟨b, vs1, y1, y2, y3, y4, y5⟩ := w.sl.own j es e'
      exact ⟨b, vs1, y1, by rw [upd_ne (ne q (.inl ⟨_, e'⟩) y1)]; exact y2, y3, y4, y5⟩
  · rcases own_get e with ⟨q, z, _⟩ | ⟨q, e'⟩
    · cases z
      subst q
      exact ⟨a, dx, _, z1, upd_same, hfit, rf, z5, z6⟩
    · obtain ⟨b, dx', fv', y1, y2, yf, y3, y4, y5⟩ := w.sl.ob j c' fs' e'
      exact ⟨b, dx', fv', y1, by rw [upd_ne (ne q (.inr ⟨_, _, e'⟩) y1)]; exact y2, yf, y3, y4, y5⟩
  · exact w.sl.dist i j b hij (old h1) (old h2) e
def gFld (K : PySem.W.Frag) (f : Str) : TG := fun v σ H Q => ∃ a C dx fs, σ[(0 : Nat)]? = some (some (.ref a)) ∧ H a = some (.ins C dx fs) ∧ Cls K C ∧ NoAttr K C f ∧ fs.length < 1000 ∧ Q σ (upd H a (.ins C dx (putF f v fs)))
theorem pg_fld {x f : Str} {px pa : Pos} (hN : X.N[(0 : Nat)]? = some x) (hv : Vis X.env.scope x) (hd : (x == ("__debug__" : Str)) = false := by decide) (hcd : (x == ("__classdict__" : Str)) = false := by decide) : PG X (.Attribute (.Name x px) f pa) (gFld X.K f) := by
  refine ⟨fun pins s σ H v u Q I r h => ?_⟩
  obtain ⟨a, C, dx, fs, h1, h2, h3, h4, h5, h6⟩ := h
  rw [assign_Attribute]
  refine wpAny_bind (wpAny_holding (thn ((pe_var (pos := px) hN hv hd hcd).run pins s σ H (fun z H1 => z = .ref a ∧ H1 = H) I ⟨_, h1, rfl, rfl⟩) fun ov s1 ⟨z, H1, I1, rz, e1, e2⟩ => ?_))
  subst e1 e2
  obtain rfl : ov = Value.ref a := rz
  refine wpAny_bind (wpAny_standAt (wpAny_bind (wpAny_holding (setattr_ok I1 h2 h3 h4 h5 r fun s2 I2 => ?_))))
  exact wpAny_release ⟨σ, _, I2, h6⟩
def gFlds (K : PySem.W.Frag) : List Str → TGs
  | [] => gNil
  | f :: fs => gCons (gFld K f) (gFlds K fs)
theorem gFlds_ok {k : Nat} : ∀ (ns : List Nat) {ρ : List Addr} {S : Hp} {s : Pi.S} {σ : L2.St} {H : Hp} {xs : List V} {ds : List Pi.D} {fs fs' : List (Nat × Pi.D)} {Q : L2.St → Hp → Prop}, Wd c.E ρ S s σ H → Reps c.E S ρ xs ds → s.l[(0 : Nat)]? = some (.ob k fs) → putNs ns ds fs = some fs' → (∀ n ∈ ns, c.E.fo k n = true) → fs.length + ns.length < 900 →
    (∀ H', Step ρ S (Ow σ s.l) H ρ S (Ow σ (s.l.set 0 (.ob k fs'))) H' → Wd c.E ρ S ⟨s.l.set 0 (.ob k fs'), s.g⟩ σ H' → Q σ H') → gFlds c.E.K (ns.map c.E.at_) xs σ H Q
  | [], ρ, S, s, σ, H, _, _, fs, fs', Q, w, .nil, e0, e, _, _, q => by
    cases e
    have : s.l.set 0 (.ob k fs) = s.l := by
      apply List.ext_getElem?
      intro i
      by_cases z : 0 = i
      · subst z
        rw [List.getElem?_set_self (List.getElem?_eq_some_iff.mp e0).1, e0]
      · rw [List.getElem?_set_ne z]
    refine ⟨rfl, q H ?_ ?_⟩
    · rw [this]; exact Step.refl
    · rw [this]; exact w
  | [], _, _, _, _, _, _, _, _, _, _, _, .cons _ _, _, e, _, _, _ => by cases e
  | _ :: _, _, _, _, _, _, _, _, _, _, _, _, .nil, _, e, _, _, _ => by cases e
  | n :: ns, ρ, S, s, σ, H, _, _, fs, fs', Q, w, .cons (v := v) (vs := vs) (d := d) (ds := ds) h r, e0, e, hfo, hl, q => by
    have e' : putNs ns ds (putN n d fs) = some fs' := e
    obtain ⟨a, dx, fv, z1, z2, z3, z4, st, w1⟩ := setf_step w e0 h (hfo n List.mem_cons_self)
    have hi : 0 < s.l.length := (List.getElem?_eq_some_iff.mp e0).1
    simp only [List.length_cons] at hl
    have pl : ∀ (fs : List (Nat × Pi.D)), (putN n d fs).length ≤ fs.length + 1 := by
      intro fs
      induction fs with
      | nil => exact Nat.le_refl _
      | cons t r ih =>
        obtain ⟨m, x⟩ := t
        show (bif m == n then (m, d) :: r else (m, x) :: putN n d r).length ≤ _
        cases (m == n) with
        | true => simp
        | false => simp; omega
    refine ⟨v, vs, rfl, a, _, dx, fv, z1, z2, (c.E.cok k z3).1, (c.E.fok k n (hfo n List.mem_cons_self)).2, by rw [z4]; omega, ?_⟩
    refine gFlds_ok ns (s := ⟨s.l.set 0 (.ob k (putN n d fs)), s.g⟩) w1 r (by show (s.l.set 0 (.ob k (putN n d fs)))[(0 : Nat)]? = _; exact List.getElem?_set_self hi) e' (fun m hm => hfo m (List.mem_cons_of_mem _ hm)) (by have := pl fs; omega) fun H' st' w' => ?_
    have es : (s.l.set 0 (.ob k (putN n d fs))).set 0 (.ob k fs') = s.l.set 0 (.ob k fs') := List.set_set ..
    simp only [es] at st' w'
    exact q H' (st.trans st') w'
theorem putNs_len : ∀ (ns : List Nat) (ds : List Pi.D) (fs fs' : List (Nat × Pi.D)), putNs ns ds fs = some fs' → ds.length = ns.length := by
  intro ns
  induction ns with
  | nil => intro ds fs fs' e; cases ds with | nil => rfl | cons _ _ => cases e
  | cons n ns ih => intro ds fs fs' e; cases ds with | nil => cases e | cons d ds => simp [ih ds _ _ e]
theorem psi_setFs {es : List Expr} {kk k : Nat} {ns : List Nat} {tp : Pos} (hK : X.K = c.E.K) (hc : X.calm = true) (he : PEI c X e te) (hg : PGs X es (gFlds c.E.K (ns.map c.E.at_))) (hfo : ∀ n ∈ ns, c.E.fo k n = true) (hl : ns.length = es.length)
    (hn : (assignEach es X.env).length = es.length := by rfl) (hst : (assignEach es X.env).findIdx? (·.1) = none := by rfl)
    (hs : swapsWithSole [.Tuple es kk tp] e pos.line X.env = pure false := by rfl) (hw : swappedStores [.Tuple es kk tp] e X.env = pure none := by rfl)
    (h1 : (assignEach [.Tuple es kk tp] X.env).map (·.2) = [assign (.Tuple es kk tp) X.env] := by rfl) : PSI c X (.Assign [.Tuple es kk tp] e pos) (.setFs k ns te) :=
  ps_le (ps_asg he (pg_any hc hg hn hst) hs hw h1) fun D σ H h => by
    obtain ⟨ρ, S, s, w, p⟩ := h
    refine ⟨ρ, S, s, w, (PostS.bind p).imp ?_⟩
    rintro y H1 ⟨ρ1, S1, s1, d1, a1, _, r1, p1⟩
    split at p1
    · rename_i ds c' fs e0
      split at p1
      · rename_i fs' hp
        obtain ⟨hb, p2⟩ := PostS.bif p1
        rw [Bool.and_eq_true] at hb
        obtain rfl := eq_of_beq hb.1
        have hl2 := of_decide_eq_true hb.2
        cases r1 with
        | tup h r =>
          refine ⟨_, _, rfl, .inl (hK ▸ sqT_mono a1.wd.gr.sub h), by rw [r.len, putNs_len _ _ _ _ hp, hl], ?_⟩
          exact gFlds_ok ns a1.wd r e0 hp hfo hl2 fun H' st w' => p2 ρ1 S1 H' σ st w'
      · exact p1.elim
    · exact p1.elim
end
end Pi
/-! enumerate of a tuple -/
namespace PySem
open AutoSeq1 (wpAny_loadPart')
theorem pi_meets_enumT (l : Addr) (items : Array Value) (n : Nat) (dct : Option Addr) (sl : Array (Option Value)) :
    Meets (Builtin.«enumerate.__new__» ⟨[.type "enumerate", .ref l], []⟩) (fun _ R s => s.heap.get? l = some { cls := .type "tuple", dict := dct, data := .seq items n, slots := sl } ∧
      R (.ok (.ret (.ref (s.heap.push { cls := .type "tuple_iterator", data := .fields #[.ref l, .int 0 0] }).objs.size)))
        { s with heap := (s.heap.push { cls := .type "tuple_iterator", data := .fields #[.ref l, .int 0 0] }).push { cls := .type "enumerate", data := .fields #[.none, .bool false, .ref s.heap.objs.size, rawInt 0, .none, .none] } }) :=
  .of_wp fun prog w A R s h => by
    obtain ⟨hp, g, d, tk, os⟩ := s; obtain ⟨hl, h⟩ := h
    have hsub := sub_enumerate
    have hL : Heap.IsTuple (Shared.heap ⟨hp, g, d, tk, os⟩) l items := ⟨_, hl, rfl, n, rfl⟩
    wp_walk using wpAny_loadPart' hl
    refine wpAny_stack_any fun st => wpAny_pure ?_
    split
    · rename_i c _ _ _ _ _
      cases (c == Value.type "enumerate")
      · wp_walk using wpAny_loadPart' hl, wpAny_pyIter_tuple hL
        exact ⟨_, rfl, h⟩
      · wp_walk using wpAny_loadPart' hl, wpAny_pyIter_tuple hL
        exact ⟨_, rfl, h⟩
    · wp_walk using wpAny_loadPart' hl, wpAny_pyIter_tuple hL
      exact ⟨_, rfl, h⟩
theorem pi_call_enumT {prog : Program} {w : World} {A : Around} {E : Value → Shared → Prop} {s : Shared} {l : Addr} {items : Array Value} {Q : Value → Shared → Prop} (hL : s.heap.IsTuple l items)
    (h : ∀ h', IsEnum h' (s.heap.objs.size + 1) s.heap.objs.size 0 .none → h'.IsTupleIter s.heap.objs.size l 0 → h'.objs.size = s.heap.objs.size + 2 →
      (∀ b o, s.heap.get? b = some o → h'.get? b = some o) → Q (.ref (s.heap.objs.size + 1)) { s with heap := h' }) :
    wpAny (model prog w) A (call (.type "enumerate") [.ref l]) Q E s := by
  obtain ⟨⟨c, dct, dt, sl⟩, hl, hc, n, hd⟩ := hL
  replace hc : c = .type "tuple" := hc
  replace hd : dt = .seq items n := hd
  subst hc hd
  refine callType_new F.called_enumerate (by decide) (F.typeCall_enumerate_1 _) (F.newCall_enumerate_1 _) (fun obj => F.args_object_init_2 obj _) F.entry_enumerate_new
    (pi_meets_enumT l items n dct sl) ⟨hl, ?_⟩
  have hz : (s.heap.push { cls := .type "tuple_iterator", data := .fields #[.ref l, .int 0 0] }).objs.size = s.heap.objs.size + 1 := Heap.size_push ..
  show _ ∧ _
  rw [hz]
  have he : IsEnum ((s.heap.push { cls := .type "tuple_iterator", data := .fields #[.ref l, .int 0 0] }).push
      { cls := .type "enumerate", data := .fields #[.none, .bool false, .ref s.heap.objs.size, rawInt 0, .none, .none] }) (s.heap.objs.size + 1) s.heap.objs.size 0 .none := by
    have := Heap.get?_push_size (s.heap.push { cls := .type "tuple_iterator", data := .fields #[.ref l, .int 0 0] })
      (o := { cls := .type "enumerate", data := .fields #[.none, .bool false, .ref s.heap.objs.size, rawInt 0, .none, .none] }) rfl
    rw [hz] at this; exact this
  refine ⟨⟨_, he, rfl⟩, h _ he ⟨_, Heap.get?_push_of_some _ (Heap.get?_push_size _ rfl), rfl, rfl⟩ (by rw [Heap.size_push, hz]) fun b o x => Heap.get?_push_of_some _ (Heap.get?_push_of_some _ x)⟩
theorem pi_enumT_end {prog : Program} {w : World} {A : Around} {E : Value → Shared → Prop} {s : Shared} {e it l : Addr} {i : Nat} {items : Array Value} {old : Value} {k : Int} {Q : Option Value → Shared → Prop} (hh : A.handled = none)
    (he : IsEnum s.heap e it k old) (hit : s.heap.IsTupleIter it l i) (hl : s.heap.IsTuple l items) (hx : items[i]? = none)
    (hQ : ∀ h', Heap.ExtBut it s.heap h' → Q none { s with heap := h' }) : wpAny (model prog w) A (pyNext (.ref e)) Q E s := by
  have hT : s.TypeIs (.ref e) "enumerate" := ⟨_, he, rfl⟩
  unfold pyNext
  refine wpAny_bind (wpAny_attempt (wpAny_callSpecial?_slot (name := Str.ofString "__next__") hT F.slot_enumerate_next
    (wpAny_call_entry F.slot_enumerate_next hT F.entry_enumerate_next ?_ (F.args_enumerate_next_1 _))))
  show wpAny _ _ (field (.ref e) 2 >>= _) _ _ _
  refine wpAny_bind (wpAny_field he rfl (x := .ref it) rfl ?_)
  refine wpAny_bind (wpAny_nextOf_tuple_end hh hit hl hx fun h' x he' hx' => ?_)
  obtain ⟨o, ho, hc⟩ := hx'
  refine wpAny_bind (wpAny_isInstance (T := "StopIteration") (b := true) ⟨o, ho, hc⟩ isSubtype_stop ?_)
  exact wpAny_pure (hQ _ he')
end PySem
namespace Pi
open PySem PySem.Spec PyProof.Rows L2
/-- the tuple at a as it stands at each turn, each item in a new pair -/
def IteT (K : PySem.W.Frag) (a : Addr) : It :=
  ⟨fun i H => ∃ (xs : List V) (x : V), SqT K H a xs ∧ xs[i]? = some x, fun i H v H' => ∃ T x, v = .ref T ∧ H T = none ∧ H' = upd H T (.tup [.int (i : Nat), x]) ∧ ∀ xs, SqT K H a xs → xs[i]? = some x, fun i H => ∃ xs : List V, SqT K H a xs ∧ xs.length ≤ i⟩
theorem turn_enumT {P : Program} {w : World} {K : PySem.W.Frag} {elts : List Expr} {kk : Nat} {tpos : Pos} (a e it : Addr) (hai : a ≠ it) :
    Turn P w K (.Tuple elts kk tpos) (IteT K a) [e, it] e (fun i h => (∃ old, IsEnum h e it ((i : Nat) : Int) old) ∧ h.IsTupleIter it a i ∧ e ≠ it ∧ e ≠ a) where
  mem := by simp
  obj := fun i h st b hb => by
    obtain ⟨⟨old, he⟩, ⟨o, ho, hc, hd⟩, _⟩ := st
    have e' : b = e ∨ b = it := by simpa using hb
    rcases e' with z | z
    · rw [z]; exact ⟨_, he, fun v q => nomatch q⟩
    · rw [z]; exact ⟨o, ho, fun v q => by rw [hd] at q; cases q⟩
  keep := fun i h h' st k => let ⟨⟨old, he⟩, hi, hne⟩ := st; ⟨⟨old, k e (by simp) _ he⟩, hi.at fun o q => k it (by simp) o q, hne⟩
  item := by
    intro X hP hw hK hc i pins s σ H E I hf st hg
    subst hP hw hK
    obtain ⟨⟨old, he⟩, hit, hne, hea⟩ := st
    obtain ⟨xs, x, hq, hx⟩ := hg
    obtain ⟨its, rv, p, hz⟩ := I.tuple hq
    obtain ⟨u, hu, ru⟩ := rv.get hx
    have hel : e < s.heap.objs.size := Heap.lt_size he
    have hil : it < s.heap.objs.size := by obtain ⟨_, q, _⟩ := hit; exact Heap.lt_size q
    have hui : its.toArray[i]? = some u := by simpa using hu
    have hlt : i < its.toArray.size := (Array.getElem?_eq_some_iff.mp hui).1
    refine wpAny_pyNext_enum_itemD (Draws.tuple (A := X.A.in1) (I.ok.hd hc) it a hai its.toArray) he ⟨hit, p⟩ hlt hne (by simp [hne, hea]) fun z h' tk hz' ho hst hT hsz hk => ?_
    obtain rfl : z = u := by rw [hui] at hz'; exact (Option.some.inj hz').symm
    obtain ⟨hit', _⟩ := hst
    refine ⟨_, rfl, wpAny_letOwnedTupleGo_enum (s := { s with heap := h', toks := tk + 1 }) ho fun h'' he' sb => ?_⟩
    have hT2 : h''.get? s.heap.objs.size = some { cls := .type "tuple", data := .seq #[.int i tk, z] } := (sb.2 _ (Nat.ne_of_gt hel)).trans hT
    have new : ObjOk X.prog X.w (upd H s.heap.objs.size (.tup [.int (i : Nat), x])) h'' s.heap.objs.size (.tup [.int (i : Nat), x]) :=
      ⟨by show 2 ≤ sizeLine; decide, [.int i tk, z], .cons ⟨_, rfl⟩ (.cons ru .nil), ⟨_, hT2, rfl, _, rfl⟩⟩
    have I1 : L2.Inv X pins σ (upd H s.heap.objs.size (.tup [.int (i : Nat), x])) { s with heap := h'', toks := tk + 1 } :=
      I.turnedNew (ch := [e, it]) (fun b ob hb q => (sb.2 b (fun z => hb (by simp [z]))).trans (hk b ob (fun z => hb (by simp [z])) (fun z => hb (by simp [z])) q)) hf (Nat.le_refl _) new
    refine ⟨.ref s.heap.objs.size, _, I1, rfl, ⟨_, x, rfl, I.hok.fresh (Nat.le_refl _), rfl, fun ys hy => by rw [I.tuple_inj hy hq]; exact hx⟩, ⟨⟨z, ?_⟩, hit'.at fun o q => (sb.2 it (Ne.symm hne)).trans q, hne, hea⟩, fun b hb => ?_⟩
    · have e1 : ((i + 1 : Nat) : Int) = (i : Int) + 1 := by omega
      rw [e1]; exact he'
    · have hb' : b < s.heap.objs.size := by
        have e' : b = e ∨ b = it := by simpa using hb
        rcases e' with z | z
        · rw [z]; exact hel
        · rw [z]; exact hil
      rw [upd_ne (Nat.ne_of_lt hb')]
      exact (hf b hb).1
  done := by
    intro X hP hw hK hc i pins s σ H E I hf st hg
    subst hP hw hK
    obtain ⟨⟨old, he⟩, hit, hne, hea⟩ := st
    obtain ⟨xs, hq, hx⟩ := hg
    obtain ⟨its, rv, p, hz⟩ := I.tuple hq
    obtain ⟨f0, f1, f2, f3, f4, f5⟩ := hf it (by simp)
    have hl := rv.length
    exact PySem.pi_enumT_end (I.ok.hd hc) he hit p (by simp; omega) fun h' eb => ⟨rfl, I.turned (t' := s.toks) (fun b o hb q => eb b o hb q) f0 f1 f3 f4 f5⟩
  self := fun A i s Q E st h => let ⟨⟨_, he⟩, _⟩ := st; wpAny_pyIter_enum he h
def iEnumT (K : PySem.W.Frag) (ta : TA) : TI := fun σ H R => ta σ H fun vs H1 => ∃ a xs, vs = [.ref a] ∧ SqT K H1 a xs ∧ R (IteT K a) H1
theorem pI_enumT {X : Cx} {e : Expr} {ta : TA} {p pos tpos : Pos} {elts : List Expr} {kk : Nat} (hg : Gl X "enumerate") (hm : X.mg "enumerate" = none) (ha : PA X [e] ta) (hs : starEach [e] X.env = [(false, eval e X.env)] := by rfl) :
    PI X (.Tuple elts kk tpos) (.Call (.Name "enumerate" p) [e] [] pos) (iEnumT X.K ta) := by
  refine ⟨fun pins s σ H R I h => ?_⟩
  refine Call_ (ld_blt I hg hm boot_enumerate (PyProof.Rows.callWith_type1 (thn (ha.run pos pins s σ H _ I h) fun us s1 ⟨vs, H1, I1, r1, q1⟩ => ?_) hs rfl))
  obtain ⟨a, xs, ex, hq, q⟩ := q1
  subst ex
  cases r1 with
  | cons r rr =>
    cases rr
    cases r
    obtain ⟨its, rv, p', hz⟩ := I1.tuple hq
    have hal : a < s1.heap.objs.size := by obtain ⟨_, e1, _⟩ := p'; exact Heap.lt_size e1
    refine PySem.pi_call_enumT p' fun h' he hit hsz hk => wpAny_pyIter_enum he ?_
    have I2 : L2.Inv X pins σ H1 { s1 with heap := h' } := I1.kept (t' := s1.toks) hk
    refine ⟨s1.heap.objs.size + 1, [s1.heap.objs.size + 1, s1.heap.objs.size], _, _, H1, rfl, I2, turn_enumT a (s1.heap.objs.size + 1) s1.heap.objs.size (Nat.ne_of_lt hal), ⟨⟨.none, he⟩, hit, Nat.succ_ne_self _, Nat.ne_of_gt (Nat.lt_succ_of_lt hal)⟩, fun b hb => ?_, q⟩
    have e' : b = s1.heap.objs.size + 1 ∨ b = s1.heap.objs.size := by simpa using hb
    have hle : s1.heap.objs.size ≤ b := by
      rcases e' with z | z
      · rw [z]; exact Nat.le_add_right _ _
      · rw [z]; exact Nat.le_refl _
    exact I1.fpOk hle (I1.hok.fresh hle)
theorem dl_enmT {E : En} {ρ : List Addr} {a : Addr} {vs : List V} {ds : List D} {S : Hp} (h : SqT E.K S a vs) (r : Reps E S ρ vs ds) :
    Dl E ρ (IteT E.K a) (((List.range ds.length).zip ds).map fun p => .tup [.int p.1, p.2]) S := fun ρ' S' H i k fr j => by
  have h' := sqT_mono (fun a o z => k a o (i.sub a o z)) h
  have l1 := r.len
  refine ⟨fun d e => ?_, fun e => ⟨vs, h', ?_⟩⟩
  · rw [List.getElem?_map] at e
    obtain ⟨p, hp, rfl⟩ := Option.map_eq_some_iff.mp e
    obtain ⟨p1, p2⟩ := p
    obtain ⟨q1, q2⟩ := List.getElem?_zip_eq_some.mp hp
    obtain ⟨x, hx, rx⟩ := r.get q2
    have hj : j < ds.length := (List.getElem?_eq_some_iff.mp q2).1
    rw [List.getElem?_range hj] at q1
    cases q1
    refine ⟨⟨vs, x, h', hx⟩, fun z H3 ⟨T, x', e1, e2, e3, e4⟩ => ⟨upd S' T (.tup [.int (p1 : Nat), x']), ?_, ?_⟩⟩
    · rw [e3]; exact .new T _ e2
    · have a1 := e4 vs h'
      rw [hx] at a1
      cases a1
      subst e1
      have iN : Inc S' ρ' (upd S' T (.tup [.int (p1 : Nat), x])) ρ' := Inc.new (fr T e2)
      exact .tup (SqT.of upd_same) (.cons (.int _) (.cons ((rx.mono i).mono iN) .nil))
  · rw [List.getElem?_map, Option.map_eq_none_iff, List.getElem?_eq_none_iff, List.length_zip, List.length_range] at e
    omega
section
variable {c : Cn} {X : Cx} {tg e a b : Expr} {ta tb : T} {pos p : Pos}
/-- enumerate(x) of a tuple -/
theorem pii_enmT {elts : List Expr} {kk : Nat} {tpos : Pos} (hK : X.K = c.E.K) (hg : Gl X "enumerate") (hm : X.mg "enumerate" = none) (ha : PEI c X a ta) (h1 : starEach [a] X.env = [(false, eval a X.env)] := by rfl) (h2 : starEach (a :: []) X.env = (false, eval a X.env) :: starEach [] X.env := by rfl) :
    PII c X (.Tuple elts kk tpos) (.Call (.Name "enumerate" p) [a] [] pos) (.enmT ta) := by
  refine pI_le (pI_enumT hg hm (pa_cons ha pa_nil h2) h1) fun σ H Q h => ?_
  obtain ⟨ρ, S, s, w, p⟩ := h
  refine ⟨ρ, S, s, w, (PostI.bind p).imp ?_⟩
  rintro x H1 ⟨ρ1, S1, s1, d1, a1, r1, p1⟩
  cases d1 <;> first
    | (exact (show False from p1).elim)
    | skip
  rename_i ds
  cases r1 with | tup q1 e1 =>
  rw [hK]
  exact ⟨_, _, rfl, sqT_mono a1.wd.gr.sub q1, PostI.here a1.wd (dl_enmT q1 e1) p1⟩
end
end Pi
namespace Pi
open PySem PySem.Spec PyProof.Rows L2
section
variable {c : Cn} {X : Cx} {f : Addr} {ps : List Str} {dvs : List V} {n k i : Nat} {df : List D}
/-- a method that is called by its name -/
theorem Good.way {C : Addr} {m : Str} (G : Good X.prog X.w X.K X.mg X.base c.E k f ps dvs (n + 1) (c.o.call i)) (hgd : X.A.guards = some []) (hr : Room k X.A) (M : Meth X.K C m f) (j : Nat) (hj : j ≤ dvs.length) (hd : Dfl (dvs.drop j) df) : Way c X m i n C df := by
  obtain ⟨fd, h1, h2⟩ := G.ex
  obtain ⟨ds, h3, h4⟩ := h2 j hj
  exact ⟨k, f, fd, ps, _, ds, h1, hgd, hr, M, h4, h3, fun S ρ => hd.reps⟩
theorem Good.propy {C p : Addr} {m : Str} (G : Good X.prog X.w X.K X.mg X.base c.E k f ps [] 1 (c.o.call i)) (hgd : X.A.guards = some []) (hr : Room (k + 1) X.A) (M : PropOf X.K C m p f) :
    ∃ (j : Nat) (p a : Addr) (fd : FuncData) (ps : List Str), PropOf X.K C m p a ∧ FnG X.prog X.w X.K X.mg X.base j a fd ps (spI c.E 1 (c.o.call i)) ∧ X.A.guards = some [] ∧ Room (j + 1) X.A ∧ Binds X.K fd ps [] := by
  obtain ⟨fd, h1, h2⟩ := G.ex
  obtain ⟨ds, h3, h4⟩ := h2 0 (Nat.le_refl _)
  cases h3
  exact ⟨k, p, f, fd, ps, M, h1, hgd, hr, h4⟩
end
end Pi
namespace Pi
open PySem PySem.Spec PyProof.Rows L2
section
variable {c : Cn} {X : Cx} {ta : T} {pos : Pos}
/-- x, y, z = a, b, d -/
theorem psi_par3 {i j l : Nat} {x y z : Str} {a b d : Expr} {px py pz pt : Pos} {kt k2 pt2} (hc : X.calm = true) (hN : X.N.Nodup) (hi : X.N[i]? = some x) (hj : X.N[j]? = some y) (hl : X.N[l]? = some z) (hij : i ≠ j) (hil : i ≠ l) (hjl : j ≠ l)
    (hx : X.env.scope.names.lookup x = some .local) (hy : X.env.scope.names.lookup y = some .local) (hz : X.env.scope.names.lookup z = some .local) (ha : PAI c X [a, b, d] ta)
    (hw : swappedStores [.Tuple [.Name x px, .Name y py, .Name z pz] kt pt] (.Tuple [a, b, d] k2 pt2) X.env = pure (some [x, y, z])) (hs : swapsWithSole [.Tuple [.Name x px, .Name y py, .Name z pz] kt pt] (.Tuple [a, b, d] k2 pt2) pos.line X.env = pure false := by rfl) :
    PSI c X (.Assign [.Tuple [.Name x px, .Name y py, .Name z pz] kt pt] (.Tuple [a, b, d] k2 pt2) pos) (.par [i, j, l] ta) :=
  ps_le (ps_par3 hc hN hi hj hl hij hil hjl hx hy hz ha hw hs) fun D σ H h => by
    obtain ⟨ρ, S, s, w, p⟩ := h
    refine ⟨ρ, S, s, w, (PostS.bindA p).imp ?_⟩
    rintro vs H1 ⟨ρ1, S1, s1, ds, e1, a1, st1, r1, p1⟩
    cases r1 with
    | nil => exact p1.elim
    | cons q1 r1 =>
      cases r1 with
      | nil => exact p1.elim
      | cons q2 r1 =>
        cases r1 with
        | nil => exact p1.elim
        | cons q3 r1 =>
          cases r1 with
          | nil =>
            refine ⟨_, _, _, rfl, ?_⟩
            have w1 := a1.wd
            have w2 : Wd c.E ρ1 S1 ⟨s1.l.set i (.v _), s1.g⟩ (σ.set i (some _)) H1 := ⟨w1.gr, w1.sl.set q1⟩
            have w3 : Wd c.E ρ1 S1 ⟨(s1.l.set i (.v _)).set j (.v _), s1.g⟩ ((σ.set i (some _)).set j (some _)) H1 := ⟨w2.gr, w2.sl.set q2⟩
            have w4 : Wd c.E ρ1 S1 ⟨((s1.l.set i (.v _)).set j (.v _)).set l (.v _), s1.g⟩ (((σ.set i (some _)).set j (some _)).set l (some _)) H1 := ⟨w3.gr, w3.sl.set q3⟩
            exact p1 ρ1 S1 H1 _ (Step.refl.ow fun a => ⟨fun z => Ow_set w1.sl.len (Ow_set w2.sl.len (Ow_set w3.sl.len z)), fun z => Ob_set w1.sl.len (Ob_set w2.sl.len (Ob_set w3.sl.len z))⟩) w4
          | cons q4 r1 => exact p1.elim
end
end Pi
/-! a tuple of anything == () -/
namespace PySem.W
open PySem PySem.SeqAt AutoSeq1
section
variable {prog : Program} {w : World} {A : Around} {E : Value → Shared → Prop} {s : Shared}
theorem pi_tup_nil {a b : Addr} {xs : Array Value} {P : Fin → Shared → Prop} (hx : s.heap.IsTuple a xs) (hy : s.heap.IsTuple b #[]) (h : P (.done (.ret (.bool (xs.size == 0)))) s) :
    wpAny (model prog w) A (Builtin.«tuple.__eq__» ⟨[.ref a, .ref b], []⟩) P E s := by
  have hTb : s.TypeIs (.ref b) "tuple" := let ⟨o, e, c, _⟩ := hy; ⟨o, e, c⟩
  obtain ⟨oa, hoa, _, na, hda⟩ := hx
  obtain ⟨ob, hob, _, nb, hdb⟩ := hy
  show wpAny _ _ (isInstance (.ref b) (.type "tuple") >>= _) _ _ s
  refine wpAny_bind (wpAny_isInstance hTb isSubtype_tuple_tuple ?_)
  simp only [Bool.not_true, Bool.false_eq_true, if_false]
  refine wpAny_bind (wpAny_tupleItemsOf hoa hda ?_)
  refine wpAny_bind (wpAny_tupleItemsOf hob hdb ?_)
  refine wpAny_bind ?_
  refine wpAny_forIn_list _ (fun rest r s' => r.1 = none ∧ s' = s ∧ rest = []) _ ?_ ?_ _ _ ⟨rfl, rfl, by simp⟩
  · rintro ⟨u, v⟩ rest r s' ⟨_, _, z⟩
    cases z
  · rintro ⟨r1, r2⟩ s' ⟨hr, rfl, _⟩
    simp only at hr
    subst hr
    refine wpAny_pure ?_
    show P (.done (.ret (.bool (xs.size == 0)))) s'
    exact h
theorem pi_rc_nil {a b : Addr} {xs : Array Value} {Q : Value → Shared → Prop} (hu : A.units < cLine) (hx : s.heap.IsTuple a xs) (hy : s.heap.IsTuple b #[]) (h : Q (.bool (xs.size == 0)) s) :
    wpAny (model prog w) A (richCompare .Eq (.ref a) (.ref b)) Q E s := by
  have hTa : s.TypeIs (.ref a) "tuple" := let ⟨o, e, c, _⟩ := hx; ⟨o, e, c⟩
  have hTb : s.TypeIs (.ref b) "tuple" := let ⟨o, e, c, _⟩ := hy; ⟨o, e, c⟩
  exact wpAny_richCompare_same_room (op := .Eq) hTa hTb F.slot_tuple_eq (wpAny_call_entry F.slot_tuple_eq hTa F.entry_tuple_eq (pi_tup_nil hx hy ⟨_, rfl, (fun e => nomatch e), h⟩) (F.args_tuple_eq_2 _ _)) hu
end
end PySem.W
namespace Pi
open PySem PySem.Spec PyProof.Rows L2
section
variable {E : En} {X : Cx}
theorem eqEV_inv {d1 d2 : D} {k : Bool} (h : eqEV d1 d2 = some k) : ∃ a, d1 = .tup a ∧ d2 = .tup [] ∧ k = a.isEmpty := by
  unfold eqEV at h
  split at h
  · cases h; exact ⟨_, rfl, rfl, rfl⟩
  · cases h
theorem opi_eqE (hK : X.K = E.K) (hu : X.A.units + 64 < cLine) : OpR X (compareOp .Eq) (rOp E .eqE) := by
  intro pins s σ H x y v u Q I rx ry h
  obtain ⟨ρ, S, g, d1, d2, z, w, h1, h2, e, gv⟩ := h
  obtain ⟨k, e1, rfl⟩ := map_inv (show (eqEV d1 d2).map D.bl = some z from e)
  obtain ⟨a, rfl, rfl, rfl⟩ := eqEV_inv e1
  obtain ⟨p, vs, rfl, sq, r⟩ := h1.tup (s := ⟨[], g⟩) w
  obtain ⟨p', vs', rfl, sq', r'⟩ := h2.tup (s := ⟨[], g⟩) w
  cases r'
  cases rx
  cases ry
  obtain ⟨its, rv, q1, _⟩ := I.tuple (hK ▸ sq : SqT X.K H p vs)
  obtain ⟨its', rv', q2, _⟩ := I.tuple (hK ▸ sq' : SqT X.K H p' [])
  cases rv'
  have e2 : (its.toArray.size == 0) = a.isEmpty := by
    have l1 := r.len
    have l2 := rv.length
    rw [List.size_toArray]
    cases a with
    | nil => simp at l1; rw [l1] at l2; simp at l2; simp [l2.symm]
    | cons _ _ => simp at l1; rw [l1] at l2; simp [← l2]
  show wpAny (model X.prog X.w) X.A (richCompare .Eq (.ref p) (.ref p')) (EP X pins σ Q) X.xe s
  exact PySem.W.pi_rc_nil (by omega) q1 q2 ⟨.bl a.isEmpty, H, I, by rw [e2]; rfl, gv.old _ (.bl _)⟩
end
end Pi
/-! x.extend(e) of any list, sorted ints, bool(x) of own instances, x op= e of own instances -/
namespace PySem.AutoSeq1
open PySem
theorem pi_list_extend (l : Addr) (items : Array Value) (n : Nat) (b : Addr) (items2 : Array Value) (n2 : Nat) (sl : Array (Option Value)) (hc0 : ¬(!items.isEmpty && Builtin.List.listTooLong (items.size + items2.size)) = true) (hc1 : items.size ≤ sizeLine) (hs2 : items.size + items2.size ≤ sizeLine + 1) :
    Meets (Builtin.«list.extend» ⟨[.ref l, .ref b], []⟩) (fun _ R s => s.heap.get? l = some { cls := .type "list", dict := none, data := .seq items n, slots := #[] } ∧ s.heap.get? b = some { cls := .type "list", dict := none, data := .seq items2 n2, slots := sl } ∧ R (.ok (.ret Value.none)) { s with heap := s.heap.update l (Obj.mapSeq fun x => x ++ items2), toks := s.toks }) :=
  .of_wp fun prog w A R s h => by
    obtain ⟨hp, g, d, tk, os⟩ := s; obtain ⟨hl, hb, h⟩ := h; have f1 := idx_int; have f2 := sub_tuple_tuple; have f3 := sub_list_list; have f4 := sub_tuple_list; have f5 := sub_list_tuple;
    have hz' : (items ++ items2).size ≤ sizeLine + 1 := by rw [Array.size_append]; exact hs2
    wp_walk using (wpAny_updateSeq hl rfl (hz := hc1) (_hz' := hz')), wpAny_loadPart' hl, wpAny_loadPart' hb; exact ⟨_, rfl, h⟩
end PySem.AutoSeq1
namespace PySem.W
open PySem PySem.Calls PyProof.Rows
section
/-! x op= e -/
theorem inplaceOp_own {prog : Program} {w : World} {A : Around} {E : Value → Shared → Prop} {s : Shared} {K : Frag} {x C L f : Addr} {h₀ : Heap} {m : Str → Option Value} {ox : Obj} {od : Option Obj} {op : Operator} {b : Value} {Q : Value → Shared → Prop} {cd : ClassData}
    (F : Fr h₀ L s.heap m) (X₀ : K.In h₀) (I : InstAt s.heap x ox C od) (hb : Looks (model prog w) s.heap (typeOf b) (.ref C)) (hcd : clsIn K C = some cd) (hmro : cd.mro = [.ref C, .type "object"])
    (hs : findIn K (.ref C) (PySem.dunder op.info.2) = some (some (.ref f))) (hf : isFn K (.ref f) = true) (hi : findIn K (.ref C) (dunderI op.info.2) = some none) (ho : typeLookup (.type "object") (dunderI op.info.2) = pure none)
    (h : wpAny (model prog w) A (call (.ref f) [.ref x, b]) (CmpBack Q) E s) : wpAny (model prog w) A (inplaceOp op (.ref x) b) Q E s := by
  have X := X₀.keeps F.keep
  unfold inplaceOp
  refine wpAny_holding (wpAny_bind (I.type.here ?_))
  refine wpAny_bind (m := fillsInplaceSlot _ _ _) ?_
  unfold fillsInplaceSlot
  refine wpAny_bind (((looks_clsIn X hcd).andThen (f := fun cd => pure cd.mro) .now : Looks (model prog w) s.heap (mroOf (.ref C)) cd.mro).here ?_)
  rw [hmro, List.anyM_cons]
  refine wpAny_bind (wpAny_bind ((looks_findIn X hi).here ?_))
  dsimp only
  refine wpAny_pure ?_
  simp only [Bool.false_eq_true, if_false]
  rw [List.anyM_cons]
  refine wpAny_bind (wpAny_bind ?_)
  rw [ho]
  refine wpAny_pure ?_
  dsimp only
  refine wpAny_pure ?_
  simp only [Bool.false_eq_true, if_false, List.anyM_nil]
  refine wpAny_pure ?_
  simp only [Bool.false_eq_true, if_false]
  unfold binaryOp1
  refine wpAny_bind (wpAny_bind (I.type.here (wpAny_bind (hb.here (wpAny_bind ((fills_K X hcd hmro hs).here ?_))))))
  simp only [beq_self_eq_true, if_true]
  refine wpAny_bind (wpAny_pure ?_)
  simp only [Bool.and_false, Bool.false_eq_true, if_false, Bool.false_and]
  refine wpAny_bind (wpAny_pure ?_)
  simp only [Bool.false_eq_true, if_false]
  refine wpAny_bind (m := tryMethod (.ref x) _ b) ?_
  unfold tryMethod
  refine wpAny_bind (special_fn X I hs (beq_iff_eq.mp hf) (wpAny_mono h (fun v s' hv => ?_) fun _ _ e => e))
  cases v <;> first | exact hv.elim | exact wpAny_pure (wpAny_pure (wpAny_pure hv))
end
end PySem.W
namespace Pi
open PySem PySem.Spec PyProof.Rows L2
section
variable {c : Cn} {X : Cx} {a b e : Expr} {ta tb te : T} {pos : Pos}
def rExtV (K : PySem.W.Frag) : V → List V → Hp → VK → Prop := fun x vs H Q => ∃ l b xs zs, x = .ref l ∧ vs = [.ref b] ∧ H l = some (.lst xs) ∧ SqL K H b zs ∧ xs.length + zs.length ≤ sizeLine ∧ Q .non (upd H l (.lst (xs ++ zs)))
theorem mti_extend : MtM X "list.extend" (rExtV X.K) := by
  intro pins s σ H x vs v us Q I rx rv h
  obtain ⟨l, b, xs, zs, rfl, rfl, hH, hB, hz, q⟩ := h
  cases rx
  obtain ⟨u, rfl, ru⟩ := rv.one
  cases ru
  obtain ⟨z, its, n, r, hl, e⟩ := I.lstM hH
  obtain ⟨its2, r2, ⟨⟨cl, dd, dt, sls⟩, n2, e2, c1, c2, c3⟩, hl2⟩ := I.list hB
  cases c1
  cases c2
  cases c3
  have l2 := r2.length
  have hsz : its.toArray.size + its2.toArray.size ≤ sizeLine := by rw [List.size_toArray, List.size_toArray]; omega
  have hlong : ¬ (!its.toArray.isEmpty && Builtin.List.listTooLong (its.toArray.size + its2.toArray.size)) = true := by
    rw [notLongL hsz, Bool.and_false]
    exact Bool.false_ne_true
  refine call_meets F.slot_list_extend ⟨_, e, rfl⟩ F.entry_list_extend (F.args_list_extend_2 _ _)
    (AutoSeq1.pi_list_extend l its.toArray n b its2.toArray n2 sls hlong (by rw [List.size_toArray]; omega) (by omega)) ⟨e, e2, ?_⟩
  refine ⟨.non, _, I.lset (its' := its ++ its2) hH e (by simp) (r.append r2) ?_, rfl, q⟩
  rw [List.length_append]
  omega
/-- x.extend(e), x the frame's own -/
theorem psi_extv {j : Nat} {x : Str} {p' ap cp : Pos} (hK : X.K = c.E.K) (he : PEI c X e te) (hN : X.N[j]? = some x := by rfl) (hv : Vis X.env.scope x := by first | exact Or.inl rfl | exact Or.inr (Or.inl rfl) | exact Or.inr (Or.inr rfl))
    (hbase : attributeBase (.Name x p') "extend" X.env (eval (.Name x p') X.env) = eval (.Name x p') X.env := by rfl)
    (hfew : ((backTo cp (starEach [e] X.env)).all (fun x => !x.1) && (backToKw cp (keywordEach [] X.env)).all (fun x => x.1.isSome) && decide ([e].length + ([] : List Keyword).length + (if ([] : List Keyword).isEmpty then 0 else 1) < 30)) = true := by rfl)
    (hline : (ap.endLine == cp.line) = true := by rfl) (hs : starEach [e] X.env = (false, eval e X.env) :: starEach [] X.env := by rfl) (hplain : (backTo cp (starEach [] X.env)).any (·.1) = false := by rfl)
    (hd : (x == ("__debug__" : Str)) = false := by decide) (hcd : (x == ("__classdict__" : Str)) = false := by decide)
    (hsw : swapsWith (.Call (.Attribute (.Name x p') "extend" ap) [e] [] cp) none pos.line X.env = pure false := by rfl) : PSI c X (.Expr (.Call (.Attribute (.Name x p') "extend" ap) [e] [] cp) pos) (.extv j te) := by
  refine ps_le (ps_expr (pe_bm PySem.F.plainAttrs_list PySem.F.slot_list_extend PySem.F.type_list_extend mti_extend (pe_var hN hv hd hcd) (pa_cons he pa_nil hs) hbase hfew hline hs hplain) hsw) fun D σ H h => ?_
  obtain ⟨ρ, S, s, w, p⟩ := h
  obtain ⟨ho, p⟩ := PostS.bif (show PostS c.E c.W σ ρ S s.l H (bif isOwn s.l j then _ else .no) D from p)
  obtain ⟨ds0, h0⟩ := isOwn_inv ho
  obtain ⟨q, vs0, q1, q2, q3, q4, q5⟩ := w.sl.own j ds0 h0
  refine ⟨.ref q, q1, .inl ⟨rfl, vs0, SqL.of q2⟩, ρ, S, s, w, (PostS.bind p).imp ?_⟩
  rintro y H1 ⟨ρ1, S1, s1, d1, a1, st1, r1, p1⟩
  split at p1
  · rename_i xs ds hx h1
    obtain ⟨hb, p2⟩ := PostS.bif p1
    have hb := of_decide_eq_true hb
    have od := Opd.view (s := s1) a1.wd.gr r1
    rw [hx] at od
    obtain ⟨b, zs, rfl, sq, rz⟩ := od.lst a1.wd.gr
    obtain ⟨q', vs, z1, z2, z3, z4, z5⟩ := a1.wd.sl.own j ds h1
    rw [q1] at z1
    cases z1
    obtain ⟨w3, st3⟩ := a1.wd.regrow h1 q1 (z3.append rz)
    refine ⟨q, b, vs, zs, rfl, rfl, z2, hK ▸ sq, ?_, p2 ρ1 _ _ σ st3 w3⟩
    rw [z3.len, rz.len]
    exact le_line hb
  · exact p1.elim
/-! sorted ints -/
theorem sorted_uniq : ∀ {a b : List Int}, a.Pairwise (· ≤ ·) → b.Pairwise (· ≤ ·) → a.Perm b → a = b
  | [], b, _, _, h => (List.nil_perm.mp h).symm
  | x :: a, [], _, _, h => absurd h.length_eq (by simp)
  | x :: a, y :: b, ha, hb, h => by
    have h1 := List.pairwise_cons.mp ha
    have h2 := List.pairwise_cons.mp hb
    have e : x = y := by
      have hx : x ∈ y :: b := h.mem_iff.mp List.mem_cons_self
      have hy : y ∈ x :: a := h.mem_iff.mpr List.mem_cons_self
      rcases List.mem_cons.mp hx with e | hx
      · exact e
      · rcases List.mem_cons.mp hy with e | hy
        · exact e.symm
        · have := h1.1 y hy
          have := h2.1 x hx
          omega
    subst e
    rw [sorted_uniq h1.2 h2.2 (List.Perm.cons_inv h)]
theorem reps_intsD {E : En} {S : Hp} {ρ : List Addr} : ∀ is : List Int, Reps E S ρ (is.map V.int) (is.map D.int)
  | [] => .nil
  | i :: is => .cons (.int i) (reps_intsD is)
theorem bii_sort {E : En} (hK : X.K = E.K) : CallR X (.builtin "sorted") (rBi E .sort) := by
  intro pins s σ H vs us Q I rv h
  obtain ⟨ρ, S, g, ds, z, w, ho, e, gv⟩ := h
  obtain ⟨v, d, rfl, ho, e⟩ := arg1_inv ho e
  obtain ⟨es, rfl, e⟩ := lst1_inv e
  obtain ⟨is, e1, rfl⟩ := map_inv e
  obtain ⟨a, vs, rfl, sq, rr⟩ := ho.lst (s := ⟨[], g⟩) w
  cases intsD_inv e1 rr
  refine cr_sortedI pins s σ H _ us Q I rv ⟨a, is, rfl, hK ▸ sq, fun ns' p hp hs hn => ?_⟩
  have e4 : ns' = isort is := sorted_uniq hs (isort_sorted is) (hp.trans (isort_perm is).symm)
  subst e4
  exact gv.lst p _ _ rfl (reps_intsD _) hn
/-! ### own operators, plain and in place -/
theorem opi_own {mi : Nat} {op : Operator} {m : Str} (hm : PySem.dunder op.info.2 = m) (hK : X.K = c.E.K) (tk : Takes X c.W) (T : Slotted c X m 2 (fun k => c.o.meth k mi)) (sf : ∀ k, c.E.co k = true → PySem.W.selfFirst c.E.K (c.E.cl k) = true) : OpR X (binaryOp op) (rOpm c mi) := by
  subst hm
  intro pins s σ H x y v u Q I rx ry h
  obtain ⟨p, q, C, od, C', od', C'', f, rfl, rfl, hC, J, J2, h1, h2, ⟨j, hr⟩, h3⟩ := opm_run T tk I rx ry h
  obtain ⟨m, hF⟩ := I.fr
  exact PySem.W.binop_K hF I.ok.mod.kin J J2.type (hK ▸ sf C hC) (by exact h1) (isFn_of h2) h3
/-- a class right below object that has no such method -/
def NoIn (K : PySem.W.Frag) (C : Addr) (m : Str) : Prop := (∃ cd, PySem.W.clsIn K C = some cd ∧ cd.mro = [.ref C, .type "object"]) ∧ PySem.W.findIn K (.ref C) m = some none
theorem iop_own {mi : Nat} {op : Operator} {m m' : Str} (hm : PySem.dunder op.info.2 = m) (hm' : dunderI op.info.2 = m') (hK : X.K = c.E.K) (tk : Takes X c.W) (T : Slotted c X m 2 (fun k => c.o.meth k mi)) (sf : ∀ k, c.E.co k = true → NoIn c.E.K (c.E.cl k) m')
    (ho : typeLookup (.type "object") (dunderI op.info.2) = pure none) : OpR X (inplaceOp op) (rOpm c mi) := by
  subst hm
  subst hm'
  intro pins s σ H x y v u Q I rx ry h
  obtain ⟨p, q, C, od, C', od', C'', f, rfl, rfl, hC, J, J2, h1, h2, ⟨j, hr⟩, h3⟩ := opm_run T tk I rx ry h
  obtain ⟨m, hF⟩ := I.fr
  obtain ⟨⟨cd, k1, k2⟩, k3⟩ := sf C hC
  exact PySem.W.inplaceOp_own hF I.ok.mod.kin J J2.type (hK ▸ k1) k2 (by exact h1) (isFn_of h2) (hK ▸ k3) ho h3
theorem R.bind_bind {α β γ : Type} (r : R α) (k : α → Pi.S → R β) (k2 : β → Pi.S → R γ) : (r.bind k).bind k2 = r.bind fun a s => (k a s).bind k2 := by cases r <;> rfl
theorem ev_v {o : O} {i : Nat} {s : Pi.S} : ev o (.v i) s = (match s.l[i]? with
    | some (.v d) => R.ok d s
    | _ => R.no) := rfl
section
variable {i : Nat} {x : Str} {op : Operator} {p' : Pos} {k : Op} {mi : Nat}
theorem psi_augO (ho : OpR X (inplaceOp op) (rOpm c mi)) (he : PEI c X e te) (hN : X.N.Nodup) (hi : X.N[i]? = some x) (hx : Loc X.env.scope x) (hf : X.fn x = true ∨ X.env.scope.names.lookup x = some .local := by first | exact .inl rfl | exact .inr rfl) :
    PSI c X (.AugAssign (.Name x p') op e pos) (.asg (.one i) (.opm mi (.v i) te)) :=
  ps_le (ps_aug hN hi hx he (by exact ho) hf) fun D σ H h => by
    obtain ⟨ρ, S, s, w, p⟩ := h
    have p : PostS c.E c.W σ ρ S s.l H (((ev c.o (.v i) s).bind fun x s => (ev c.o te s).bind fun y s => R.okC s.l (own2 c.o mi x y s.g)).bind fun d s => R.ok F.nx ⟨s.l.set i (.v d), s.g⟩) D := p
    rw [R.bind_bind] at p
    rw [ev_v] at p
    split at p
    · rename_i d e1
      obtain ⟨v, h1, h2⟩ := w.sl.v i d e1
      refine ⟨v, h1, ρ, S, s, w, ?_⟩
      have p : PostS c.E c.W σ ρ S s.l H (((ev c.o te s).bind fun y s => R.okC s.l (own2 c.o mi d y s.g)).bind fun d s => R.ok F.nx ⟨s.l.set i (.v d), s.g⟩) D := p
      rw [R.bind_bind] at p
      refine (PostS.bind p).imp ?_
      rintro y H1 ⟨ρ1, S1, s1, d1, a1, _, r1, p1⟩
      refine ⟨ρ1, S1, s1.g, d, d1, a1.wd.gr, h2.mono a1.inc, r1, ?_⟩
      cases hc : own2 c.o mi d d1 s1.g with
      | ok z g =>
        rw [hc] at p1
        intro v ρ' S' H' st gr rp
        obtain ⟨w3, st3⟩ := lift st a1.wd gr
        exact p1 ρ' S' H' _ (st3.trans (Step.refl.ow fun a => ⟨Ow_set w3.sl.len, Ob_set w3.sl.len⟩)) ⟨w3.gr, w3.sl.set rp⟩
      | ex _ _ _ => rw [hc] at p1; exact (show False from p1).elim
      | no => rw [hc] at p1; exact (show False from p1).elim
    · exact (show False from p).elim
theorem psi_augI (ho : OpR X (inplaceOp op) (rOp c.E k)) (he : PEI c X e te) (hN : X.N.Nodup) (hi : X.N[i]? = some x) (hx : Loc X.env.scope x) (hf : X.fn x = true ∨ X.env.scope.names.lookup x = some .local := by first | exact .inl rfl | exact .inr rfl) :
    PSI c X (.AugAssign (.Name x p') op e pos) (.asg (.one i) (.op2 k (.v i) te)) :=
  ps_le (ps_aug hN hi hx he (by exact ho) hf) fun D σ H h => by
    obtain ⟨ρ, S, s, w, p⟩ := h
    have p : PostS c.E c.W σ ρ S s.l H (((ev c.o (.v i) s).bind fun x s => (ev c.o te s).bind fun y s => R.of (op2S s.g k x y) s).bind fun d s => R.ok F.nx ⟨s.l.set i (.v d), s.g⟩) D := p
    rw [R.bind_bind] at p
    rw [ev_v] at p
    split at p
    · rename_i d e1
      obtain ⟨v, h1, h2⟩ := w.sl.v i d e1
      refine ⟨v, h1, ρ, S, s, w, ?_⟩
      have p : PostS c.E c.W σ ρ S s.l H (((ev c.o te s).bind fun y s => R.of (op2S s.g k d y) s).bind fun d s => R.ok F.nx ⟨s.l.set i (.v d), s.g⟩) D := p
      rw [R.bind_bind] at p
      refine (PostS.bind p).imp ?_
      rintro y H1 ⟨ρ1, S1, s1, d1, a1, _, r1, p1⟩
      cases hc : op2S s1.g k d d1 with
      | none => rw [hc] at p1; exact (show False from p1).elim
      | some z =>
        rw [hc] at p1
        have p2 : Post c.E c.W σ ρ1 S1 s1.l H1 (.ok z s1) (fun v H' => D.nx (σ.set i (some v)) H') := by
          intro v ρ' S' H' st w3 rp
          exact p1 ρ' S' H' _ (st.trans (Step.refl.ow fun a => ⟨Ow_set w3.sl.len, Ob_set w3.sl.len⟩)) ⟨w3.gr, w3.sl.set rp⟩
        exact ⟨ρ1, S1, s1.g, _, _, z, a1.wd.gr, Opd.view (s := s1) a1.wd.gr (h2.mono a1.inc), Opd.view (s := s1) a1.wd.gr r1, hc, Post.give a1.wd p2⟩
    · exact (show False from p).elim
end
/-- x[e] of an own list -/
theorem pi_ixo {i : Nat} {x : Str} {p' : Pos} (hK : X.K = c.E.K) (hb : PEI c X b tb) (hN : X.N[i]? = some x := by rfl) (hv : Vis X.env.scope x := by first | exact Or.inl rfl | exact Or.inr (Or.inl rfl) | exact Or.inr (Or.inr rfl))
    (hd : (x == ("__debug__" : Str)) = false := by decide) (hcd : (x == ("__classdict__" : Str)) = false := by decide) (hs : PlainIx b := by exact fun _ _ => rfl) : PEI c X (.Subscript (.Name x p') b pos) (.ixo i tb) := by
  refine pe_le (pe_ix ix2 (pe_var hN hv hd hcd) hb hs) fun σ H Q h => ?_
  obtain ⟨ρ, S, s, w, p⟩ := h
  obtain ⟨ho, p⟩ := Post.bif (show Post c.E c.W σ ρ S s.l H (bif isOwn s.l i then _ else .no) Q from p)
  obtain ⟨ds0, h0⟩ := isOwn_inv ho
  obtain ⟨q, vs0, q1, q2, q3, q4, q5⟩ := w.sl.own i ds0 h0
  refine ⟨.ref q, q1, ρ, S, s, w, (Post.bind p).imp ?_⟩
  rintro y H1 ⟨ρ1, S1, s1, d1, a1, r1, p1⟩
  split at p1
  · rename_i ds h1
    obtain ⟨z, e, p3⟩ := Post.of p1
    obtain ⟨q', vs, z1, z2, z3, z4, z5⟩ := a1.wd.sl.own i ds h1
    rw [q1] at z1
    cases z1
    exact ix_core hK a1.wd.gr (.cell z2 z3) r1 e fun v rv => Post.here a1.wd rv p3
  · exact (show False from p1).elim
/-! ### data in a list of data -/
theorem inLV_inv {a b : D} {k : Bool} (h : inLV a b = some k) : ∃ p qs, toPy a = some p ∧ toPy b = some (.list qs) ∧ SeqAt.shaped p = true ∧ SeqAt.shaped (.list qs) = true ∧ k = qs.any fun z => PyData.eqv z p := by
  unfold inLV at h
  split at h
  · rename_i x xs e1 e2
    obtain ⟨hb, rfl⟩ := bif_inv h
    rw [Bool.and_eq_true] at hb
    exact ⟨x, xs, e1, e2, hb.1, hb.2, rfl⟩
  · cases h
theorem opi_inL {E : En} (hK : X.K = E.K) (hu : X.A.units + 66 < cLine) : OpR X (compareOp .In) (rOp E .inL) := by
  intro pins s σ H x y v u Q I rx ry h
  obtain ⟨ρ, S, g, d1, d2, z, w, h1, h2, e, gv⟩ := h
  obtain ⟨k, e1, rfl⟩ := map_inv (show (inLV d1 d2).map D.bl = some z from e)
  obtain ⟨p, q', e2, e3, s1, s2, rfl⟩ := inLV_inv e1
  exact op_inD (by omega) pins s σ H _ _ v u Q I rx ry ⟨p, q', hK ▸ h1.dp w e2, hK ▸ h2.dp w e3, s1, s2, gv.old _ (.bl _)⟩
theorem opi_ninL {E : En} (hK : X.K = E.K) (hu : X.A.units + 66 < cLine) : OpR X (compareOp .NotIn) (rOp E .ninL) := by
  intro pins s σ H x y v u Q I rx ry h
  obtain ⟨ρ, S, g, d1, d2, z, w, h1, h2, e, gv⟩ := h
  obtain ⟨k, e1, rfl⟩ := map_inv (show (inLV d1 d2).map (fun k => D.bl !k) = some z from e)
  obtain ⟨p, q', e2, e3, s1, s2, rfl⟩ := inLV_inv e1
  exact op_notInD (by omega) pins s σ H _ _ v u Q I rx ry ⟨p, q', hK ▸ h1.dp w e2, hK ▸ h2.dp w e3, s1, s2, gv.old _ (.bl _)⟩
end
end Pi
/-! bool(x) of own instances -/
namespace PySem.Spec
open PySem PyProof.Rows
theorem pi_bool_new {prog : Program} {w : World} {x : Value} : MeetsIn prog w (Builtin.«bool.__new__» ⟨[.type "bool", x], []⟩) (fun A R s => wpAny (model prog w) A.in1 (truthy x) (fun b s' => R (.ok (.ret (.bool b))) s') (fun e s' => R (.error e) s') s) :=
  fun A R s h => by
    have f1 := F.conv_sub_bool
    unfold Builtin.«bool.__new__»
    repeat (any_goals (first | (with_reducible refine wpAny_bind (wpAny_mono h (fun b s' hb => ?_) fun _ _ z => z)) | wp_step))
    all_goals first | exact hb | skip
end PySem.Spec
namespace Pi
open PySem PySem.Spec PyProof.Rows L2
section
variable {c : Cn} {X : Cx} {a b : Expr} {ta tb : T} {pos : Pos}
/-- an own method that a builtin calls, so far below -/
structure SlotR (c : Cn) (X : Cx) (m : Str) (n dn : Nat) (g : Nat → Option Nat) : Prop where
  ex : ∀ k f, c.E.co k = true → g k = some f → ∃ (j : Nat) (a : Addr) (fd : FuncData) (ps : List Str), FnG X.prog X.w X.K X.mg X.base j a fd ps (spI c.E n (c.o.call f)) ∧ X.A.guards = some [] ∧ Room (j + dn) X.A ∧
    PySem.W.findIn X.K (.ref (c.E.cl k)) m = some (some (.ref a)) ∧ PySem.W.typeIn X.K (.ref a) = some (.type "function") ∧ Binds X.K fd ps []
theorem Good.slotR {k f n i dn : Nat} {ps : List Str} {C : Addr} {m : Str} (G : Good X.prog X.w X.K X.mg X.base c.E k f ps [] n (c.o.call i)) (hgd : X.A.guards = some []) (hr : Room (k + dn) X.A) (M : Slot X.K C m f) :
    ∃ (j : Nat) (a : Addr) (fd : FuncData) (ps : List Str), FnG X.prog X.w X.K X.mg X.base j a fd ps (spI c.E n (c.o.call i)) ∧ X.A.guards = some [] ∧ Room (j + dn) X.A ∧
    PySem.W.findIn X.K (.ref C) m = some (some (.ref a)) ∧ PySem.W.typeIn X.K (.ref a) = some (.type "function") ∧ Binds X.K fd ps [] := by
  obtain ⟨fd, h1, h2⟩ := G.ex
  obtain ⟨ds, h3, h4⟩ := h2 0 (Nat.le_refl _)
  cases h3
  exact ⟨k, f, fd, ps, h1, hgd, hr, M.find, M.ty, h4⟩
theorem callB_own {mi : Nat} (tk : Takes X c.W) (T : SlotR c X "__bool__" 1 2 (fun k => c.o.meth k mi)) : CallR X (.type "bool") (fun vs H Q => ∃ x, vs = [x] ∧ rTro c mi x H (fun b H' => Q (.bl b) H')) := by
  intro pins s σ H vs us Q I rv h
  obtain ⟨x, rfl, ρ, S, g, d1, gr, r1, p⟩ := h
  obtain ⟨u, rfl, rx⟩ := rv.one
  obtain ⟨k, f, hk, hf, p⟩ := own1_inv p
  obtain ⟨q, dx, fv, fs, rfl, h1, h2, h3⟩ := clsS_inv gr r1 hk
  cases rx
  obtain ⟨j, fa, fd, ps, G, hgd, hr, hm, ht, hb⟩ := T.ex k f h2.1 hf
  obtain ⟨mA, O, _⟩ := ins_get I.hok h1
  obtain ⟨od, J, _⟩ := O.look
  obtain ⟨mm, hF⟩ := I.fr
  have hsp : spI c.E 1 (c.o.call f) [.ref q] H (fun v H' => ∃ k, v = .bl k ∧ Q (.bl k) H') (fun _ _ _ => False) := ⟨rfl, ρ, S, g, [d1], gr, .cons r1 .nil, p⟩
  refine callType_newIn F.called_bool F.newNe_bool (F.typeCall_bool_1 _) (F.newCall_bool_1 _) (fun obj => F.args_object_init_2 obj _) F.entry_bool_new pi_bool_new ?_
  refine PySem.W.truthy_K hF I.ok.mod.kin J hm (isFn_of ht) ?_
  refine thn (run_gA (A := X.A.in1.in1) (us := [.ref q]) (vs := [.ref q]) (Z := fun _ _ _ => False) G hgd (Room.in1 (Room.in1 hr)) rfl hb (passes_call tk fun _ _ _ _ z => z.elim) I (.cons rfl .nil) hsp) ?_
  rintro z s1 ⟨w, H1, I1, rw', b, rfl, qq⟩
  cases rw'
  exact ⟨rfl, ⟨.bl b, H1, I1, rfl, qq⟩⟩
theorem pi_btro {mi : Nat} {p : Pos} (ho : CallR X (.type "bool") (fun vs H Q => ∃ x, vs = [x] ∧ rTro c mi x H (fun b H' => Q (.bl b) H'))) (hg : Gl X "bool") (hm : X.mg "bool" = none) (ha : PEI c X a ta)
    (he : starEach [a] X.env = (false, eval a X.env) :: starEach [] X.env := by rfl) (hpl : (backTo pos (starEach [] X.env)).any (·.1) = false := by rfl) : PEI c X (.Call (.Name "bool" p) [a] [] pos) (.tro mi ta) :=
  pe_le (pe_callTy ho hg hm boot_bool (pa_cons ha pa_nil he) (by decide) (by decide) he hpl) fun σ H Q h => by
    obtain ⟨ρ, S, s, w, p⟩ := h
    refine ⟨ρ, S, s, w, (Post.bind p).imp ?_⟩
    rintro x H1 ⟨ρ1, S1, s1, d1, a1, r1, p1⟩
    refine ⟨x, rfl, ρ1, S1, s1.g, d1, a1.wd.gr, r1, ?_⟩
    have p3 : Post c.E c.W σ ρ1 S1 s1.l H1 (R.okB s1.l (own1 c.o mi d1 s1.g)) Q := p1
    cases hc : own1 c.o mi d1 s1.g with
    | ok z g =>
      rw [hc] at p3
      cases z <;> first
        | (exact (show False from p3).elim)
        | skip
      intro v ρ' S' H' st gr rp
      obtain ⟨w3, st3⟩ := lift st a1.wd gr
      exact ⟨_, bl_of rp, p3 _ ρ' S' H' st3 w3 (.bl _)⟩
    | ex _ _ _ => rw [hc] at p3; exact (show False from p3).elim
    | no => rw [hc] at p3; exact (show False from p3).elim
end
end Pi
/-! What the laws' own helpers mean: drawn numbers. -/
namespace Pi
open PySem
theorem snoc {α : Type} : ∀ xs : List α, xs = [] ∨ ∃ ys y, xs = ys ++ [y] := fun xs => by
  rcases List.eq_nil_or_concat xs with h | ⟨ys, y, h⟩
  · exact .inl h
  · exact .inr ⟨ys, y, by rw [h]; simp⟩
theorem toPys_int : ∀ xs : List Int, toPys (xs.map D.int) = some (xs.map PyData.int)
  | [] => rfl
  | x :: xs => by
    show (match toPy (.int x), toPys (xs.map D.int) with
      | some x, some xs => some (x :: xs)
      | _, _ => none) = _
    rw [toPys_int xs]
    rfl
theorem lay_int : ∀ xs : List Int, PyData.canLayAll0 (xs.map PyData.int) = true
  | [] => rfl
  | x :: xs => by
    show (PyData.canLay0 (.int x) && PyData.canLayAll0 (xs.map PyData.int)) = true
    rw [lay_int xs]
    rfl
theorem depth_int : ∀ xs : List Int, PyData.depthAll (xs.map PyData.int) = 0
  | [] => rfl
  | x :: xs => by
    show max (PyData.depth (.int x)) (PyData.depthAll (xs.map PyData.int)) = 0
    rw [depth_int xs]
    rfl
theorem shaped_ints (xs : List Int) : SeqAt.shaped (.list (xs.map PyData.int)) = true := by
  unfold SeqAt.shaped
  rw [PyData.canLay0.eq_5, PyData.depth.eq_1, lay_int, depth_int]
  rfl
theorem deq_nil (xs : List Int) : deq (.lst (xs.map D.int)) (.lst []) = some xs.isEmpty := by
  have h1 : toPy (.lst (xs.map D.int)) = some (.list (xs.map PyData.int)) := by
    show (toPys (xs.map D.int)).map PyData.list = _
    rw [toPys_int]
    rfl
  unfold deq
  rw [h1]
  show (bif SeqAt.shaped (.list (xs.map PyData.int)) && SeqAt.shaped (.list []) then some (PyData.eqv (.list (xs.map PyData.int)) (.list [])) else none) = _
  rw [shaped_ints]
  cases xs <;> rfl

/-- the numbers that are drawn stand in the store -/
structure Strm (g : List MO) (r : Nat) : Prop where
  ex : ∃ (q : Nat) (z : Int) (xs : List Int), g[r]? = some (.lst [.ref q, .int z]) ∧ g[q]? = some (.lst (xs.map .int)) ∧ q ≠ r ∧ xs.length ≤ 60
/-- what draws -/
def tCells : T := .ix (.v 0) (.c (.int 0))
def tTest : T := .and (.op2 .ne tCells (.lst .nil)) (.op2 .eq (.ix tCells (.neg (.c (.int 1)))) (.c (.int 0)))
def tDraw : TS := (.seq (.whl 64 tTest (.ex (.popr tCells)))
    (.seq (.ite (.op2 .ne tCells (.lst .nil)) (.seq (.asg (.one 2) (.popr tCells))
    (.seq (.appr tCells (.op2 .fdiv (.v 2) (.v 1)))
    (.ret (.op2 .mod (.bi .int (.cons (.v 2) .nil)) (.v 1))))) .nil)
    (.seq (.setr (.v 0) (.c (.int 1)) (.op2 .mod (.bi .int (.cons (.op2 .add (.op2 .mulR (.ix (.v 0) (.c (.int 1))) (.c (.int 48271))) (.c (.int 11))) .nil)) (.c (.int 2147483647))))
    (.ret (.op2 .mod (.bi .int (.cons (.op2 .fdiv (.ix (.v 0) (.c (.int 1))) (.c (.int 8))) .nil)) (.v 1))))))
section
variable {o : O} {g : List MO} {r q : Nat} {z m : Int} {xs : List Int} {u : SV}
abbrev sD (r : Nat) (m : Int) (u : SV) (g : List MO) : S := ⟨[.v (.ref r), .v (.int m), u], g⟩
theorem ev_cells (h : g[r]? = some (.lst [.ref q, .int z])) : ev o tCells (sD r m u g) = .ok (.ref q) (sD r m u g) := by
  show R.of (ixS (view g (.ref r)) (.int 0)) (sD r m u g) = _
  have : view g (.ref r) = .lst [.ref q, .int z] := by
    show (match g[r]? with
      | some (.lst ds) => D.lst ds
      | _ => .ref r) = _
    rw [h]
  rw [this]
  rfl
theorem view_lst {ds : List D} (h : g[q]? = some (.lst ds)) : view g (.ref q) = .lst ds := by
  show (match g[q]? with
    | some (.lst ds) => D.lst ds
    | _ => .ref q) = _
  rw [h]
theorem ev_ne (h : g[r]? = some (.lst [.ref q, .int z])) (h2 : g[q]? = some (.lst (xs.map .int))) : ev o (.op2 .ne tCells (.lst .nil)) (sD r m u g) = .ok (.bl (!xs.isEmpty)) (sD r m u g) := by
  show (ev o tCells (sD r m u g)).bind _ = _
  rw [ev_cells h]
  show R.of (op2S g .ne (.ref q) (.lst [])) (sD r m u g) = _
  have : op2S g .ne (.ref q) (.lst []) = some (.bl (!xs.isEmpty)) := by
    show op2V .ne (view g (.ref q)) (.lst []) = _
    rw [view_lst h2]
    show ((deq (.lst (xs.map .int)) (.lst [])).map fun k => D.bl !k) = _
    rw [deq_nil]
    rfl
  rw [this]
  rfl
theorem ev_test (h : g[r]? = some (.lst [.ref q, .int z])) (h2 : g[q]? = some (.lst (xs.map .int))) : ev o tTest (sD r m u g) = .ok (.bl (decide (xs.getLast? = some 0))) (sD r m u g) := by
  show (ev o (.op2 .ne tCells (.lst .nil)) (sD r m u g)).bind _ = _
  rw [ev_ne h h2]
  rcases snoc xs with rfl | ⟨ys, y, rfl⟩
  · rfl
  · 
    have e1 : (!(ys ++ [y]).isEmpty) = true := by simp
    rw [e1]
    show ((ev o tCells (sD r m u g)).bind fun x s => (ev o (.neg (.c (.int 1))) s).bind fun y s => R.of (ixS (view s.g x) y) s).bind _ = _
    rw [ev_cells h]
    show (R.of (ixS (view g (.ref q)) (.int (-1))) (sD r m u g)).bind _ = _
    rw [view_lst h2]
    have e2 : ixS (.lst ((ys ++ [y]).map D.int)) (.int (-1)) = some (.int y) := by
      show L2.atI ((ys ++ [y]).map D.int) (-1) = _
      unfold L2.atI L2.ixN
      have hl : ((ys ++ [y]).map D.int).length = ys.length + 1 := by simp
      rw [hl, if_neg (by decide), if_pos (by omega)]
      have : ((-1 : Int) + ((ys.length + 1 : Nat) : Int)).toNat = ys.length := by omega
      rw [this]
      simp
    rw [e2]
    show R.of (op2S g .eq (.int y) (.int 0)) (sD r m u g) = _
    show R.ok (D.bl (decide (y = 0))) (sD r m u g) = _
    simp
theorem ev_pop (h : g[r]? = some (.lst [.ref q, .int z])) {ys : List Int} {y : Int} (h2 : g[q]? = some (.lst ((ys ++ [y]).map .int))) : ev o (.popr tCells) (sD r m u g) = .ok (.int y) (sD r m u (g.set q (.lst (ys.map .int)))) := by
  show (ev o tCells (sD r m u g)).bind _ = _
  rw [ev_cells h]
  show (match g[q]? with
      | some (.lst ds) => (match ds.getLast? with
        | some d => R.ok d ⟨(sD r m u g).l, g.set q (.lst ds.dropLast)⟩
        | none => .no)
      | _ => .no) = _
  rw [h2]
  have e1 : ((ys ++ [y]).map D.int).getLast? = some (.int y) := by simp
  have e2 : ((ys ++ [y]).map D.int).dropLast = ys.map D.int := by simp
  simp only [e1, e2]
theorem get_set (h : g[q]? = some x) {y : MO} : (g.set q y)[q]? = some y := by
  rw [List.getElem?_set_self (List.getElem?_eq_some_iff.mp h).1]
theorem loop_zero : ∀ (n : Nat) {g : List MO} {xs : List Int}, g[r]? = some (.lst [.ref q, .int z]) → g[q]? = some (.lst (xs.map .int)) → q ≠ r → xs.length < n →
    ∃ (g' : List MO) (ys : List Int), loopW (evS o (.ex (.popr tCells))) (ev o tTest) n (sD r m u g) = .ok .nx (sD r m u g') ∧ g'[r]? = some (.lst [.ref q, .int z]) ∧ g'[q]? = some (.lst (ys.map .int)) ∧ ys.length ≤ xs.length ∧ g'.length = g.length ∧ ∀ j, j ≠ q → g'[j]? = g[j]?
  | 0, _, _, _, _, _, h => absurd h (Nat.not_lt_zero _)
  | n + 1, g, xs, h1, h2, hq, h => by
    show ∃ (g' : List MO) (ys : List Int), (ev o tTest (sD r m u g)).bind (testW (evS o (.ex (.popr tCells))) (loopW (evS o (.ex (.popr tCells))) (ev o tTest) n)) = _ ∧ _
    rw [ev_test h1 h2]
    rcases snoc xs with rfl | ⟨ys, y, rfl⟩
    · exact ⟨g, [], rfl, h1, h2, Nat.le_refl _, rfl, fun _ _ => rfl⟩
    · 
      by_cases hy : y = 0
      · subst hy
        have e1 : decide ((ys ++ [(0 : Int)]).getLast? = some 0) = true := by simp
        rw [e1]
        show ∃ (g' : List MO) (ys_1 : List Int), contW (loopW (evS o (.ex (.popr tCells))) (ev o tTest) n) ((ev o (.popr tCells) (sD r m u g)).bind fun _ s => .ok .nx s) = _ ∧ _
        rw [ev_pop h1 h2]
        have h3 : (g.set q (.lst (ys.map .int)))[r]? = some (.lst [.ref q, .int z]) := by rw [List.getElem?_set_ne hq]; exact h1
        obtain ⟨g', zs, k1, k2, k3, k4, k5, k6⟩ := loop_zero n h3 (get_set h2) hq (by simp at h; omega)
        refine ⟨g', zs, k1, k2, k3, by simp; omega, by rw [k5, List.length_set], fun j hj => ?_⟩
        rw [k6 j hj, List.getElem?_set_ne (Ne.symm hj)]
      · have e1 : decide ((ys ++ [y]).getLast? = some 0) = false := by simp [hy]
        rw [e1]
        exact ⟨g, _, rfl, h1, h2, Nat.le_refl _, rfl, fun _ _ => rfl⟩
/-- a drawn number -/
theorem draw_at (a1 : g[r]? = some (.lst [.ref q, .int z])) (a2 : g[q]? = some (.lst (xs.map .int))) (a3 : q ≠ r) (a4 : xs.length ≤ 60) (h0 : 0 < m) (h1 : m < 1073741824) : ∃ (k : Int) (g' : List MO), runD o 3 tDraw [.ref r, .int m] g = .ok (.int k) g' ∧ 0 ≤ k ∧ k < m ∧ (∃ (z' : Int) (xs' : List Int), g'[r]? = some (.lst [.ref q, .int z']) ∧ g'[q]? = some (.lst (xs'.map .int)) ∧ xs'.length ≤ 60) ∧ g'.length = g.length ∧ ∀ j, j ≠ q → j ≠ r → g'[j]? = g[j]? := by
  obtain ⟨g1, ys, b1, b2, b3, b4, b5, b6⟩ := loop_zero (o := o) (m := m) (u := .un) 64 a1 a2 a3 (by omega)
  have e : runD o 3 tDraw [.ref r, .int m] g = ((match loopW (evS o (.ex (.popr tCells))) (ev o tTest) 64 (sD r m .un g) with
    | .ok .nx s => evS o (.seq (.ite (.op2 .ne tCells (.lst .nil)) (.seq (.asg (.one 2) (.popr tCells))
    (.seq (.appr tCells (.op2 .fdiv (.v 2) (.v 1)))
    (.ret (.op2 .mod (.bi .int (.cons (.v 2) .nil)) (.v 1))))) .nil)
    (.seq (.setr (.v 0) (.c (.int 1)) (.op2 .mod (.bi .int (.cons (.op2 .add (.op2 .mulR (.ix (.v 0) (.c (.int 1))) (.c (.int 48271))) (.c (.int 11))) .nil)) (.c (.int 2147483647))))
    (.ret (.op2 .mod (.bi .int (.cons (.op2 .fdiv (.ix (.v 0) (.c (.int 1))) (.c (.int 8))) .nil)) (.v 1))))) s
    | r => r) : R F).toC := rfl
  rw [e, b1]
  have hm : (bif decide (0 < m) && decide (m < 1073741824) then some (D.int 0) else none) = some (D.int 0) := by simp [h0, h1]
  have v1 := view_lst b2
  rcases snoc ys with rfl | ⟨ws, y, rfl⟩
  · have e2 := ev_ne (o := o) (m := m) (u := .un) b2 b3
    have e3 : evS o (.ite (.op2 .ne tCells (.lst .nil)) (.seq (.asg (.one 2) (.popr tCells))
    (.seq (.appr tCells (.op2 .fdiv (.v 2) (.v 1)))
    (.ret (.op2 .mod (.bi .int (.cons (.v 2) .nil)) (.v 1))))) .nil) (sD r m .un g1) = .ok .nx (sD r m .un g1) := by
      show (ev o (.op2 .ne tCells (.lst .nil)) (sD r m .un g1)).bind _ = _
      rw [e2]
      rfl
    have e4 : evS o (.setr (.v 0) (.c (.int 1)) (.op2 .mod (.bi .int (.cons (.op2 .add (.op2 .mulR (.ix (.v 0) (.c (.int 1))) (.c (.int 48271))) (.c (.int 11))) .nil)) (.c (.int 2147483647)))) (sD r m .un g1) =
        .ok .nx (sD r m .un (g1.set r (.lst [.ref q, .int ((z * 48271 + 11) % 2147483647)]))) := by
      have e1 : ev o (.ix (.v 0) (.c (.int 1))) (sD r m .un g1) = .ok (.int z) (sD r m .un g1) := by
        show R.of (ixS (view g1 (.ref r)) (.int 1)) _ = _
        rw [v1]
        rfl
      have e5 : ev o (.op2 .mod (.bi .int (.cons (.op2 .add (.op2 .mulR (.ix (.v 0) (.c (.int 1))) (.c (.int 48271))) (.c (.int 11))) .nil)) (.c (.int 2147483647))) (sD r m .un g1) = .ok (.int ((z * 48271 + 11) % 2147483647)) (sD r m .un g1) := by
        show ((((((ev o (.ix (.v 0) (.c (.int 1))) (sD r m .un g1)).bind _).bind _).bind _).bind _).bind _) = _
        rw [e1]
        rfl
      show (ev o (.op2 .mod (.bi .int (.cons (.op2 .add (.op2 .mulR (.ix (.v 0) (.c (.int 1))) (.c (.int 48271))) (.c (.int 11))) .nil)) (.c (.int 2147483647))) (sD r m .un g1)).bind _ = _
      rw [e5]
      show (match g1[r]? with
      | some (.lst ds) => (match L2.ixN ds.length 1 with
        | some j => R.ok F.nx ⟨(sD r m .un g1).l, g1.set r (.lst (ds.set j _))⟩
        | none => .no)
      | _ => .no) = _
      rw [b2]
      rfl
    obtain ⟨g2, hg2⟩ : ∃ g2, g1.set r (.lst [.ref q, .int ((z * 48271 + 11) % 2147483647)]) = g2 := ⟨_, rfl⟩
    rw [hg2] at e4
    have c1 : g2[r]? = some (.lst [.ref q, .int ((z * 48271 + 11) % 2147483647)]) := by rw [← hg2]; exact get_set b2
    have c2 : g2[q]? = some (.lst (([] : List Int).map .int)) := by rw [← hg2, List.getElem?_set_ne (Ne.symm a3)]; exact b3
    have e5 : evS o (.ret (.op2 .mod (.bi .int (.cons (.op2 .fdiv (.ix (.v 0) (.c (.int 1))) (.c (.int 8))) .nil)) (.v 1))) (sD r m .un g2) = .ok (.rt (.int ((z * 48271 + 11) % 2147483647 / 8 % m))) (sD r m .un g2) := by
      have e1 : ev o (.ix (.v 0) (.c (.int 1))) (sD r m .un g2) = .ok (.int ((z * 48271 + 11) % 2147483647)) (sD r m .un g2) := by
        show R.of (ixS (view g2 (.ref r)) (.int 1)) _ = _
        rw [view_lst c1]
        rfl
      show (((((ev o (.ix (.v 0) (.c (.int 1))) (sD r m .un g2)).bind _).bind _).bind _).bind _).bind _ = _
      rw [e1]
      show (R.of (op2S g2 .mod (.int ((z * 48271 + 11) % 2147483647 / 8)) (.int m)) (sD r m .un g2)).bind _ = _
      have : op2S g2 .mod (.int ((z * 48271 + 11) % 2147483647 / 8)) (.int m) = some (.int ((z * 48271 + 11) % 2147483647 / 8 % m)) := by
        show (bif decide (0 < m) then some (D.int ((z * 48271 + 11) % 2147483647 / 8 % m)) else none) = _
        rw [decide_eq_true h0]
        rfl
      rw [this]
      rfl
    have e6 : (match (R.ok F.nx (sD r m .un g1) : R F) with
    | .ok .nx s => evS o (.seq (.ite (.op2 .ne tCells (.lst .nil)) (.seq (.asg (.one 2) (.popr tCells))
    (.seq (.appr tCells (.op2 .fdiv (.v 2) (.v 1)))
    (.ret (.op2 .mod (.bi .int (.cons (.v 2) .nil)) (.v 1))))) .nil)
    (.seq (.setr (.v 0) (.c (.int 1)) (.op2 .mod (.bi .int (.cons (.op2 .add (.op2 .mulR (.ix (.v 0) (.c (.int 1))) (.c (.int 48271))) (.c (.int 11))) .nil)) (.c (.int 2147483647))))
    (.ret (.op2 .mod (.bi .int (.cons (.op2 .fdiv (.ix (.v 0) (.c (.int 1))) (.c (.int 8))) .nil)) (.v 1))))) s
    | r => r) = .ok (.rt (.int ((z * 48271 + 11) % 2147483647 / 8 % m))) (sD r m .un g2) := by
      show (match evS o (.ite (.op2 .ne tCells (.lst .nil)) (.seq (.asg (.one 2) (.popr tCells))
    (.seq (.appr tCells (.op2 .fdiv (.v 2) (.v 1)))
    (.ret (.op2 .mod (.bi .int (.cons (.v 2) .nil)) (.v 1))))) .nil) (sD r m .un g1) with
        | .ok .nx s => evS o (.seq (.setr (.v 0) (.c (.int 1)) (.op2 .mod (.bi .int (.cons (.op2 .add (.op2 .mulR (.ix (.v 0) (.c (.int 1))) (.c (.int 48271))) (.c (.int 11))) .nil)) (.c (.int 2147483647))))
    (.ret (.op2 .mod (.bi .int (.cons (.op2 .fdiv (.ix (.v 0) (.c (.int 1))) (.c (.int 8))) .nil)) (.v 1)))) s
        | r => r) = _
      rw [e3]
      show (match evS o (.setr (.v 0) (.c (.int 1)) (.op2 .mod (.bi .int (.cons (.op2 .add (.op2 .mulR (.ix (.v 0) (.c (.int 1))) (.c (.int 48271))) (.c (.int 11))) .nil)) (.c (.int 2147483647)))) (sD r m .un g1) with
        | .ok .nx s => evS o (.ret (.op2 .mod (.bi .int (.cons (.op2 .fdiv (.ix (.v 0) (.c (.int 1))) (.c (.int 8))) .nil)) (.v 1))) s
        | r => r) = _
      rw [e4]
      exact e5
    rw [e6]
    exact ⟨_, g2, rfl, Int.emod_nonneg _ (by omega), Int.emod_lt_of_pos _ h0, ⟨_, [], c1, c2, by simp⟩, by rw [← hg2, List.length_set, b5], fun j n1 n2 => by rw [← hg2, List.getElem?_set_ne (Ne.symm n2), b6 j n1]⟩
  · have e2 := ev_ne (o := o) (m := m) (u := .un) b2 b3
    have ep := ev_pop (o := o) (m := m) (u := .un) b2 b3
    obtain ⟨g2, hg2⟩ : ∃ g2, g1.set q (.lst (ws.map .int)) = g2 := ⟨_, rfl⟩
    rw [hg2] at ep
    have c1 : g2[r]? = some (.lst [.ref q, .int z]) := by rw [← hg2, List.getElem?_set_ne a3]; exact b2
    have c2 : g2[q]? = some (.lst (ws.map .int)) := by rw [← hg2]; exact get_set b3
    have hlen : ws.length + 1 ≤ 60 := by simp at b4; omega
    have e7 : evS o (.appr tCells (.op2 .fdiv (.v 2) (.v 1))) (sD r m (.v (.int y)) g2) = .ok .nx (sD r m (.v (.int y)) (g2.set q (.lst ((ws ++ [y / m]).map .int)))) := by
      show (ev o tCells (sD r m (.v (.int y)) g2)).bind _ = _
      rw [ev_cells c1]
      show (match g2[q]? with
      | some (.lst _) => (R.of (op2S g2 .fdiv (.int y) (.int m)) (sD r m (.v (.int y)) g2)).bind fun d s => (match s.g[q]? with
        | some (.lst ds) => bif decide (ds.length < big) then R.ok F.nx ⟨s.l, s.g.set q (.lst (ds ++ [d]))⟩ else .no
        | _ => .no)
      | _ => .no) = _
      have : op2S g2 .fdiv (.int y) (.int m) = some (.int (y / m)) := by
        show (bif decide (0 < m) && decide (m < 1073741824) then some (D.int (y / m)) else none) = _
        rw [decide_eq_true h0, decide_eq_true h1]
        rfl
      rw [this]
      simp only [c2]
      show (match g2[q]? with
        | some (.lst ds) => bif decide (ds.length < big) then R.ok F.nx ⟨(sD r m (.v (.int y)) g2).l, g2.set q (.lst (ds ++ [D.int (y / m)]))⟩ else .no
        | _ => .no) = _
      rw [c2]
      have hb : decide ((ws.map D.int).length < big) = true := by rw [List.length_map]; exact decide_eq_true (by unfold big; omega)
      simp only [hb, cond_true]
      simp
    obtain ⟨g3, hg3⟩ : ∃ g3, g2.set q (.lst ((ws ++ [y / m]).map .int)) = g3 := ⟨_, rfl⟩
    rw [hg3] at e7
    have d1 : g3[r]? = some (.lst [.ref q, .int z]) := by rw [← hg3, List.getElem?_set_ne a3]; exact c1
    have d2 : g3[q]? = some (.lst ((ws ++ [y / m]).map .int)) := by rw [← hg3]; exact get_set c2
    have e8 : evS o (.ret (.op2 .mod (.bi .int (.cons (.v 2) .nil)) (.v 1))) (sD r m (.v (.int y)) g3) = .ok (.rt (.int (y % m))) (sD r m (.v (.int y)) g3) := by
      show (R.of (op2S g3 .mod (.int y) (.int m)) (sD r m (.v (.int y)) g3)).bind _ = _
      have : op2S g3 .mod (.int y) (.int m) = some (.int (y % m)) := by
        show (bif decide (0 < m) then some (D.int (y % m)) else none) = _
        rw [decide_eq_true h0]
        rfl
      rw [this]
      rfl
    have e9 : evS o (.seq (.asg (.one 2) (.popr tCells))
    (.seq (.appr tCells (.op2 .fdiv (.v 2) (.v 1)))
    (.ret (.op2 .mod (.bi .int (.cons (.v 2) .nil)) (.v 1))))) (sD r m .un g1) = .ok (.rt (.int (y % m))) (sD r m (.v (.int y)) g3) := by
      have ea : evS o (.asg (.one 2) (.popr tCells)) (sD r m .un g1) = .ok .nx (sD r m (.v (.int y)) g2) := by
        show (ev o (.popr tCells) (sD r m .un g1)).bind _ = _
        rw [ep]
        rfl
      show (match evS o (.asg (.one 2) (.popr tCells)) (sD r m .un g1) with
        | .ok .nx s => evS o (.seq (.appr tCells (.op2 .fdiv (.v 2) (.v 1))) (.ret (.op2 .mod (.bi .int (.cons (.v 2) .nil)) (.v 1)))) s
        | r => r) = _
      rw [ea]
      show (match evS o (.appr tCells (.op2 .fdiv (.v 2) (.v 1))) (sD r m (.v (.int y)) g2) with
        | .ok .nx s => evS o (.ret (.op2 .mod (.bi .int (.cons (.v 2) .nil)) (.v 1))) s
        | r => r) = _
      rw [e7]
      exact e8
    have e3 : evS o (.ite (.op2 .ne tCells (.lst .nil)) (.seq (.asg (.one 2) (.popr tCells))
    (.seq (.appr tCells (.op2 .fdiv (.v 2) (.v 1)))
    (.ret (.op2 .mod (.bi .int (.cons (.v 2) .nil)) (.v 1))))) .nil) (sD r m .un g1) = .ok (.rt (.int (y % m))) (sD r m (.v (.int y)) g3) := by
      show (ev o (.op2 .ne tCells (.lst .nil)) (sD r m .un g1)).bind _ = _
      rw [e2]
      have : (!(ws ++ [y]).isEmpty) = true := by simp
      rw [this]
      exact e9
    have e6 : (match (R.ok F.nx (sD r m .un g1) : R F) with
    | .ok .nx s => evS o (.seq (.ite (.op2 .ne tCells (.lst .nil)) (.seq (.asg (.one 2) (.popr tCells))
    (.seq (.appr tCells (.op2 .fdiv (.v 2) (.v 1)))
    (.ret (.op2 .mod (.bi .int (.cons (.v 2) .nil)) (.v 1))))) .nil)
    (.seq (.setr (.v 0) (.c (.int 1)) (.op2 .mod (.bi .int (.cons (.op2 .add (.op2 .mulR (.ix (.v 0) (.c (.int 1))) (.c (.int 48271))) (.c (.int 11))) .nil)) (.c (.int 2147483647))))
    (.ret (.op2 .mod (.bi .int (.cons (.op2 .fdiv (.ix (.v 0) (.c (.int 1))) (.c (.int 8))) .nil)) (.v 1))))) s
    | r => r) = .ok (.rt (.int (y % m))) (sD r m (.v (.int y)) g3) := by
      show (match evS o (.ite (.op2 .ne tCells (.lst .nil)) (.seq (.asg (.one 2) (.popr tCells))
    (.seq (.appr tCells (.op2 .fdiv (.v 2) (.v 1)))
    (.ret (.op2 .mod (.bi .int (.cons (.v 2) .nil)) (.v 1))))) .nil) (sD r m .un g1) with
        | .ok .nx s => evS o (.seq (.setr (.v 0) (.c (.int 1)) (.op2 .mod (.bi .int (.cons (.op2 .add (.op2 .mulR (.ix (.v 0) (.c (.int 1))) (.c (.int 48271))) (.c (.int 11))) .nil)) (.c (.int 2147483647))))
    (.ret (.op2 .mod (.bi .int (.cons (.op2 .fdiv (.ix (.v 0) (.c (.int 1))) (.c (.int 8))) .nil)) (.v 1)))) s
        | r => r) = _
      rw [e3]
    rw [e6]
    exact ⟨_, g3, rfl, Int.emod_nonneg _ (by omega), Int.emod_lt_of_pos _ h0, ⟨z, ws ++ [y / m], d1, d2, by simp; omega⟩, by rw [← hg3, List.length_set, ← hg2, List.length_set, b5], fun j n1 n2 => by rw [← hg3, List.getElem?_set_ne (Ne.symm n1), ← hg2, List.getElem?_set_ne (Ne.symm n1), b6 j n1]⟩
/-- the stream of draws stands at the beginning of the store -/
def St (rest : List MO) (g : List MO) : Prop := ∃ (xs : List Int) (z : Int), g = .lst (xs.map .int) :: .lst [.ref 0, .int z] :: rest ∧ xs.length ≤ 60
theorem draw_st {rest : List MO} (h : St rest g) (h0 : 0 < m) (h1 : m < 1073741824) : ∃ k g', runD o 3 tDraw [.ref 1, .int m] g = .ok (.int k) g' ∧ 0 ≤ k ∧ k < m ∧ St rest g' := by
  obtain ⟨xs, z, rfl, hl⟩ := h
  obtain ⟨k, g', e, b0, b1, ⟨z', xs', c1, c2, c3⟩, c4, c5⟩ := draw_at (o := o) (r := 1) (q := 0) (z := z) (xs := xs) (m := m) (g := .lst (xs.map .int) :: .lst [.ref 0, .int z] :: rest) rfl rfl (by decide) hl h0 h1
  refine ⟨k, g', e, b0, b1, xs', z', ?_, c3⟩
  match g', c1, c2, c4, c5 with
  | [], c1, _, _, _ => cases c1
  | [_], c1, _, _, _ => cases c1
  | x :: y :: r', c1, c2, c4, c5 =>
    cases c1
    cases c2
    congr 2
    apply List.ext_getElem?
    intro j
    exact c5 (j + 2) (by omega) (by omega)
end
end Pi
/-! What must hold behind a piece of the small language, in continuation style. -/
namespace Pi
abbrev EX := Nat → List (Nat × D) → S → Prop
abbrev EC := Nat → List (Nat × D) → List MO → Prop
abbrev noX : EX := fun _ _ _ => False
abbrev noC : EC := fun _ _ _ => False
end Pi
namespace Pi.Raw
open PySem Pi
theorem var_ok {o : O} {s : S} {i : Nat} {d : D} (h : s.l[i]? = some (.v d)) : ev o (.v i) s = .ok d s := by
  show (match s.l[i]? with
    | some (.v d) => R.ok d s
    | _ => .no) = _
  rw [h]
def wp {α : Type} (r : R α) (E : EX) (Q : α → S → Prop) : Prop := match r with
  | .ok a s => Q a s
  | .ex c fs s => E c fs s
  | .no => False
def wpC (r : C) (E : EC) (Q : D → List MO → Prop) : Prop := match r with
  | .ok a g => Q a g
  | .ex c fs g => E c fs g
  | .no => False
def wpI (r : CI) (E : EC) (Q : List (Nat × D) → List MO → Prop) : Prop := match r with
  | .ok a g => Q a g
  | .ex c fs g => E c fs g
  | .no => False
section
variable {α β : Type} {o : O} {s s1 : S} {l : List SV} {g : List MO} {E E' : EX} {Q Q' : D → S → Prop} {K : F → S → Prop} {a b c d e : T} {r A B : TS} {x y z : D} {n i j f m : Nat} {k : Op}
theorem wp_mono {r : R α} {Q Q' : α → S → Prop} (h : wp r E Q) (hq : ∀ a s, Q a s → Q' a s) (he : ∀ c fs s, E c fs s → E' c fs s := by intro _ _ _ h; exact h) : wp r E' Q' := by
  cases r with
  | ok a s => exact hq _ _ h
  | ex c fs s => exact he _ _ _ h
  | no => exact h
theorem wp_bind {r : R α} {k : α → S → R β} {Q : β → S → Prop} (h : wp r E fun a s => wp (k a s) E Q) : wp (r.bind k) E Q := by
  cases r <;> exact h
theorem wp_eq {r : R α} {Q : α → S → Prop} {a : α} (h : r = .ok a s) (q : Q a s) : wp r E Q := by rw [h]; exact q
theorem w_of {o : Option α} {Q : α → S → Prop} {z : α} (h : o = some z) (q : Q z s) : wp (R.of o s) E Q := by rw [h]; exact q
theorem wpC_mono {r : C} {E E' : EC} {Q Q' : D → List MO → Prop} (h : wpC r E Q) (hq : ∀ a s, Q a s → Q' a s) (he : ∀ c fs s, E c fs s → E' c fs s := by intro _ _ _ h; exact h) : wpC r E' Q' := by
  cases r with
  | ok a s => exact hq _ _ h
  | ex c fs s => exact he _ _ _ h
  | no => exact h
theorem wpC_eq {r : C} {E : EC} {Q : D → List MO → Prop} (h : r = .ok x g) (q : Q x g) : wpC r E Q := by rw [h]; exact q
theorem wpI_eq {r : CI} {E : EC} {Q : List (Nat × D) → List MO → Prop} {fs : List (Nat × D)} (h : r = .ok fs g) (q : Q fs g) : wpI r E Q := by rw [h]; exact q
theorem wp_ofC {q : C} (h : wpC q (fun c fs g => E c fs ⟨l, g⟩) fun d g => Q d ⟨l, g⟩) : wp (R.ofC l q) E Q := by
  cases q <;> exact h
theorem wp_ofCI {q : CI} (h : wpI q (fun c fs g => E c fs ⟨l, g⟩) fun fs g => Q (.ins n fs) ⟨l, g⟩) : wp (R.ofCI l n q) E Q := by
  cases q <;> exact h
/-- expressions -/
theorem w_c (h : Q x s) : wp (ev o (.c x) s) E Q := h
theorem w_gl (h : Q x s) : wp (ev o (.gl x) s) E Q := h
theorem w_v (e : s.l[i]? = some (.v x)) (h : Q x s) : wp (ev o (.v i) s) E Q := by
  rw [var_ok e]; exact h
theorem w_op2 (h : wp (ev o a s) E fun x s => wp (ev o b s) E fun y s => wp (R.of (op2S s.g k x y) s) E Q) : wp (ev o (.op2 k a b) s) E Q :=
  wp_bind (wp_mono h fun _ _ h => wp_bind h)
theorem w_opo (e : isOwn s.l i = true) (h : wp (ev o b s) E fun y s => ∃ ds, s.l[i]? = some (.own ds) ∧ wp (R.of (op2S s.g k (.lst ds) y) s) E Q) : wp (ev o (.opo k i b) s) E Q := by
  show wp (bif isOwn s.l i then _ else _) E Q
  rw [e]
  exact wp_bind (wp_mono h fun y s ⟨ds, h1, h2⟩ => by rw [h1]; exact h2)
theorem w_eqo {neg : Bool} (h : wp (ev o a s) E fun x s => wp (ev o b s) E fun y s => wpC (eqoC o x y s.g) noC fun d g => ∃ p, d = .bl p ∧ Q (.bl (notB neg p)) ⟨s.l, g⟩) : wp (ev o (.eqo neg a b) s) E Q :=
  wp_bind (wp_mono h fun x s h => wp_bind (wp_mono h fun y s h => by
    unfold eqoS
    cases hc : eqoC o x y s.g with
    | ok d g => rw [hc] at h; obtain ⟨p, rfl, q⟩ := h; exact q
    | ex _ _ _ => rw [hc] at h; exact False.elim h
    | no => rw [hc] at h; exact False.elim h))
theorem w_inq {neg : Bool} (h : wp (ev o a s) E fun x s => wp (ev o b s) E fun y s => ∃ ds, y = .tup ds ∧ wpC (inqC o x ds s.g) noC fun d g => ∃ p, d = .bl p ∧ Q (.bl (notB neg p)) ⟨s.l, g⟩) : wp (ev o (.inq neg a b) s) E Q :=
  wp_bind (wp_mono h fun x s h => wp_bind (wp_mono h fun y s ⟨ds, e, h⟩ => by
    subst e
    show wp (inqS o neg x s.l ds s.g) E Q
    unfold inqS
    cases hc : inqC o x ds s.g with
    | ok d g => rw [hc] at h; obtain ⟨p, rfl, q⟩ := h; exact q
    | ex _ _ _ => rw [hc] at h; exact False.elim h
    | no => rw [hc] at h; exact False.elim h))
theorem w_ch {k k' : Op} (h : wp (ev o a s) E fun x s => wp (ev o b s) E fun y s => ∃ p, op2S s.g k x y = some (.bl p) ∧ (p = true → wp (ev o c s) E fun z s => wp (R.of (op2S s.g k' y z) s) E Q) ∧ (p = false → Q (.bl false) s)) : wp (ev o (.ch k k' a b c) s) E Q :=
  wp_bind (wp_mono h fun _ _ h => wp_bind (wp_mono h fun _ _ ⟨p, h1, h2, h3⟩ => by
    rw [h1]
    cases p with
    | true => exact wp_bind (h2 rfl)
    | false => exact h3 rfl))
theorem w_neg (h : wp (ev o a s) E fun x s => ∃ i, x = .int i ∧ Q (.int (-i)) s) : wp (ev o (.neg a) s) E Q :=
  wp_bind (wp_mono h fun _ _ ⟨i, h1, h2⟩ => by subst h1; exact h2)
theorem w_and (h : wp (ev o a s) E fun x s => ∃ p, x = .bl p ∧ (p = true → wp (ev o b s) E Q) ∧ (p = false → Q (.bl false) s)) : wp (ev o (.and a b) s) E Q :=
  wp_bind (wp_mono h fun _ _ ⟨p, h1, h2, h3⟩ => by
    subst h1
    cases p with
    | true => exact h2 rfl
    | false => exact h3 rfl)
theorem w_or (h : wp (ev o a s) E fun x s => ∃ p, x = .bl p ∧ (p = true → Q (.bl true) s) ∧ (p = false → wp (ev o b s) E Q)) : wp (ev o (.or a b) s) E Q :=
  wp_bind (wp_mono h fun _ _ ⟨p, h1, h2, h3⟩ => by
    subst h1
    cases p with
    | true => exact h2 rfl
    | false => exact h3 rfl)
theorem w_not (h : wp (ev o a s) E fun x s => ∃ p, x = .bl p ∧ Q (.bl (!p)) s) : wp (ev o (.not a) s) E Q :=
  wp_bind (wp_mono h fun _ _ ⟨p, h1, h2⟩ => by subst h1; exact h2)
theorem w_tru (h : wp (ev o a s) E fun x s => wp (R.of ((truS (view s.g x)).map .bl) s) E Q) : wp (ev o (.tru a) s) E Q := wp_bind h
theorem w_iteE (h : wp (ev o c s) E fun x s => ∃ p, x = .bl p ∧ (p = true → wp (ev o a s) E Q) ∧ (p = false → wp (ev o b s) E Q)) : wp (ev o (.ite c a b) s) E Q :=
  wp_bind (wp_mono h fun _ _ ⟨p, h1, h2, h3⟩ => by
    subst h1
    cases p with
    | true => exact h2 rfl
    | false => exact h3 rfl)
theorem w_tup (h : wp (evA o a s) E fun ds s => ds.length ≤ big ∧ Q (.tup ds) s) : wp (ev o (.tup a) s) E Q :=
  wp_bind (wp_mono h fun _ _ ⟨h1, h2⟩ => by rw [decide_eq_true h1]; exact h2)
theorem w_lst (h : wp (evA o a s) E fun ds s => ds.length ≤ big ∧ Q (.lst ds) s) : wp (ev o (.lst a) s) E Q :=
  wp_bind (wp_mono h fun _ _ ⟨h1, h2⟩ => by rw [decide_eq_true h1]; exact h2)
theorem w_nil {Q : List D → S → Prop} (h : Q [] s) : wp (evA o .nil s) E Q := h
theorem w_cons {Q : List D → S → Prop} (h : wp (ev o a s) E fun x s => wp (evA o b s) E fun xs s => Q (x :: xs) s) : wp (evA o (.cons a b) s) E Q :=
  wp_bind (wp_mono h fun _ _ h => wp_bind h)
theorem w_ix (h : wp (ev o a s) E fun x s => wp (ev o b s) E fun y s => wp (R.of (ixS (view s.g x) y) s) E Q) : wp (ev o (.ix a b) s) E Q :=
  wp_bind (wp_mono h fun _ _ h => wp_bind h)
theorem w_sl (h : wp (ev o a s) E fun x s => wp (evO o b s) E fun i s => wp (evO o c s) E fun j s => wp (R.of (slS (view s.g x) i j) s) E Q) : wp (ev o (.sl a b c) s) E Q :=
  wp_bind (wp_mono h fun _ _ h => wp_bind (wp_mono h fun _ _ h => wp_bind h))
theorem w_onil {Q : Option Int → S → Prop} (h : Q none s) : wp (evO o .nil s) E Q := h
theorem w_ocons {Q : Option Int → S → Prop} (h : wp (ev o a s) E fun x s => ∃ i, x = .int i ∧ Q (some i) s) : wp (evO o (.cons a b) s) E Q :=
  wp_bind (wp_mono h fun _ _ ⟨i, h1, h2⟩ => by subst h1; exact h2)
theorem w_rev (h : wp (ev o a s) E fun x s => wp (R.of (revS (view s.g x)) s) E Q) : wp (ev o (.rev a) s) E Q := wp_bind h
theorem w_call {df : List D} (h : wp (evA o a s) E fun ds s => wpC (o.call f (ds ++ df) s.g) (fun c fs g => E c fs ⟨s.l, g⟩) fun d g => Q d ⟨s.l, g⟩) : wp (ev o (.call f a df) s) E Q :=
  wp_bind (wp_mono h fun _ _ h => wp_ofC h)
theorem w_mk {df : List D} (h : wp (evA o a s) E fun ds s => wpI (o.init n (ds ++ df) s.g) (fun c fs g => E c fs ⟨s.l, g⟩) fun fs g => Q (.ins n fs) ⟨s.l, g⟩) : wp (ev o (.mk n a df) s) E Q :=
  wp_bind (wp_mono h fun _ _ h => wp_ofCI h)
theorem w_meth {df : List D} (h : wp (ev o a s) E fun x s => ∃ c f, clsS s.g x = some c ∧ o.meth c m = some f ∧ wp (evA o b s) E fun ds s => wpC (o.call f (x :: (ds ++ df)) s.g) (fun c fs g => E c fs ⟨s.l, g⟩) fun d g => Q d ⟨s.l, g⟩) : wp (ev o (.meth m a b df) s) E Q :=
  wp_bind (wp_mono h fun _ _ ⟨c, f, h1, h2, h3⟩ => by rw [h1]; simp only []; rw [h2]; exact wp_bind (wp_mono h3 fun _ _ h => wp_ofC h))
theorem w_fld (h : wp (ev o a s) E fun x s => wp (R.of (fldS s.g x n) s) E Q) : wp (ev o (.fld a n) s) E Q := wp_bind h
theorem w_inr {neg : Bool} (h : wp (ev o a s) E fun x s => wp (ev o b s) E fun y s => ∃ ds p, seqD (view s.g y) = some ds ∧ inD x ds = some p ∧ Q (.bl (bif neg then !p else p)) s) : wp (ev o (.inr neg a b) s) E Q :=
  wp_bind (wp_mono h fun _ _ h => wp_bind (wp_mono h fun _ _ ⟨ds, p, h1, h2, h3⟩ => by rw [h1]; simp only []; rw [h2]; exact h3))
theorem w_ino {neg : Bool} (h : wp (ev o a s) E fun x s => wp (ev o b s) E fun y s => ∃ c f, clsS s.g y = some c ∧ o.cont c = some f ∧ wpC (o.call f [y, x] s.g) noC fun d g => ∃ p, d = .bl p ∧ Q (.bl (bif neg then !p else p)) ⟨s.l, g⟩) : wp (ev o (.ino neg a b) s) E Q :=
  wp_bind (wp_mono h fun x s h => wp_bind (wp_mono h fun y s ⟨c, f, h1, h2, h3⟩ => by
    rw [h1]
    simp only []
    rw [h2]
    simp only []
    cases hc : o.call f [y, x] s.g with
    | ok d g => rw [hc] at h3; obtain ⟨p, rfl, h⟩ := h3; exact h
    | ex c fs g => rw [hc] at h3; exact False.elim h3
    | no => rw [hc] at h3; exact False.elim h3))
theorem w_isi {ts : List Ty} (h : wp (ev o a s) E fun x s => ∃ d, tyD s.g x = some d ∧ Q (.bl (isiA o d ts)) s) : wp (ev o (.isi a ts) s) E Q :=
  wp_bind (wp_mono h fun _ _ ⟨d, h1, h2⟩ => by rw [h1]; exact h2)
theorem w_bi {k : Bi} (h : wp (evA o a s) E fun ds s => wp (R.of (biS s.g k ds) s) E Q) : wp (ev o (.bi k a) s) E Q := wp_bind h
theorem w_bio {k : Bi} {ds : List D} (e : s.l[i]? = some (.own ds)) (h : wp (R.of (biS s.g k [.lst ds]) s) E Q) : wp (ev o (.bio k i) s) E Q := by
  show wp (match s.l[i]? with
    | some (.own ds) => R.of (biS s.g k [.lst ds]) s
    | _ => .no) E Q
  rw [e]; exact h
theorem w_popo (e : isOwn s.l i = true) (h : wp (ev o a s) E fun y s => ∃ ds k d, s.l[i]? = some (.own ds) ∧ y = .int k ∧ 0 ≤ k ∧ k < ds.length ∧ ds.length ≤ big ∧ ds[k.toNat]? = some d ∧ Q d ⟨s.l.set i (.own (ds.eraseIdx k.toNat)), s.g⟩) : wp (ev o (.popo i a) s) E Q := by
  show wp (bif isOwn s.l i then _ else _) E Q
  rw [e]
  refine wp_bind (wp_mono h ?_)
  rintro y s ⟨ds, k, d, h1, rfl, h3, h4, h5, h6, h7⟩
  rw [h1]
  simp only []
  rw [decide_eq_true h3, decide_eq_true h4, decide_eq_true h5]
  simp only [Bool.and_true, cond_true]
  rw [h6]
  exact h7
theorem w_mkr (h : wp (evA o a s) E fun ds s => ds.length ≤ big ∧ Q (.ref s.g.length) ⟨s.l, s.g ++ [.lst ds]⟩) : wp (ev o (.mkr a) s) E Q :=
  wp_bind (wp_mono h fun _ _ ⟨h1, h2⟩ => by rw [decide_eq_true h1]; exact h2)
theorem w_zip {Q : List D → S → Prop} (h : wp (ev o a s) E fun x s => wp (ev o b s) E fun y s => wp (R.of (zipD x y) s) E Q) : wp (evI o (.zip a b) s) E Q := wp_bind (wp_mono h fun _ _ h => wp_bind h)
theorem w_enm {Q : List D → S → Prop} (h : wp (ev o a s) E fun x s => wp (R.of (enmD x) s) E Q) : wp (evI o (.enm a) s) E Q := wp_bind h
/-- iterables -/
theorem w_it {Q : List D → S → Prop} (h : wp (ev o a s) E fun x s => wp (R.of (seqD x) s) E Q) : wp (evI o (.it a) s) E Q := wp_bind h
theorem w_its {Q : List D → S → Prop} (h : wp (ev o a s) E fun x s => wp (R.of (chars x) s) E Q) : wp (evI o (.its a) s) E Q := wp_bind h
theorem w_rng1 {Q : List D → S → Prop} (h : wp (ev o a s) E fun x s => ∃ j, x = .int j ∧ -(2 ^ 62) ≤ j ∧ j < 2 ^ 62 ∧ Q ((List.range j.toNat).map fun (k : Nat) => .int k) s) : wp (evI o (.rng1 a) s) E Q :=
  wp_bind (wp_mono h fun _ _ ⟨j, h1, h2, h3, h4⟩ => by
    subst h1
    show wp (bif decide (-(2 ^ 62) ≤ j) && decide (j < 2 ^ 62) then _ else _) E Q
    rw [decide_eq_true h2, decide_eq_true h3]; exact h4)
theorem w_rng2 {Q : List D → S → Prop} (h : wp (ev o a s) E fun x s => wp (ev o b s) E fun y s => ∃ i j, x = .int i ∧ y = .int j ∧ -(2 ^ 62) ≤ i ∧ i < 2 ^ 62 ∧ -(2 ^ 62) ≤ j ∧ j < 2 ^ 62 ∧ Q ((List.range (j - i).toNat).map fun (k : Nat) => .int (i + k)) s) : wp (evI o (.rng2 a b) s) E Q :=
  wp_bind (wp_mono h fun _ _ h => wp_bind (wp_mono h fun _ _ ⟨i, j, h1, h2, h3, h4, h5, h6, h7⟩ => by
    subst h1 h2
    show wp (bif decide (-(2 ^ 62) ≤ i) && decide (i < 2 ^ 62) && decide (-(2 ^ 62) ≤ j) && decide (j < 2 ^ 62) then _ else _) E Q
    rw [decide_eq_true h3, decide_eq_true h4, decide_eq_true h5, decide_eq_true h6]; exact h7))
abbrev cbody (o : O) (l : List SV) (tg : Tgt) (c e : T) : D → List MO → R (Option D) := fun d g => match tgS tg d (clr tg.slots (wipeOwn l)) with
      | some l => (ev o c ⟨l, g⟩).bind fun t s' => (match t with
        | .bl true => (ev o e s').bind fun x s'' => .ok (some x) s''
        | .bl false => .ok none s'
        | _ => .no)
      | none => .no
/-- a comprehension: an invariant over what was kept so far -/
theorem w_comp {it : T} {tg : Tgt} (h : wp (evI o it s) E fun ds s => ds.length ≤ big ∧ ∃ I : List D → List D → List MO → Prop, I [] [] s.g ∧
      (∀ done d rest acc g, ds = done ++ d :: rest → acc.length ≤ done.length → I done acc g → ∃ l, tgS tg d (clr tg.slots (wipeOwn s.l)) = some l ∧ wp (ev o c ⟨l, g⟩) noX fun t s' => ∃ p, t = .bl p ∧ (p = true → wp (ev o e s') noX fun x s'' => I (done ++ [d]) (acc ++ [x]) s''.g) ∧ (p = false → I (done ++ [d]) acc s'.g)) ∧
      ∀ acc g, acc.length ≤ ds.length → I ds acc g → Q (.lst acc) ⟨s.l, g⟩) : wp (ev o (.comp tg it c e) s) E Q := by
  refine wp_bind (wp_mono h ?_)
  rintro ds s ⟨hb, I, h0, hs, hq⟩
  rw [decide_eq_true hb]
  simp only [cond_true]
  have key : ∀ (rest done acc : List D) (g : List MO), ds = done ++ rest → acc.length ≤ done.length → I done acc g → ∃ xs s', loopC (cbody o s.l tg c e) rest acc g = .ok xs s' ∧ xs.length ≤ ds.length ∧ I ds xs s'.g := by
    intro rest
    induction rest with
    | nil => intro done acc g e1 e2 e3; rw [List.append_nil] at e1; subst e1; exact ⟨acc, ⟨[], g⟩, rfl, e2, e3⟩
    | cons d rest ih =>
      intro done acc g e1 e2 e3
      obtain ⟨l, hl, this⟩ := hs done d rest acc g e1 e2 e3
      unfold loopC
      simp only [cbody, hl]
      cases hc : ev o c ⟨l, g⟩ with
      | ex _ _ _ => rw [hc] at this; exact False.elim this
      | no => rw [hc] at this; exact False.elim this
      | ok t s' =>
        rw [hc] at this
        obtain ⟨p, rfl, h1, h2⟩ := this
        cases p with
        | false =>
          simp only [R.bind]
          exact ih (done ++ [d]) acc _ (by rw [e1]; simp) (by simp; omega) (h2 rfl)
        | true =>
          simp only [R.bind]
          have h3 := h1 rfl
          cases he : ev o e s' with
          | ex _ _ _ => rw [he] at h3; exact False.elim h3
          | no => rw [he] at h3; exact False.elim h3
          | ok x s'' =>
            rw [he] at h3
            simp only []
            exact ih (done ++ [d]) (acc ++ [x]) _ (by rw [e1]; simp) (by simp; omega) h3
  obtain ⟨xs, s', k1, k2, k3⟩ := key ds [] [] s.g rfl (Nat.le_refl _) h0
  show wp (match loopC (cbody o s.l tg c e) ds [] s.g with
    | .ok xs s' => R.ok (D.lst xs) ⟨s.l, s'.g⟩
    | _ => .no) E Q
  rw [k1]
  exact hq xs _ k2 k3
/-- statements: always ahead of a rest -/
theorem w_last (h : wp (evS o (.seq A .nil) s) E K) : wp (evS o A s) E K := by
  have : evS o (.seq A .nil) s = evS o A s := by
    show (match evS o A s with
      | .ok .nx s => R.ok F.nx s
      | r => r) = _
    cases evS o A s with
    | ok f s => cases f <;> rfl
    | ex _ _ _ => rfl
    | no => rfl
  rw [← this]; exact h
theorem w_nilS (h : K .nx s) : wp (evS o .nil s) E K := h
theorem w_seqN (h : wp (evS o r s) E K) : wp (evS o (.seq .nil r) s) E K := h
theorem w_seqS (h : wp (evS o (.seq A (.seq B r)) s) E K) : wp (evS o (.seq (.seq A B) r) s) E K := by
  have : evS o (.seq (.seq A B) r) s = evS o (.seq A (.seq B r)) s := by
    show (match (match evS o A s with
      | .ok .nx s => evS o B s
      | r => r) with
      | .ok .nx s => evS o r s
      | r => r) = (match evS o A s with
      | .ok .nx s => evS o (.seq B r) s
      | r => r)
    cases evS o A s with
    | ok f s => cases f <;> rfl
    | ex _ _ _ => rfl
    | no => rfl
  rw [this]; exact h
theorem w_seq (h : wp (evS o A s) E fun f s1 => match f with
    | .nx => wp (evS o r s1) E K
    | f => K f s1) : wp (evS o (.seq A r) s) E K := by
  show wp (match evS o A s with
    | .ok .nx s => evS o r s
    | r => r) E K
  cases hA : evS o A s with
  | ok f s => rw [hA] at h; cases f <;> exact h
  | ex _ _ _ => rw [hA] at h; exact h
  | no => rw [hA] at h; exact h
theorem w_asg (h : wp (ev o a s) E fun x s => wp (evS o r ⟨s.l.set i (.v x), s.g⟩) E K) : wp (evS o (.seq (.asg (.one i) a) r) s) E K :=
  w_seq (wp_bind (wp_mono h fun _ _ h => h))
theorem w_asgT {is : List Nat} (h : wp (ev o a s) E fun x s => ∃ l, tgS (.tup is) x s.l = some l ∧ wp (evS o r ⟨l, s.g⟩) E K) : wp (evS o (.seq (.asg (.tup is) a) r) s) E K :=
  w_seq (wp_bind (wp_mono h fun _ _ ⟨l, h1, h2⟩ => by rw [h1]; exact h2))
theorem w_ex (h : wp (ev o a s) E fun _ s => wp (evS o r s) E K) : wp (evS o (.seq (.ex a) r) s) E K :=
  w_seq (wp_bind (wp_mono h fun _ _ h => h))
theorem w_ite (h : wp (ev o c s) E fun x s => ∃ p, x = .bl p ∧ (p = true → wp (evS o (.seq A r) s) E K) ∧ (p = false → wp (evS o (.seq B r) s) E K)) : wp (evS o (.seq (.ite c A B) r) s) E K := by
  refine w_seq (wp_bind (wp_mono h ?_))
  rintro _ s1 ⟨p, rfl, h1, h2⟩
  have cv : ∀ A, wp (evS o (.seq A r) s1) E K → wp (evS o A s1) E fun f s1 => match f with
    | .nx => wp (evS o r s1) E K
    | f => K f s1 := fun A h => by
      have h : wp (match evS o A s1 with
        | .ok .nx s => evS o r s
        | r => r) E K := h
      cases hA : evS o A s1 with
      | ok f s => rw [hA] at h; cases f <;> exact h
      | ex _ _ _ => rw [hA] at h; exact h
      | no => rw [hA] at h; exact h
  cases p with
  | true => exact cv A (h1 rfl)
  | false => exact cv B (h2 rfl)
theorem w_retS (h : wp (ev o a s) E fun x s => K (.rt x) s) : wp (evS o (.seq (.ret a) r) s) E K :=
  w_seq (wp_bind (wp_mono h fun _ _ h => h))
theorem w_ret (h : wp (ev o a s) E fun x s => K (.rt x) s) : wp (evS o (.ret a) s) E K :=
  wp_bind (wp_mono h fun _ _ h => h)
theorem w_retnS (h : K (.rt .non) s) : wp (evS o (.seq .retn r) s) E K := w_seq h
theorem w_brk (h : K .bk s) : wp (evS o (.seq .brk r) s) E K := w_seq h
theorem w_cnt (h : K .ct s) : wp (evS o (.seq .cnt r) s) E K := w_seq h
theorem w_raise (h : wp (evA o a s) E fun ds s => ∃ d, ds = [d] ∧ E f [(n, d)] s) : wp (evS o (.seq (.raise f n a) r) s) E K :=
  w_seq (wp_bind (wp_mono h fun _ _ ⟨d, h1, h2⟩ => by subst h1; exact h2))
theorem w_setF (h : wp (ev o a s) E fun x s => ∃ fs, s.l[(0 : Nat)]? = some (.ob m fs) ∧ fs.length < 900 ∧ wp (evS o r ⟨s.l.set 0 (.ob m (putN n x fs)), s.g⟩) E K) : wp (evS o (.seq (.setF m n a) r) s) E K := by
  refine w_seq (wp_bind (wp_mono h ?_))
  rintro x s ⟨fs, h1, h2, h3⟩
  rw [h1]
  simp only [beq_self_eq_true, Bool.true_and]
  rw [decide_eq_true h2]
  exact h3
theorem w_mko (h : wp (evA o a s) E fun ds s => ds.length ≤ big ∧ wp (evS o r ⟨s.l.set i (.own ds), s.g⟩) E K) : wp (evS o (.seq (.mko i a) r) s) E K :=
  w_seq (wp_bind (wp_mono h fun _ _ ⟨h1, h2⟩ => by rw [decide_eq_true h1]; exact h2))
theorem w_app (e : isOwn s.l i = true) (h : wp (ev o a s) E fun x s => ∃ ds, s.l[i]? = some (.own ds) ∧ ds.length < big ∧ wp (evS o r ⟨s.l.set i (.own (ds ++ [x])), s.g⟩) E K) : wp (evS o (.seq (.app i a) r) s) E K := by
  refine w_seq ?_
  show wp (bif isOwn s.l i then _ else _) E _
  rw [e]
  refine wp_bind (wp_mono h ?_)
  rintro x s ⟨ds, h1, h2, h3⟩
  rw [h1]
  simp only []
  rw [decide_eq_true h2]
  exact h3
theorem w_ext (e : isOwn s.l i = true) (h : wp (evA o a s) E fun xs s => ∃ ds, s.l[i]? = some (.own ds) ∧ ds.length + xs.length ≤ big ∧ wp (evS o r ⟨s.l.set i (.own (ds ++ xs)), s.g⟩) E K) : wp (evS o (.seq (.ext i a) r) s) E K := by
  refine w_seq ?_
  show wp (bif isOwn s.l i then _ else _) E _
  rw [e]
  refine wp_bind (wp_mono h ?_)
  rintro x s ⟨ds, h1, h2, h3⟩
  rw [h1]
  simp only []
  rw [decide_eq_true h2]
  exact h3
theorem w_frz {ds : List D} (e : s.l[i]? = some (.own ds)) (h : wp (evS o r ⟨s.l.set i (.v (.lst ds)), s.g⟩) E K) : wp (evS o (.seq (.frz i) r) s) E K := by
  refine w_seq ?_
  show wp (match s.l[i]? with
    | some (.own ds) => R.ok F.nx ⟨s.l.set i (.v (.lst ds)), s.g⟩
    | _ => .no) E _
  rw [e]
  exact h
theorem w_par {is : List Nat} (h : wp (evA o a s) E fun ds s => ∃ l, setAll is ds s.l = some l ∧ wp (evS o r ⟨l, s.g⟩) E K) : wp (evS o (.seq (.par is a) r) s) E K :=
  w_seq (wp_bind (wp_mono h fun _ _ ⟨l, h1, h2⟩ => by rw [h1]; exact h2))
theorem w_evP {p : Bool} {Q : SV → S → Prop} (h : wp (ev o a s) E fun x s => wp (slotK p x s) E Q) : wp (evP o p a s) E Q := wp_bind h
theorem w_kv {Q : SV → S → Prop} (h : Q (.v x) s) : wp (slotK false x s) E Q := h
theorem w_ko {ds : List D} {Q : SV → S → Prop} (hb : ds.length ≤ big) (h : Q (.own ds) s) : wp (slotK true (.lst ds) s) E Q := by
  show wp (bif decide (ds.length ≤ big) then R.ok (SV.own ds) s else R.no) E Q
  rw [decide_eq_true hb]
  exact h
theorem w_par2 {p q : Bool} (h : wp (evP o p a s) E fun x s => wp (evP o q b s) E fun y s => wp (evS o r ⟨(s.l.set i x).set j y, s.g⟩) E K) : wp (evS o (.seq (.par2 i p a j q b) r) s) E K :=
  w_seq (wp_bind (wp_mono h fun _ _ h => wp_bind (wp_mono h fun _ _ h => h)))
theorem w_mkf (h : wp (evP o true a s) E fun x s => wp (evS o r ⟨s.l.set i x, s.g⟩) E K) : wp (evS o (.seq (.mkf i a) r) s) E K :=
  w_seq (wp_bind (wp_mono h fun _ _ h => h))
/-- while: so many turns at most -/
theorem w_whl {n : Nat} (I : Nat → S → Prop) {k : Nat} (hk : k < n) (h0 : I k s) (hs : ∀ k s, I k s → wp (ev o c s) E fun x s1 => ∃ p, x = .bl p ∧ (p = true → ∃ k', k = k' + 1 ∧ wp (evS o A s1) E fun f s2 => match f with
        | .nx => I k' s2
        | .ct => I k' s2
        | .bk => wp (evS o r s2) E K
        | .rt x => K (.rt x) s2) ∧ (p = false → wp (evS o r s1) E K)) : wp (evS o (.seq (.whl n c A) r) s) E K := by
  refine w_seq ?_
  show wp (loopW (evS o A) (ev o c) n s) E _
  induction n generalizing k s with
  | zero => omega
  | succ n ih =>
    show wp ((ev o c s).bind (testW (evS o A) (loopW (evS o A) (ev o c) n))) E _
    refine wp_bind (wp_mono (hs k s h0) ?_)
    rintro x s1 ⟨p, rfl, h1, h2⟩
    cases p with
    | false => exact h2 rfl
    | true =>
      obtain ⟨k', rfl, h3⟩ := h1 rfl
      show wp (contW (loopW (evS o A) (ev o c) n) (evS o A s1)) E _
      cases hA : evS o A s1 with
      | ex _ _ _ => rw [hA] at h3; exact h3
      | no => rw [hA] at h3; exact h3
      | ok f s2 =>
        rw [hA] at h3
        cases f with
        | nx => exact ih (by omega) h3
        | ct => exact ih (by omega) h3
        | bk => exact h3
        | rt x => exact h3
/-- a for loop: an invariant over what was done; the body goes on, breaks, or returns -/
theorem w_for {t : Tgt} {it : T} (h : wp (evI o it s) E fun ds s => ∃ I : List D → S → Prop, I [] s ∧
      (∀ done d rest s, ds = done ++ d :: rest → I done s → ∃ l, tgS t d s.l = some l ∧ wp (evS o A ⟨l, s.g⟩) E fun f s => match f with
        | .nx => I (done ++ [d]) s
        | .ct => I (done ++ [d]) s
        | .bk => wp (evS o r s) E K
        | .rt x => K (.rt x) s) ∧
      ∀ s, I ds s → wp (evS o r s) E K) : wp (evS o (.seq (.fr t it A) r) s) E K := by
  refine w_seq (wp_bind (wp_mono h ?_))
  rintro ds s ⟨I, h0, hs, hq⟩
  have key : ∀ (rest done : List D) (s : S), ds = done ++ rest → I done s → wp (loopS (fun d s => match tgS t d s.l with
      | some l => evS o A ⟨l, s.g⟩
      | none => .no) rest s) E fun f s1 => match f with
      | .nx => wp (evS o r s1) E K
      | f => K f s1 := by
    intro rest
    induction rest with
    | nil => intro done s e1 e2; rw [List.append_nil] at e1; subst e1; exact hq s e2
    | cons d rest ih =>
      intro done s e1 e2
      obtain ⟨l, hl, hb⟩ := hs done d rest s e1 e2
      unfold loopS
      simp only [hl]
      cases hA : evS o A ⟨l, s.g⟩ with
      | ex _ _ _ => rw [hA] at hb; exact hb
      | no => rw [hA] at hb; exact hb
      | ok f s1 =>
        rw [hA] at hb
        cases f with
        | nx => exact ih (done ++ [d]) s1 (by rw [e1]; simp) hb
        | ct => exact ih (done ++ [d]) s1 (by rw [e1]; simp) hb
        | bk => exact hb
        | rt x => exact hb
  exact key ds [] s rfl h0
/-- the same where what was done doesn't matter -/
theorem w_forI {t : Tgt} {it : T} (I : S → Prop) (h : wp (evI o it s) E fun ds s => I s ∧
      (∀ d ∈ ds, ∀ s, I s → ∃ l, tgS t d s.l = some l ∧ wp (evS o A ⟨l, s.g⟩) E fun f s => match f with
        | .nx => I s
        | .ct => I s
        | .bk => wp (evS o r s) E K
        | .rt x => K (.rt x) s) ∧
      ∀ s, I s → wp (evS o r s) E K) : wp (evS o (.seq (.fr t it A) r) s) E K :=
  w_for (wp_mono h fun ds s ⟨h0, h1, h2⟩ => ⟨fun _ s => I s, h0, fun done d rest s e hi => h1 d (by rw [e]; simp) s hi, h2⟩)
theorem w_compI {it : T} {tg : Tgt} (I : List MO → Prop) (P : D → Prop) (h : wp (evI o it s) E fun ds s => ds.length ≤ big ∧ I s.g ∧
      (∀ d ∈ ds, ∀ g, I g → ∃ l, tgS tg d (clr tg.slots (wipeOwn s.l)) = some l ∧ wp (ev o c ⟨l, g⟩) noX fun t s' => ∃ p, t = .bl p ∧ (p = true → wp (ev o e s') noX fun x s'' => P x ∧ I s''.g) ∧ (p = false → I s'.g)) ∧
      ∀ acc g, acc.length ≤ ds.length → (∀ x ∈ acc, P x) → I g → Q (.lst acc) ⟨s.l, g⟩) : wp (ev o (.comp tg it c e) s) E Q :=
  w_comp (wp_mono h fun ds s ⟨h0, h1, h2, h3⟩ => ⟨h0, fun _ acc g => (∀ x ∈ acc, P x) ∧ I g, ⟨fun _ h => (nomatch h), h1⟩, fun done d rest acc g e _ ⟨ha, hi⟩ => by
    obtain ⟨l, hl, q⟩ := h2 d (by rw [e]; simp) g hi
    exact ⟨l, hl, wp_mono q fun t s' ⟨p, e1, e2, e3⟩ => ⟨p, e1, fun hp => wp_mono (e2 hp) fun x s'' ⟨q1, q2⟩ => ⟨fun z hz => by
      rcases List.mem_append.mp hz with hz | hz
      · exact ha z hz
      · rw [List.mem_singleton.mp hz]; exact q1, q2⟩, fun hp => ⟨ha, e3 hp⟩⟩⟩, fun acc g hl ⟨ha, hi⟩ => h3 acc g hl ha hi⟩)
/-- all kept: one for one -/
theorem w_compM {it : T} {tg : Tgt} (f : D → D) (I : List MO → Prop) (h : wp (evI o it s) E fun ds s => ds.length ≤ big ∧ I s.g ∧
      (∀ d ∈ ds, ∀ g, I g → ∃ l, tgS tg d (clr tg.slots (wipeOwn s.l)) = some l ∧ wp (ev o e ⟨l, g⟩) noX fun x s' => x = f d ∧ I s'.g) ∧
      ∀ g, I g → Q (.lst (ds.map f)) ⟨s.l, g⟩) : wp (ev o (.comp tg it (.c (.bl true)) e) s) E Q :=
  w_comp (wp_mono h fun ds s ⟨h0, h1, h2, h3⟩ => ⟨h0, fun done acc g => acc = done.map f ∧ I g, ⟨rfl, h1⟩, fun done d rest acc g e _ ⟨ha, hi⟩ => by
    obtain ⟨l, hl, q⟩ := h2 d (by rw [e]; simp) g hi
    exact ⟨l, hl, ⟨true, rfl, fun _ => wp_mono q fun x s' ⟨e1, e2⟩ => ⟨by rw [e1, ha]; simp, e2⟩, fun z => (nomatch z)⟩⟩, fun acc g _ ⟨ha, hi⟩ => by rw [ha]; exact h3 g hi⟩)
/-- defs -/
theorem wpC_def {ds : List D} {E : EC} {Q : D → List MO → Prop} (h : wp (evS o A ⟨slots n ds, g⟩) (fun c fs s => E c fs s.g) fun f s => match f with
    | .nx => Q .non s.g
    | .rt x => Q x s.g
    | _ => False) : wpC (runD o n A ds g) E Q := by
  unfold runD
  cases hA : evS o A ⟨slots n ds, g⟩ with
  | ok f s => rw [hA] at h; cases f <;> exact h
  | ex _ _ _ => rw [hA] at h; exact h
  | no => rw [hA] at h; exact h
theorem wpI_def {ds : List D} {E : EC} {Q : List (Nat × D) → List MO → Prop} (h : wp (evS o A ⟨.ob m [] :: slots (n - 1) ds, g⟩) (fun c fs s => E c fs s.g) fun f s => match f with
    | .nx => ∃ fs, s.l[(0 : Nat)]? = some (.ob m fs) ∧ Q fs s.g
    | .rt .non => ∃ fs, s.l[(0 : Nat)]? = some (.ob m fs) ∧ Q fs s.g
    | _ => False) : wpI (runN o n m A ds g) E Q := by
  unfold runN
  have fin : ∀ s : S, (∃ fs, s.l[(0 : Nat)]? = some (.ob m fs) ∧ Q fs s.g) → wpI (R.fin m s) E Q := by
    rintro s ⟨fs, h1, h2⟩
    unfold R.fin
    rw [h1]
    simp only [beq_self_eq_true, cond_true]
    exact h2
  cases hA : evS o A ⟨.ob m [] :: slots (n - 1) ds, g⟩ with
  | ok f s =>
    rw [hA] at h
    cases f with
    | nx => exact fin s h
    | rt x => cases x <;> first | exact fin s h | exact h
    | bk => exact h
    | ct => exact h
  | ex _ _ _ => rw [hA] at h; exact h
  | no => rw [hA] at h; exact h
theorem w_revr {o : O} {a : T} {s : S} {E : EX} {Q : D → S → Prop} (h : wp (ev o a s) E fun x s => ∃ ds, view s.g x = .lst ds ∧ Q (.ref s.g.length) ⟨s.l, s.g ++ [.lst ds.reverse]⟩) : wp (ev o (.revr a) s) E Q :=
  wp_bind (wp_mono h fun x s ⟨ds, h1, h2⟩ => by rw [h1]; exact h2)
theorem w_trya {o : O} {b r : TS} {xc : Nat → Option Bool} {i j : Nat} {h : HX} {s : S} {E : EX} {K : F → S → Prop}
    (hb : wp (evS o b s) (fun k fs s' => match xc k with
      | some true => i < s'.l.length ∧ wp (hv o k fs h ⟨s'.l.set i .un, s'.g⟩) noX fun d s2 => wp (evS o r ⟨(s2.l.set j (.v d)).set i .un, s2.g⟩) E K
      | some false => E k fs s'
      | none => False) fun f s' => match f with
      | .nx => wp (evS o r s') E K
      | f => K f s') : wp (evS o (.seq (.trya b xc i j h) r) s) E K := by
  refine w_seq ?_
  show wp (match evS o b s with
    | .ex k fs s' => (match xc k with
      | some true => bif decide (i < s'.l.length) then (match hv o k fs h ⟨s'.l.set i .un, s'.g⟩ with
        | .ok d s => .ok .nx ⟨(s.l.set j (.v d)).set i .un, s.g⟩
        | _ => .no) else .no
      | some false => .ex k fs s'
      | none => .no)
    | r => r) E _
  cases hs : evS o b s with
  | ok f s' => rw [hs] at hb; cases f <;> exact hb
  | no => rw [hs] at hb; exact hb
  | ex k fs s' =>
    rw [hs] at hb
    have hb : (match xc k with
      | some true => i < s'.l.length ∧ wp (hv o k fs h ⟨s'.l.set i .un, s'.g⟩) noX fun d s2 => wp (evS o r ⟨(s2.l.set j (.v d)).set i .un, s2.g⟩) E K
      | some false => E k fs s'
      | none => False) := hb
    cases hx : xc k with
    | none => rw [hx] at hb; exact hb.elim
    | some p =>
      rw [hx] at hb
      simp only [hx]
      cases p with
      | false => exact hb
      | true =>
        obtain ⟨h1, h2⟩ := hb
        simp only [decide_eq_true h1, cond_true]
        cases hh : hv o k fs h ⟨s'.l.set i .un, s'.g⟩ with
        | ok d s2 => rw [hh] at h2; exact h2
        | ex _ _ _ => rw [hh] at h2; exact h2.elim
        | no => rw [hh] at h2; exact h2.elim
theorem w_appr (h : wp (ev o a s) E fun x s => ∃ n ds0, x = .ref n ∧ s.g[n]? = some (.lst ds0) ∧ wp (ev o e s) E fun d s => ∃ ds, s.g[n]? = some (.lst ds) ∧ ds.length < big ∧ wp (evS o r ⟨s.l, s.g.set n (.lst (ds ++ [d]))⟩) E K) : wp (evS o (.seq (.appr a e) r) s) E K := by
  refine w_seq (wp_bind (wp_mono h ?_))
  rintro x s ⟨n, ds0, rfl, h1, h2⟩
  simp only [h1]
  refine wp_bind (wp_mono h2 ?_)
  rintro d s ⟨ds, h3, h4, h5⟩
  simp only [h3, decide_eq_true h4, cond_true]
  exact h5
theorem w_setr {i : T} (h : wp (ev o e s) E fun d s => wp (ev o a s) E fun x s => wp (ev o i s) E fun y s => ∃ n k ds j, x = .ref n ∧ y = .int k ∧ s.g[n]? = some (.lst ds) ∧ L2.ixN ds.length k = some j ∧ wp (evS o r ⟨s.l, s.g.set n (.lst (ds.set j d))⟩) E K) : wp (evS o (.seq (.setr a i e) r) s) E K := by
  refine w_seq (wp_bind (wp_mono h ?_))
  rintro d s h
  refine wp_bind (wp_mono h ?_)
  rintro x s h
  refine wp_bind (wp_mono h ?_)
  rintro y s ⟨n, k, ds, j, rfl, rfl, h1, h2, h3⟩
  simp only [h1, h2]
  exact h3
theorem w_setr2 {i : T} {q : Nat} (h : wp (ev o e s) E fun d s => ∃ d0 d1, d = .tup [d0, d1] ∧ wp (ev o a s) E fun x s => wp (ev o i s) E fun y s => ∃ n k ds j, x = .ref n ∧ y = .int k ∧ s.g[n]? = some (.lst ds) ∧ L2.ixN ds.length k = some j ∧ wp (evS o r ⟨s.l.set q (.v d1), s.g.set n (.lst (ds.set j d0))⟩) E K) : wp (evS o (.seq (.setr2 a i q e) r) s) E K := by
  refine w_seq (wp_bind (wp_mono h ?_))
  rintro d s ⟨d0, d1, rfl, h⟩
  refine wp_bind (wp_mono h ?_)
  rintro x s h
  refine wp_bind (wp_mono h ?_)
  rintro y s ⟨n, k, ds, j, rfl, rfl, h1, h2, h3⟩
  simp only [h1, h2]
  exact h3
/-- turn by turn -/
def wpL (o : O) (t : Tgt) (A r : TS) (E : EX) (K : F → S → Prop) : List D → S → Prop
  | [], s => wp (evS o r s) E K
  | d :: ds, s => ∃ l, tgS t d s.l = some l ∧ wp (evS o A ⟨l, s.g⟩) E fun f s => match f with
      | .nx => wpL o t A r E K ds s
      | .ct => wpL o t A r E K ds s
      | .bk => wp (evS o r s) E K
      | .rt x => K (.rt x) s
theorem wL_nil {t : Tgt} (h : wp (evS o r s) E K) : wpL o t A r E K [] s := h
theorem wL_cons {t : Tgt} {ds : List D} {d : D} (h : ∃ l, tgS t d s.l = some l ∧ wp (evS o A ⟨l, s.g⟩) E fun f s => match f with
      | .nx => wpL o t A r E K ds s
      | .ct => wpL o t A r E K ds s
      | .bk => wp (evS o r s) E K
      | .rt x => K (.rt x) s) : wpL o t A r E K (d :: ds) s := h
theorem w_forL {t : Tgt} {it : T} (h : wp (evI o it s) E fun ds s => wpL o t A r E K ds s) : wp (evS o (.seq (.fr t it A) r) s) E K := by
  refine w_seq (wp_bind (wp_mono h ?_))
  intro ds
  induction ds with
  | nil => intro s h; exact h
  | cons d ds ih =>
    rintro s ⟨l, hl, hb⟩
    unfold loopS
    simp only [hl]
    cases hA : evS o A ⟨l, s.g⟩ with
    | ex _ _ _ => rw [hA] at hb; exact hb
    | no => rw [hA] at hb; exact hb
    | ok f s1 =>
      rw [hA] at hb
      cases f with
      | nx => exact ih s1 hb
      | ct => exact ih s1 hb
      | bk => exact hb
      | rt x => exact hb
theorem w_rngd {Q : List D → S → Prop} {c : T} (h : wp (ev o a s) E fun x s => wp (ev o b s) E fun y s => wp (ev o c s) E fun z s => ∃ i j, x = .int i ∧ y = .int j ∧ z = .int (-1) ∧ -(2 ^ 62) ≤ i ∧ i < 2 ^ 62 ∧ -(2 ^ 62) ≤ j ∧ j < 2 ^ 62 ∧ Q ((List.range (i - j).toNat).map fun (k : Nat) => .int (i + k * (-1))) s) : wp (evI o (.rngd a b c) s) E Q :=
  wp_bind (wp_mono h fun _ _ h => wp_bind (wp_mono h fun _ _ h => wp_bind (wp_mono h fun _ _ ⟨i, j, h1, h2, h0, h3, h4, h5, h6, h7⟩ => by
    subst h1 h2 h0
    show wp (bif decide (-(2 ^ 62) ≤ i) && decide (i < 2 ^ 62) && decide (-(2 ^ 62) ≤ j) && decide (j < 2 ^ 62) && decide ((-1 : Int) = -1) then _ else _) E Q
    rw [decide_eq_true h3, decide_eq_true h4, decide_eq_true h5, decide_eq_true h6]; exact h7)))
theorem fin_ok {r : C} (main : wpC r (fun _ _ _ => False) fun d _ => d = .bl true) : ∃ g', r = .ok (.bl true) g' := by
  cases r with
  | ok d g' => have main : d = .bl true := main; subst main; exact ⟨g', rfl⟩
  | ex c fs g' => exact False.elim main
  | no => exact False.elim main
theorem wpC_to {r : C} {x : D} {g : List MO} (h : wpC r (fun _ _ _ => False) fun d g' => d = x ∧ g' = g) : r = .ok x g := by
  cases r with
  | ok d g' => obtain ⟨rfl, rfl⟩ := h; rfl
  | ex _ _ _ => exact h.elim
  | no => exact h.elim
theorem wpC_elim {r : C} {Q : D → List MO → Prop} (h : wpC r (fun _ _ _ => False) Q) : ∃ d g', r = .ok d g' ∧ Q d g' := by
  cases r with
  | ok d g' => exact ⟨d, g', rfl, h⟩
  | ex _ _ _ => exact h.elim
  | no => exact h.elim
theorem wpI_elim {r : CI} {Q : List (Nat × D) → List MO → Prop} (h : wpI r (fun _ _ _ => False) Q) : ∃ d g', r = .ok d g' ∧ Q d g' := by
  cases r with
  | ok d g' => exact ⟨d, g', rfl, h⟩
  | ex _ _ _ => exact h.elim
  | no => exact h.elim
theorem wp_elim {α : Type} {r : R α} {Q : α → S → Prop} (h : wp r noX Q) : ∃ a s, r = .ok a s ∧ Q a s := by
  cases r with
  | ok d g' => exact ⟨d, g', rfl, h⟩
  | ex _ _ _ => exact h.elim
  | no => exact h.elim
theorem w_prp {Q : D → S → Prop} (h : wp (ev o a s) E fun x s => wpC (own1 o m x s.g) noC fun d g => Q d ⟨s.l, g⟩) : wp (ev o (.prp m a) s) E Q :=
  wp_bind (wp_mono h fun x s h => by
    cases hc : own1 o m x s.g with
    | ok d g => rw [hc] at h; exact h
    | ex _ _ _ => rw [hc] at h; exact False.elim h
    | no => rw [hc] at h; exact False.elim h)
theorem w_tro {Q : D → S → Prop} (h : wp (ev o a s) E fun x s => wpC (own1 o m x s.g) noC fun d g => ∃ p, d = .bl p ∧ Q (.bl p) ⟨s.l, g⟩) : wp (ev o (.tro m a) s) E Q :=
  wp_bind (wp_mono h fun x s h => by
    cases hc : own1 o m x s.g with
    | ok d g => rw [hc] at h; obtain ⟨p, rfl, h⟩ := h; exact h
    | ex _ _ _ => rw [hc] at h; exact False.elim h
    | no => rw [hc] at h; exact False.elim h)
theorem w_opm {Q : D → S → Prop} (h : wp (ev o a s) E fun x s => wp (ev o b s) E fun y s => wpC (own2 o m x y s.g) noC fun d g => Q d ⟨s.l, g⟩) : wp (ev o (.opm m a b) s) E Q :=
  wp_bind (wp_mono h fun x s h => wp_bind (wp_mono h fun y s h => by
    cases hc : own2 o m x y s.g with
    | ok d g => rw [hc] at h; exact h
    | ex _ _ _ => rw [hc] at h; exact False.elim h
    | no => rw [hc] at h; exact False.elim h))
theorem w_enmT {Q : List D → S → Prop} (h : wp (ev o a s) E fun x s => wp (R.of (enmTD x) s) E Q) : wp (evI o (.enmT a) s) E Q := wp_bind h
theorem w_asgN {ts : List (Nat ⊕ List Nat)} (h : wp (ev o a s) E fun x s => ∃ l, tgS (.nest ts) x s.l = some l ∧ wp (evS o r ⟨l, s.g⟩) E K) : wp (evS o (.seq (.asg (.nest ts) a) r) s) E K :=
  w_seq (wp_bind (wp_mono h fun _ _ ⟨l, h1, h2⟩ => by rw [h1]; exact h2))
theorem w_setFs {ns : List Nat} (h : wp (ev o a s) E fun x s => ∃ ds fs fs', x = .tup ds ∧ s.l[(0 : Nat)]? = some (.ob m fs) ∧ putNs ns ds fs = some fs' ∧ fs.length + ns.length < 900 ∧ wp (evS o r ⟨s.l.set 0 (.ob m fs'), s.g⟩) E K) : wp (evS o (.seq (.setFs m ns a) r) s) E K := by
  refine w_seq (wp_bind (wp_mono h ?_))
  rintro x s ⟨ds, fs, fs', rfl, h1, h2, h3, h4⟩
  simp only [h1, h2, beq_self_eq_true, Bool.true_and, decide_eq_true h3, cond_true]
  exact h4
theorem w_seto (h : wp (ev o b s) E fun d s => isOwn s.l i = true ∧ wp (ev o a s) E fun y s => ∃ ds k j, s.l[i]? = some (.own ds) ∧ y = .int k ∧ L2.ixN ds.length k = some j ∧ wp (evS o r ⟨s.l.set i (.own (ds.set j d)), s.g⟩) E K) : wp (evS o (.seq (.seto i a b) r) s) E K := by
  refine w_seq (wp_bind (wp_mono h ?_))
  rintro d s ⟨h1, h2⟩
  simp only [h1, cond_true]
  refine wp_bind (wp_mono h2 ?_)
  rintro y s ⟨ds, k, j, h3, rfl, h4, h5⟩
  simp only [h3, h4]
  exact h5
theorem w_extv (h : wp (ev o a s) E fun x s1 => ∃ xs ds, view s1.g x = .lst xs ∧ s1.l[i]? = some (.own ds) ∧ ds.length + xs.length ≤ big ∧ wp (evS o r ⟨s1.l.set i (.own (ds ++ xs)), s1.g⟩) E K) (e : isOwn s.l i = true := by rfl) : wp (evS o (.seq (.extv i a) r) s) E K := by
  refine w_seq ?_
  show wp (bif isOwn s.l i then _ else _) E _
  rw [e]
  refine wp_bind (wp_mono h ?_)
  rintro x s1 ⟨xs, ds, h1, h2, h3, h4⟩
  simp only [h1, h2, decide_eq_true h3, cond_true]
  exact h4
theorem w_ixo (h : wp (ev o a s) E fun y s1 => ∃ ds, s1.l[i]? = some (.own ds) ∧ wp (R.of (ixS (.lst ds) y) s1) E Q) (e : isOwn s.l i = true := by rfl) : wp (ev o (.ixo i a) s) E Q := by
  show wp (bif isOwn s.l i then _ else _) E Q
  rw [e]
  refine wp_bind (wp_mono h ?_)
  rintro y s1 ⟨ds, h1, h2⟩
  rw [h1]
  exact h2
end
end Pi.Raw
/-! The rules of WpRaw over sealed words: nothing unfolds them by itself. GENERATED by gen/seal.py. -/
namespace Pi
open PySem
@[irreducible] def wp {α : Type} (r : R α) (E : EX) (Q : α → S → Prop) : Prop := Raw.wp r E Q
@[irreducible] def wpC (r : C) (E : EC) (Q : D → List MO → Prop) : Prop := Raw.wpC r E Q
@[irreducible] def wpI (r : CI) (E : EC) (Q : List (Nat × D) → List MO → Prop) : Prop := Raw.wpI r E Q
@[irreducible] def wpL (o : O) (t : Tgt) (A r : TS) (E : EX) (K : F → S → Prop) (ds : List D) (s : S) : Prop := Raw.wpL o t A r E K ds s
theorem wp_raw {α : Type} (r : R α) (E : EX) (Q : α → S → Prop) : wp r E Q = Raw.wp r E Q := by unfold wp; rfl
theorem wpC_raw (r : C) (E : EC) (Q : D → List MO → Prop) : wpC r E Q = Raw.wpC r E Q := by unfold wpC; rfl
theorem wpI_raw (r : CI) (E : EC) (Q : List (Nat × D) → List MO → Prop) : wpI r E Q = Raw.wpI r E Q := by unfold wpI; rfl
theorem wpL_raw (o : O) (t : Tgt) (A r : TS) (E : EX) (K : F → S → Prop) (ds : List D) (s : S) : wpL o t A r E K ds s = Raw.wpL o t A r E K ds s := by unfold wpL; rfl
section
variable {α β : Type} {o : O} {s s1 : S} {l : List SV} {g : List MO} {E E' : EX} {Q Q' : D → S → Prop} {K : F → S → Prop} {a b c d e : T} {r A B : TS} {x y z : D} {n i j f m : Nat} {k : Op}
theorem wp_mono {r : R α} {Q Q' : α → S → Prop} (h : wp r E Q) (hq : ∀ a s, Q a s → Q' a s) (he : ∀ c fs s, E c fs s → E' c fs s := by intro _ _ _ h; exact h) : wp r E' Q' := by
  simp only [wp_raw, wpC_raw, wpI_raw, wpL_raw] at *
  exact Raw.wp_mono h hq he
theorem wp_bind {r : R α} {k : α → S → R β} {Q : β → S → Prop} (h : wp r E fun a s => wp (k a s) E Q) : wp (r.bind k) E Q := by
  simp only [wp_raw, wpC_raw, wpI_raw, wpL_raw] at *
  exact Raw.wp_bind h
theorem wp_eq {r : R α} {Q : α → S → Prop} {a : α} (h : r = .ok a s) (q : Q a s) : wp r E Q := by
  simp only [wp_raw, wpC_raw, wpI_raw, wpL_raw] at *
  exact Raw.wp_eq h q
theorem w_of {o : Option α} {Q : α → S → Prop} {z : α} (h : o = some z) (q : Q z s) : wp (R.of o s) E Q := by
  simp only [wp_raw, wpC_raw, wpI_raw, wpL_raw] at *
  exact Raw.w_of h q
theorem wpC_mono {r : C} {E E' : EC} {Q Q' : D → List MO → Prop} (h : wpC r E Q) (hq : ∀ a s, Q a s → Q' a s) (he : ∀ c fs s, E c fs s → E' c fs s := by intro _ _ _ h; exact h) : wpC r E' Q' := by
  simp only [wp_raw, wpC_raw, wpI_raw, wpL_raw] at *
  exact Raw.wpC_mono h hq he
theorem wpC_eq {r : C} {E : EC} {Q : D → List MO → Prop} (h : r = .ok x g) (q : Q x g) : wpC r E Q := by
  simp only [wp_raw, wpC_raw, wpI_raw, wpL_raw] at *
  exact Raw.wpC_eq h q
theorem wpI_eq {r : CI} {E : EC} {Q : List (Nat × D) → List MO → Prop} {fs : List (Nat × D)} (h : r = .ok fs g) (q : Q fs g) : wpI r E Q := by
  simp only [wp_raw, wpC_raw, wpI_raw, wpL_raw] at *
  exact Raw.wpI_eq h q
theorem wp_ofC {q : C} (h : wpC q (fun c fs g => E c fs ⟨l, g⟩) fun d g => Q d ⟨l, g⟩) : wp (R.ofC l q) E Q := by
  simp only [wp_raw, wpC_raw, wpI_raw, wpL_raw] at *
  exact Raw.wp_ofC h
theorem wp_ofCI {q : CI} (h : wpI q (fun c fs g => E c fs ⟨l, g⟩) fun fs g => Q (.ins n fs) ⟨l, g⟩) : wp (R.ofCI l n q) E Q := by
  simp only [wp_raw, wpC_raw, wpI_raw, wpL_raw] at *
  exact Raw.wp_ofCI h
theorem w_c (h : Q x s) : wp (ev o (.c x) s) E Q := by
  simp only [wp_raw, wpC_raw, wpI_raw, wpL_raw] at *
  exact Raw.w_c h
theorem w_gl (h : Q x s) : wp (ev o (.gl x) s) E Q := by
  simp only [wp_raw, wpC_raw, wpI_raw, wpL_raw] at *
  exact Raw.w_gl h
theorem w_v (e : s.l[i]? = some (.v x)) (h : Q x s) : wp (ev o (.v i) s) E Q := by
  simp only [wp_raw, wpC_raw, wpI_raw, wpL_raw] at *
  exact Raw.w_v e h
theorem w_op2 (h : wp (ev o a s) E fun x s => wp (ev o b s) E fun y s => wp (R.of (op2S s.g k x y) s) E Q) : wp (ev o (.op2 k a b) s) E Q := by
  simp only [wp_raw, wpC_raw, wpI_raw, wpL_raw] at *
  exact Raw.w_op2 h
theorem w_opo (e : isOwn s.l i = true) (h : wp (ev o b s) E fun y s => ∃ ds, s.l[i]? = some (.own ds) ∧ wp (R.of (op2S s.g k (.lst ds) y) s) E Q) : wp (ev o (.opo k i b) s) E Q := by
  simp only [wp_raw, wpC_raw, wpI_raw, wpL_raw] at *
  exact Raw.w_opo e h
theorem w_eqo {neg : Bool} (h : wp (ev o a s) E fun x s => wp (ev o b s) E fun y s => wpC (eqoC o x y s.g) noC fun d g => ∃ p, d = .bl p ∧ Q (.bl (notB neg p)) ⟨s.l, g⟩) : wp (ev o (.eqo neg a b) s) E Q := by
  simp only [wp_raw, wpC_raw, wpI_raw, wpL_raw] at *
  exact Raw.w_eqo h
theorem w_inq {neg : Bool} (h : wp (ev o a s) E fun x s => wp (ev o b s) E fun y s => ∃ ds, y = .tup ds ∧ wpC (inqC o x ds s.g) noC fun d g => ∃ p, d = .bl p ∧ Q (.bl (notB neg p)) ⟨s.l, g⟩) : wp (ev o (.inq neg a b) s) E Q := by
  simp only [wp_raw, wpC_raw, wpI_raw, wpL_raw] at *
  exact Raw.w_inq h
theorem w_ch {k k' : Op} (h : wp (ev o a s) E fun x s => wp (ev o b s) E fun y s => ∃ p, op2S s.g k x y = some (.bl p) ∧ (p = true → wp (ev o c s) E fun z s => wp (R.of (op2S s.g k' y z) s) E Q) ∧ (p = false → Q (.bl false) s)) : wp (ev o (.ch k k' a b c) s) E Q := by
  simp only [wp_raw, wpC_raw, wpI_raw, wpL_raw] at *
  exact Raw.w_ch h
theorem w_neg (h : wp (ev o a s) E fun x s => ∃ i, x = .int i ∧ Q (.int (-i)) s) : wp (ev o (.neg a) s) E Q := by
  simp only [wp_raw, wpC_raw, wpI_raw, wpL_raw] at *
  exact Raw.w_neg h
theorem w_and (h : wp (ev o a s) E fun x s => ∃ p, x = .bl p ∧ (p = true → wp (ev o b s) E Q) ∧ (p = false → Q (.bl false) s)) : wp (ev o (.and a b) s) E Q := by
  simp only [wp_raw, wpC_raw, wpI_raw, wpL_raw] at *
  exact Raw.w_and h
theorem w_or (h : wp (ev o a s) E fun x s => ∃ p, x = .bl p ∧ (p = true → Q (.bl true) s) ∧ (p = false → wp (ev o b s) E Q)) : wp (ev o (.or a b) s) E Q := by
  simp only [wp_raw, wpC_raw, wpI_raw, wpL_raw] at *
  exact Raw.w_or h
theorem w_not (h : wp (ev o a s) E fun x s => ∃ p, x = .bl p ∧ Q (.bl (!p)) s) : wp (ev o (.not a) s) E Q := by
  simp only [wp_raw, wpC_raw, wpI_raw, wpL_raw] at *
  exact Raw.w_not h
theorem w_tru (h : wp (ev o a s) E fun x s => wp (R.of ((truS (view s.g x)).map .bl) s) E Q) : wp (ev o (.tru a) s) E Q := by
  simp only [wp_raw, wpC_raw, wpI_raw, wpL_raw] at *
  exact Raw.w_tru h
theorem w_iteE (h : wp (ev o c s) E fun x s => ∃ p, x = .bl p ∧ (p = true → wp (ev o a s) E Q) ∧ (p = false → wp (ev o b s) E Q)) : wp (ev o (.ite c a b) s) E Q := by
  simp only [wp_raw, wpC_raw, wpI_raw, wpL_raw] at *
  exact Raw.w_iteE h
theorem w_tup (h : wp (evA o a s) E fun ds s => ds.length ≤ big ∧ Q (.tup ds) s) : wp (ev o (.tup a) s) E Q := by
  simp only [wp_raw, wpC_raw, wpI_raw, wpL_raw] at *
  exact Raw.w_tup h
theorem w_lst (h : wp (evA o a s) E fun ds s => ds.length ≤ big ∧ Q (.lst ds) s) : wp (ev o (.lst a) s) E Q := by
  simp only [wp_raw, wpC_raw, wpI_raw, wpL_raw] at *
  exact Raw.w_lst h
theorem w_nil {Q : List D → S → Prop} (h : Q [] s) : wp (evA o .nil s) E Q := by
  simp only [wp_raw, wpC_raw, wpI_raw, wpL_raw] at *
  exact Raw.w_nil h
theorem w_cons {Q : List D → S → Prop} (h : wp (ev o a s) E fun x s => wp (evA o b s) E fun xs s => Q (x :: xs) s) : wp (evA o (.cons a b) s) E Q := by
  simp only [wp_raw, wpC_raw, wpI_raw, wpL_raw] at *
  exact Raw.w_cons h
theorem w_ix (h : wp (ev o a s) E fun x s => wp (ev o b s) E fun y s => wp (R.of (ixS (view s.g x) y) s) E Q) : wp (ev o (.ix a b) s) E Q := by
  simp only [wp_raw, wpC_raw, wpI_raw, wpL_raw] at *
  exact Raw.w_ix h
theorem w_sl (h : wp (ev o a s) E fun x s => wp (evO o b s) E fun i s => wp (evO o c s) E fun j s => wp (R.of (slS (view s.g x) i j) s) E Q) : wp (ev o (.sl a b c) s) E Q := by
  simp only [wp_raw, wpC_raw, wpI_raw, wpL_raw] at *
  exact Raw.w_sl h
theorem w_onil {Q : Option Int → S → Prop} (h : Q none s) : wp (evO o .nil s) E Q := by
  simp only [wp_raw, wpC_raw, wpI_raw, wpL_raw] at *
  exact Raw.w_onil h
theorem w_ocons {Q : Option Int → S → Prop} (h : wp (ev o a s) E fun x s => ∃ i, x = .int i ∧ Q (some i) s) : wp (evO o (.cons a b) s) E Q := by
  simp only [wp_raw, wpC_raw, wpI_raw, wpL_raw] at *
  exact Raw.w_ocons h
theorem w_rev (h : wp (ev o a s) E fun x s => wp (R.of (revS (view s.g x)) s) E Q) : wp (ev o (.rev a) s) E Q := by
  simp only [wp_raw, wpC_raw, wpI_raw, wpL_raw] at *
  exact Raw.w_rev h
theorem w_call {df : List D} (h : wp (evA o a s) E fun ds s => wpC (o.call f (ds ++ df) s.g) (fun c fs g => E c fs ⟨s.l, g⟩) fun d g => Q d ⟨s.l, g⟩) : wp (ev o (.call f a df) s) E Q := by
  simp only [wp_raw, wpC_raw, wpI_raw, wpL_raw] at *
  exact Raw.w_call h
theorem w_mk {df : List D} (h : wp (evA o a s) E fun ds s => wpI (o.init n (ds ++ df) s.g) (fun c fs g => E c fs ⟨s.l, g⟩) fun fs g => Q (.ins n fs) ⟨s.l, g⟩) : wp (ev o (.mk n a df) s) E Q := by
  simp only [wp_raw, wpC_raw, wpI_raw, wpL_raw] at *
  exact Raw.w_mk h
theorem w_meth {df : List D} (h : wp (ev o a s) E fun x s => ∃ c f, clsS s.g x = some c ∧ o.meth c m = some f ∧ wp (evA o b s) E fun ds s => wpC (o.call f (x :: (ds ++ df)) s.g) (fun c fs g => E c fs ⟨s.l, g⟩) fun d g => Q d ⟨s.l, g⟩) : wp (ev o (.meth m a b df) s) E Q := by
  simp only [wp_raw, wpC_raw, wpI_raw, wpL_raw] at *
  exact Raw.w_meth h
theorem w_fld (h : wp (ev o a s) E fun x s => wp (R.of (fldS s.g x n) s) E Q) : wp (ev o (.fld a n) s) E Q := by
  simp only [wp_raw, wpC_raw, wpI_raw, wpL_raw] at *
  exact Raw.w_fld h
theorem w_inr {neg : Bool} (h : wp (ev o a s) E fun x s => wp (ev o b s) E fun y s => ∃ ds p, seqD (view s.g y) = some ds ∧ inD x ds = some p ∧ Q (.bl (bif neg then !p else p)) s) : wp (ev o (.inr neg a b) s) E Q := by
  simp only [wp_raw, wpC_raw, wpI_raw, wpL_raw] at *
  exact Raw.w_inr h
theorem w_ino {neg : Bool} (h : wp (ev o a s) E fun x s => wp (ev o b s) E fun y s => ∃ c f, clsS s.g y = some c ∧ o.cont c = some f ∧ wpC (o.call f [y, x] s.g) noC fun d g => ∃ p, d = .bl p ∧ Q (.bl (bif neg then !p else p)) ⟨s.l, g⟩) : wp (ev o (.ino neg a b) s) E Q := by
  simp only [wp_raw, wpC_raw, wpI_raw, wpL_raw] at *
  exact Raw.w_ino h
theorem w_isi {ts : List Ty} (h : wp (ev o a s) E fun x s => ∃ d, tyD s.g x = some d ∧ Q (.bl (isiA o d ts)) s) : wp (ev o (.isi a ts) s) E Q := by
  simp only [wp_raw, wpC_raw, wpI_raw, wpL_raw] at *
  exact Raw.w_isi h
theorem w_bi {k : Bi} (h : wp (evA o a s) E fun ds s => wp (R.of (biS s.g k ds) s) E Q) : wp (ev o (.bi k a) s) E Q := by
  simp only [wp_raw, wpC_raw, wpI_raw, wpL_raw] at *
  exact Raw.w_bi h
theorem w_bio {k : Bi} {ds : List D} (e : s.l[i]? = some (.own ds)) (h : wp (R.of (biS s.g k [.lst ds]) s) E Q) : wp (ev o (.bio k i) s) E Q := by
  simp only [wp_raw, wpC_raw, wpI_raw, wpL_raw] at *
  exact Raw.w_bio e h
theorem w_popo (e : isOwn s.l i = true) (h : wp (ev o a s) E fun y s => ∃ ds k d, s.l[i]? = some (.own ds) ∧ y = .int k ∧ 0 ≤ k ∧ k < ds.length ∧ ds.length ≤ big ∧ ds[k.toNat]? = some d ∧ Q d ⟨s.l.set i (.own (ds.eraseIdx k.toNat)), s.g⟩) : wp (ev o (.popo i a) s) E Q := by
  simp only [wp_raw, wpC_raw, wpI_raw, wpL_raw] at *
  exact Raw.w_popo e h
theorem w_mkr (h : wp (evA o a s) E fun ds s => ds.length ≤ big ∧ Q (.ref s.g.length) ⟨s.l, s.g ++ [.lst ds]⟩) : wp (ev o (.mkr a) s) E Q := by
  simp only [wp_raw, wpC_raw, wpI_raw, wpL_raw] at *
  exact Raw.w_mkr h
theorem w_zip {Q : List D → S → Prop} (h : wp (ev o a s) E fun x s => wp (ev o b s) E fun y s => wp (R.of (zipD x y) s) E Q) : wp (evI o (.zip a b) s) E Q := by
  simp only [wp_raw, wpC_raw, wpI_raw, wpL_raw] at *
  exact Raw.w_zip h
theorem w_enm {Q : List D → S → Prop} (h : wp (ev o a s) E fun x s => wp (R.of (enmD x) s) E Q) : wp (evI o (.enm a) s) E Q := by
  simp only [wp_raw, wpC_raw, wpI_raw, wpL_raw] at *
  exact Raw.w_enm h
theorem w_it {Q : List D → S → Prop} (h : wp (ev o a s) E fun x s => wp (R.of (seqD x) s) E Q) : wp (evI o (.it a) s) E Q := by
  simp only [wp_raw, wpC_raw, wpI_raw, wpL_raw] at *
  exact Raw.w_it h
theorem w_its {Q : List D → S → Prop} (h : wp (ev o a s) E fun x s => wp (R.of (chars x) s) E Q) : wp (evI o (.its a) s) E Q := by
  simp only [wp_raw, wpC_raw, wpI_raw, wpL_raw] at *
  exact Raw.w_its h
theorem w_rng1 {Q : List D → S → Prop} (h : wp (ev o a s) E fun x s => ∃ j, x = .int j ∧ -(2 ^ 62) ≤ j ∧ j < 2 ^ 62 ∧ Q ((List.range j.toNat).map fun (k : Nat) => .int k) s) : wp (evI o (.rng1 a) s) E Q := by
  simp only [wp_raw, wpC_raw, wpI_raw, wpL_raw] at *
  exact Raw.w_rng1 h
theorem w_rng2 {Q : List D → S → Prop} (h : wp (ev o a s) E fun x s => wp (ev o b s) E fun y s => ∃ i j, x = .int i ∧ y = .int j ∧ -(2 ^ 62) ≤ i ∧ i < 2 ^ 62 ∧ -(2 ^ 62) ≤ j ∧ j < 2 ^ 62 ∧ Q ((List.range (j - i).toNat).map fun (k : Nat) => .int (i + k)) s) : wp (evI o (.rng2 a b) s) E Q := by
  simp only [wp_raw, wpC_raw, wpI_raw, wpL_raw] at *
  exact Raw.w_rng2 h
theorem w_comp {it : T} {tg : Tgt} (h : wp (evI o it s) E fun ds s => ds.length ≤ big ∧ ∃ I : List D → List D → List MO → Prop, I [] [] s.g ∧
      (∀ done d rest acc g, ds = done ++ d :: rest → acc.length ≤ done.length → I done acc g → ∃ l, tgS tg d (clr tg.slots (wipeOwn s.l)) = some l ∧ wp (ev o c ⟨l, g⟩) noX fun t s' => ∃ p, t = .bl p ∧ (p = true → wp (ev o e s') noX fun x s'' => I (done ++ [d]) (acc ++ [x]) s''.g) ∧ (p = false → I (done ++ [d]) acc s'.g)) ∧
      ∀ acc g, acc.length ≤ ds.length → I ds acc g → Q (.lst acc) ⟨s.l, g⟩) : wp (ev o (.comp tg it c e) s) E Q := by
  simp only [wp_raw, wpC_raw, wpI_raw, wpL_raw] at *
  exact Raw.w_comp h
theorem w_last (h : wp (evS o (.seq A .nil) s) E K) : wp (evS o A s) E K := by
  simp only [wp_raw, wpC_raw, wpI_raw, wpL_raw] at *
  exact Raw.w_last h
theorem w_nilS (h : K .nx s) : wp (evS o .nil s) E K := by
  simp only [wp_raw, wpC_raw, wpI_raw, wpL_raw] at *
  exact Raw.w_nilS h
theorem w_seqN (h : wp (evS o r s) E K) : wp (evS o (.seq .nil r) s) E K := by
  simp only [wp_raw, wpC_raw, wpI_raw, wpL_raw] at *
  exact Raw.w_seqN h
theorem w_seqS (h : wp (evS o (.seq A (.seq B r)) s) E K) : wp (evS o (.seq (.seq A B) r) s) E K := by
  simp only [wp_raw, wpC_raw, wpI_raw, wpL_raw] at *
  exact Raw.w_seqS h
theorem w_seq (h : wp (evS o A s) E fun f s1 => match f with
    | .nx => wp (evS o r s1) E K
    | f => K f s1) : wp (evS o (.seq A r) s) E K := by
  simp only [wp_raw, wpC_raw, wpI_raw, wpL_raw] at *
  exact Raw.w_seq h
theorem w_asg (h : wp (ev o a s) E fun x s => wp (evS o r ⟨s.l.set i (.v x), s.g⟩) E K) : wp (evS o (.seq (.asg (.one i) a) r) s) E K := by
  simp only [wp_raw, wpC_raw, wpI_raw, wpL_raw] at *
  exact Raw.w_asg h
theorem w_asgT {is : List Nat} (h : wp (ev o a s) E fun x s => ∃ l, tgS (.tup is) x s.l = some l ∧ wp (evS o r ⟨l, s.g⟩) E K) : wp (evS o (.seq (.asg (.tup is) a) r) s) E K := by
  simp only [wp_raw, wpC_raw, wpI_raw, wpL_raw] at *
  exact Raw.w_asgT h
theorem w_ex (h : wp (ev o a s) E fun _ s => wp (evS o r s) E K) : wp (evS o (.seq (.ex a) r) s) E K := by
  simp only [wp_raw, wpC_raw, wpI_raw, wpL_raw] at *
  exact Raw.w_ex h
theorem w_ite (h : wp (ev o c s) E fun x s => ∃ p, x = .bl p ∧ (p = true → wp (evS o (.seq A r) s) E K) ∧ (p = false → wp (evS o (.seq B r) s) E K)) : wp (evS o (.seq (.ite c A B) r) s) E K := by
  simp only [wp_raw, wpC_raw, wpI_raw, wpL_raw] at *
  exact Raw.w_ite h
theorem w_retS (h : wp (ev o a s) E fun x s => K (.rt x) s) : wp (evS o (.seq (.ret a) r) s) E K := by
  simp only [wp_raw, wpC_raw, wpI_raw, wpL_raw] at *
  exact Raw.w_retS h
theorem w_ret (h : wp (ev o a s) E fun x s => K (.rt x) s) : wp (evS o (.ret a) s) E K := by
  simp only [wp_raw, wpC_raw, wpI_raw, wpL_raw] at *
  exact Raw.w_ret h
theorem w_retnS (h : K (.rt .non) s) : wp (evS o (.seq .retn r) s) E K := by
  simp only [wp_raw, wpC_raw, wpI_raw, wpL_raw] at *
  exact Raw.w_retnS h
theorem w_brk (h : K .bk s) : wp (evS o (.seq .brk r) s) E K := by
  simp only [wp_raw, wpC_raw, wpI_raw, wpL_raw] at *
  exact Raw.w_brk h
theorem w_cnt (h : K .ct s) : wp (evS o (.seq .cnt r) s) E K := by
  simp only [wp_raw, wpC_raw, wpI_raw, wpL_raw] at *
  exact Raw.w_cnt h
theorem w_raise (h : wp (evA o a s) E fun ds s => ∃ d, ds = [d] ∧ E f [(n, d)] s) : wp (evS o (.seq (.raise f n a) r) s) E K := by
  simp only [wp_raw, wpC_raw, wpI_raw, wpL_raw] at *
  exact Raw.w_raise h
theorem w_setF (h : wp (ev o a s) E fun x s => ∃ fs, s.l[(0 : Nat)]? = some (.ob m fs) ∧ fs.length < 900 ∧ wp (evS o r ⟨s.l.set 0 (.ob m (putN n x fs)), s.g⟩) E K) : wp (evS o (.seq (.setF m n a) r) s) E K := by
  simp only [wp_raw, wpC_raw, wpI_raw, wpL_raw] at *
  exact Raw.w_setF h
theorem w_mko (h : wp (evA o a s) E fun ds s => ds.length ≤ big ∧ wp (evS o r ⟨s.l.set i (.own ds), s.g⟩) E K) : wp (evS o (.seq (.mko i a) r) s) E K := by
  simp only [wp_raw, wpC_raw, wpI_raw, wpL_raw] at *
  exact Raw.w_mko h
theorem w_app (e : isOwn s.l i = true) (h : wp (ev o a s) E fun x s => ∃ ds, s.l[i]? = some (.own ds) ∧ ds.length < big ∧ wp (evS o r ⟨s.l.set i (.own (ds ++ [x])), s.g⟩) E K) : wp (evS o (.seq (.app i a) r) s) E K := by
  simp only [wp_raw, wpC_raw, wpI_raw, wpL_raw] at *
  exact Raw.w_app e h
theorem w_ext (e : isOwn s.l i = true) (h : wp (evA o a s) E fun xs s => ∃ ds, s.l[i]? = some (.own ds) ∧ ds.length + xs.length ≤ big ∧ wp (evS o r ⟨s.l.set i (.own (ds ++ xs)), s.g⟩) E K) : wp (evS o (.seq (.ext i a) r) s) E K := by
  simp only [wp_raw, wpC_raw, wpI_raw, wpL_raw] at *
  exact Raw.w_ext e h
theorem w_frz {ds : List D} (e : s.l[i]? = some (.own ds)) (h : wp (evS o r ⟨s.l.set i (.v (.lst ds)), s.g⟩) E K) : wp (evS o (.seq (.frz i) r) s) E K := by
  simp only [wp_raw, wpC_raw, wpI_raw, wpL_raw] at *
  exact Raw.w_frz e h
theorem w_par {is : List Nat} (h : wp (evA o a s) E fun ds s => ∃ l, setAll is ds s.l = some l ∧ wp (evS o r ⟨l, s.g⟩) E K) : wp (evS o (.seq (.par is a) r) s) E K := by
  simp only [wp_raw, wpC_raw, wpI_raw, wpL_raw] at *
  exact Raw.w_par h
theorem w_evP {p : Bool} {Q : SV → S → Prop} (h : wp (ev o a s) E fun x s => wp (slotK p x s) E Q) : wp (evP o p a s) E Q := by
  simp only [wp_raw, wpC_raw, wpI_raw, wpL_raw] at *
  exact Raw.w_evP h
theorem w_kv {Q : SV → S → Prop} (h : Q (.v x) s) : wp (slotK false x s) E Q := by
  simp only [wp_raw, wpC_raw, wpI_raw, wpL_raw] at *
  exact Raw.w_kv h
theorem w_ko {ds : List D} {Q : SV → S → Prop} (hb : ds.length ≤ big) (h : Q (.own ds) s) : wp (slotK true (.lst ds) s) E Q := by
  simp only [wp_raw, wpC_raw, wpI_raw, wpL_raw] at *
  exact Raw.w_ko hb h
theorem w_par2 {p q : Bool} (h : wp (evP o p a s) E fun x s => wp (evP o q b s) E fun y s => wp (evS o r ⟨(s.l.set i x).set j y, s.g⟩) E K) : wp (evS o (.seq (.par2 i p a j q b) r) s) E K := by
  simp only [wp_raw, wpC_raw, wpI_raw, wpL_raw] at *
  exact Raw.w_par2 h
theorem w_mkf (h : wp (evP o true a s) E fun x s => wp (evS o r ⟨s.l.set i x, s.g⟩) E K) : wp (evS o (.seq (.mkf i a) r) s) E K := by
  simp only [wp_raw, wpC_raw, wpI_raw, wpL_raw] at *
  exact Raw.w_mkf h
theorem w_whl {n : Nat} (I : Nat → S → Prop) {k : Nat} (hk : k < n) (h0 : I k s) (hs : ∀ k s, I k s → wp (ev o c s) E fun x s1 => ∃ p, x = .bl p ∧ (p = true → ∃ k', k = k' + 1 ∧ wp (evS o A s1) E fun f s2 => match f with
        | .nx => I k' s2
        | .ct => I k' s2
        | .bk => wp (evS o r s2) E K
        | .rt x => K (.rt x) s2) ∧ (p = false → wp (evS o r s1) E K)) : wp (evS o (.seq (.whl n c A) r) s) E K := by
  simp only [wp_raw, wpC_raw, wpI_raw, wpL_raw] at *
  exact Raw.w_whl I hk h0 hs
theorem w_for {t : Tgt} {it : T} (h : wp (evI o it s) E fun ds s => ∃ I : List D → S → Prop, I [] s ∧
      (∀ done d rest s, ds = done ++ d :: rest → I done s → ∃ l, tgS t d s.l = some l ∧ wp (evS o A ⟨l, s.g⟩) E fun f s => match f with
        | .nx => I (done ++ [d]) s
        | .ct => I (done ++ [d]) s
        | .bk => wp (evS o r s) E K
        | .rt x => K (.rt x) s) ∧
      ∀ s, I ds s → wp (evS o r s) E K) : wp (evS o (.seq (.fr t it A) r) s) E K := by
  simp only [wp_raw, wpC_raw, wpI_raw, wpL_raw] at *
  exact Raw.w_for h
theorem w_forI {t : Tgt} {it : T} (I : S → Prop) (h : wp (evI o it s) E fun ds s => I s ∧
      (∀ d ∈ ds, ∀ s, I s → ∃ l, tgS t d s.l = some l ∧ wp (evS o A ⟨l, s.g⟩) E fun f s => match f with
        | .nx => I s
        | .ct => I s
        | .bk => wp (evS o r s) E K
        | .rt x => K (.rt x) s) ∧
      ∀ s, I s → wp (evS o r s) E K) : wp (evS o (.seq (.fr t it A) r) s) E K := by
  simp only [wp_raw, wpC_raw, wpI_raw, wpL_raw] at *
  exact Raw.w_forI I h
theorem w_compI {it : T} {tg : Tgt} (I : List MO → Prop) (P : D → Prop) (h : wp (evI o it s) E fun ds s => ds.length ≤ big ∧ I s.g ∧
      (∀ d ∈ ds, ∀ g, I g → ∃ l, tgS tg d (clr tg.slots (wipeOwn s.l)) = some l ∧ wp (ev o c ⟨l, g⟩) noX fun t s' => ∃ p, t = .bl p ∧ (p = true → wp (ev o e s') noX fun x s'' => P x ∧ I s''.g) ∧ (p = false → I s'.g)) ∧
      ∀ acc g, acc.length ≤ ds.length → (∀ x ∈ acc, P x) → I g → Q (.lst acc) ⟨s.l, g⟩) : wp (ev o (.comp tg it c e) s) E Q := by
  simp only [wp_raw, wpC_raw, wpI_raw, wpL_raw] at *
  exact Raw.w_compI I P h
theorem w_compM {it : T} {tg : Tgt} (f : D → D) (I : List MO → Prop) (h : wp (evI o it s) E fun ds s => ds.length ≤ big ∧ I s.g ∧
      (∀ d ∈ ds, ∀ g, I g → ∃ l, tgS tg d (clr tg.slots (wipeOwn s.l)) = some l ∧ wp (ev o e ⟨l, g⟩) noX fun x s' => x = f d ∧ I s'.g) ∧
      ∀ g, I g → Q (.lst (ds.map f)) ⟨s.l, g⟩) : wp (ev o (.comp tg it (.c (.bl true)) e) s) E Q := by
  simp only [wp_raw, wpC_raw, wpI_raw, wpL_raw] at *
  exact Raw.w_compM f I h
theorem wpC_def {ds : List D} {E : EC} {Q : D → List MO → Prop} (h : wp (evS o A ⟨slots n ds, g⟩) (fun c fs s => E c fs s.g) fun f s => match f with
    | .nx => Q .non s.g
    | .rt x => Q x s.g
    | _ => False) : wpC (runD o n A ds g) E Q := by
  simp only [wp_raw, wpC_raw, wpI_raw, wpL_raw] at *
  exact Raw.wpC_def h
theorem wpI_def {ds : List D} {E : EC} {Q : List (Nat × D) → List MO → Prop} (h : wp (evS o A ⟨.ob m [] :: slots (n - 1) ds, g⟩) (fun c fs s => E c fs s.g) fun f s => match f with
    | .nx => ∃ fs, s.l[(0 : Nat)]? = some (.ob m fs) ∧ Q fs s.g
    | .rt .non => ∃ fs, s.l[(0 : Nat)]? = some (.ob m fs) ∧ Q fs s.g
    | _ => False) : wpI (runN o n m A ds g) E Q := by
  simp only [wp_raw, wpC_raw, wpI_raw, wpL_raw] at *
  exact Raw.wpI_def h
theorem w_revr {o : O} {a : T} {s : S} {E : EX} {Q : D → S → Prop} (h : wp (ev o a s) E fun x s => ∃ ds, view s.g x = .lst ds ∧ Q (.ref s.g.length) ⟨s.l, s.g ++ [.lst ds.reverse]⟩) : wp (ev o (.revr a) s) E Q := by
  simp only [wp_raw, wpC_raw, wpI_raw, wpL_raw] at *
  exact Raw.w_revr h
theorem w_trya {o : O} {b r : TS} {xc : Nat → Option Bool} {i j : Nat} {h : HX} {s : S} {E : EX} {K : F → S → Prop}
    (hb : wp (evS o b s) (fun k fs s' => match xc k with
      | some true => i < s'.l.length ∧ wp (hv o k fs h ⟨s'.l.set i .un, s'.g⟩) noX fun d s2 => wp (evS o r ⟨(s2.l.set j (.v d)).set i .un, s2.g⟩) E K
      | some false => E k fs s'
      | none => False) fun f s' => match f with
      | .nx => wp (evS o r s') E K
      | f => K f s') : wp (evS o (.seq (.trya b xc i j h) r) s) E K := by
  simp only [wp_raw, wpC_raw, wpI_raw, wpL_raw] at *
  exact Raw.w_trya hb
theorem w_appr (h : wp (ev o a s) E fun x s => ∃ n ds0, x = .ref n ∧ s.g[n]? = some (.lst ds0) ∧ wp (ev o e s) E fun d s => ∃ ds, s.g[n]? = some (.lst ds) ∧ ds.length < big ∧ wp (evS o r ⟨s.l, s.g.set n (.lst (ds ++ [d]))⟩) E K) : wp (evS o (.seq (.appr a e) r) s) E K := by
  simp only [wp_raw, wpC_raw, wpI_raw, wpL_raw] at *
  exact Raw.w_appr h
theorem w_setr {i : T} (h : wp (ev o e s) E fun d s => wp (ev o a s) E fun x s => wp (ev o i s) E fun y s => ∃ n k ds j, x = .ref n ∧ y = .int k ∧ s.g[n]? = some (.lst ds) ∧ L2.ixN ds.length k = some j ∧ wp (evS o r ⟨s.l, s.g.set n (.lst (ds.set j d))⟩) E K) : wp (evS o (.seq (.setr a i e) r) s) E K := by
  simp only [wp_raw, wpC_raw, wpI_raw, wpL_raw] at *
  exact Raw.w_setr h
theorem w_setr2 {i : T} {q : Nat} (h : wp (ev o e s) E fun d s => ∃ d0 d1, d = .tup [d0, d1] ∧ wp (ev o a s) E fun x s => wp (ev o i s) E fun y s => ∃ n k ds j, x = .ref n ∧ y = .int k ∧ s.g[n]? = some (.lst ds) ∧ L2.ixN ds.length k = some j ∧ wp (evS o r ⟨s.l.set q (.v d1), s.g.set n (.lst (ds.set j d0))⟩) E K) : wp (evS o (.seq (.setr2 a i q e) r) s) E K := by
  simp only [wp_raw, wpC_raw, wpI_raw, wpL_raw] at *
  exact Raw.w_setr2 h
theorem wL_nil {t : Tgt} (h : wp (evS o r s) E K) : wpL o t A r E K [] s := by
  simp only [wp_raw, wpC_raw, wpI_raw, wpL_raw] at *
  exact Raw.wL_nil h
theorem wL_cons {t : Tgt} {ds : List D} {d : D} (h : ∃ l, tgS t d s.l = some l ∧ wp (evS o A ⟨l, s.g⟩) E fun f s => match f with
      | .nx => wpL o t A r E K ds s
      | .ct => wpL o t A r E K ds s
      | .bk => wp (evS o r s) E K
      | .rt x => K (.rt x) s) : wpL o t A r E K (d :: ds) s := by
  simp only [wp_raw, wpC_raw, wpI_raw, wpL_raw] at *
  exact Raw.wL_cons h
theorem w_forL {t : Tgt} {it : T} (h : wp (evI o it s) E fun ds s => wpL o t A r E K ds s) : wp (evS o (.seq (.fr t it A) r) s) E K := by
  simp only [wp_raw, wpC_raw, wpI_raw, wpL_raw] at *
  exact Raw.w_forL h
theorem w_rngd {Q : List D → S → Prop} {c : T} (h : wp (ev o a s) E fun x s => wp (ev o b s) E fun y s => wp (ev o c s) E fun z s => ∃ i j, x = .int i ∧ y = .int j ∧ z = .int (-1) ∧ -(2 ^ 62) ≤ i ∧ i < 2 ^ 62 ∧ -(2 ^ 62) ≤ j ∧ j < 2 ^ 62 ∧ Q ((List.range (i - j).toNat).map fun (k : Nat) => .int (i + k * (-1))) s) : wp (evI o (.rngd a b c) s) E Q := by
  simp only [wp_raw, wpC_raw, wpI_raw, wpL_raw] at *
  exact Raw.w_rngd h
theorem fin_ok {r : C} (main : wpC r (fun _ _ _ => False) fun d _ => d = .bl true) : ∃ g', r = .ok (.bl true) g' := by
  simp only [wp_raw, wpC_raw, wpI_raw, wpL_raw] at *
  exact Raw.fin_ok main
theorem wpC_to {r : C} {x : D} {g : List MO} (h : wpC r (fun _ _ _ => False) fun d g' => d = x ∧ g' = g) : r = .ok x g := by
  simp only [wp_raw, wpC_raw, wpI_raw, wpL_raw] at *
  exact Raw.wpC_to h
theorem wpC_elim {r : C} {Q : D → List MO → Prop} (h : wpC r (fun _ _ _ => False) Q) : ∃ d g', r = .ok d g' ∧ Q d g' := by
  simp only [wp_raw, wpC_raw, wpI_raw, wpL_raw] at *
  exact Raw.wpC_elim h
theorem wpI_elim {r : CI} {Q : List (Nat × D) → List MO → Prop} (h : wpI r (fun _ _ _ => False) Q) : ∃ d g', r = .ok d g' ∧ Q d g' := by
  simp only [wp_raw, wpC_raw, wpI_raw, wpL_raw] at *
  exact Raw.wpI_elim h
theorem wp_elim {α : Type} {r : R α} {Q : α → S → Prop} (h : wp r noX Q) : ∃ a s, r = .ok a s ∧ Q a s := by
  simp only [wp_raw, wpC_raw, wpI_raw, wpL_raw] at *
  exact Raw.wp_elim h
theorem w_prp {Q : D → S → Prop} (h : wp (ev o a s) E fun x s => wpC (own1 o m x s.g) noC fun d g => Q d ⟨s.l, g⟩) : wp (ev o (.prp m a) s) E Q := by
  simp only [wp_raw, wpC_raw, wpI_raw, wpL_raw] at *
  exact Raw.w_prp h
theorem w_tro {Q : D → S → Prop} (h : wp (ev o a s) E fun x s => wpC (own1 o m x s.g) noC fun d g => ∃ p, d = .bl p ∧ Q (.bl p) ⟨s.l, g⟩) : wp (ev o (.tro m a) s) E Q := by
  simp only [wp_raw, wpC_raw, wpI_raw, wpL_raw] at *
  exact Raw.w_tro h
theorem w_opm {Q : D → S → Prop} (h : wp (ev o a s) E fun x s => wp (ev o b s) E fun y s => wpC (own2 o m x y s.g) noC fun d g => Q d ⟨s.l, g⟩) : wp (ev o (.opm m a b) s) E Q := by
  simp only [wp_raw, wpC_raw, wpI_raw, wpL_raw] at *
  exact Raw.w_opm h
theorem w_enmT {Q : List D → S → Prop} (h : wp (ev o a s) E fun x s => wp (R.of (enmTD x) s) E Q) : wp (evI o (.enmT a) s) E Q := by
  simp only [wp_raw, wpC_raw, wpI_raw, wpL_raw] at *
  exact Raw.w_enmT h
theorem w_asgN {ts : List (Nat ⊕ List Nat)} (h : wp (ev o a s) E fun x s => ∃ l, tgS (.nest ts) x s.l = some l ∧ wp (evS o r ⟨l, s.g⟩) E K) : wp (evS o (.seq (.asg (.nest ts) a) r) s) E K := by
  simp only [wp_raw, wpC_raw, wpI_raw, wpL_raw] at *
  exact Raw.w_asgN h
theorem w_setFs {ns : List Nat} (h : wp (ev o a s) E fun x s => ∃ ds fs fs', x = .tup ds ∧ s.l[(0 : Nat)]? = some (.ob m fs) ∧ putNs ns ds fs = some fs' ∧ fs.length + ns.length < 900 ∧ wp (evS o r ⟨s.l.set 0 (.ob m fs'), s.g⟩) E K) : wp (evS o (.seq (.setFs m ns a) r) s) E K := by
  simp only [wp_raw, wpC_raw, wpI_raw, wpL_raw] at *
  exact Raw.w_setFs h
theorem w_seto (h : wp (ev o b s) E fun d s => isOwn s.l i = true ∧ wp (ev o a s) E fun y s => ∃ ds k j, s.l[i]? = some (.own ds) ∧ y = .int k ∧ L2.ixN ds.length k = some j ∧ wp (evS o r ⟨s.l.set i (.own (ds.set j d)), s.g⟩) E K) : wp (evS o (.seq (.seto i a b) r) s) E K := by
  simp only [wp_raw, wpC_raw, wpI_raw, wpL_raw] at *
  exact Raw.w_seto h
theorem w_extv (h : wp (ev o a s) E fun x s1 => ∃ xs ds, view s1.g x = .lst xs ∧ s1.l[i]? = some (.own ds) ∧ ds.length + xs.length ≤ big ∧ wp (evS o r ⟨s1.l.set i (.own (ds ++ xs)), s1.g⟩) E K) (e : isOwn s.l i = true := by rfl) : wp (evS o (.seq (.extv i a) r) s) E K := by
  simp only [wp_raw, wpC_raw, wpI_raw, wpL_raw] at *
  exact Raw.w_extv h e
theorem w_ixo (h : wp (ev o a s) E fun y s1 => ∃ ds, s1.l[i]? = some (.own ds) ∧ wp (R.of (ixS (.lst ds) y) s1) E Q) (e : isOwn s.l i = true := by rfl) : wp (ev o (.ixo i a) s) E Q := by
  simp only [wp_raw, wpC_raw, wpI_raw, wpL_raw] at *
  exact Raw.w_ixo h e
end
end Pi
/-! The laws' own helpers: drawn numbers, things in a drawn order. -/
namespace Pi
open PySem
local macro_rules | `(tactic| decreasing_trivial_pre_omega) => `(tactic| first
  | refine w_v rfl ?_ | refine w_c ?_ | refine w_gl ?_ | refine w_op2 ?_ | refine w_cons ?_ | refine w_nil ?_ | refine w_ix ?_ | refine w_fld ?_ | refine w_call ?_ | refine w_bi ?_ | refine w_mk ?_ | refine w_sl ?_ | refine w_onil ?_ | refine w_ocons ?_
  | refine w_of rfl ?_ | refine w_it ?_ | refine w_evP ?_ | refine w_kv ?_ | refine w_neg ?_ | refine ⟨_, rfl, ?_⟩)
/-- what a def that draws promises -/
def Draws (m : List D → List MO → C) : Prop := ∀ (rest g : List MO) (k : Int) (E : EC) (Q : D → List MO → Prop), St rest g → 0 < k → k < 1073741824 → (∀ x g', 0 ≤ x → x < k → St rest g' → Q (.int x) g') → wpC (m [.ref 1, .int k] g) E Q
theorem draws (o : O) : Draws (runD o 3 tDraw) := fun rest g k E Q h h0 h1 q => by
  obtain ⟨x, g', e, a, b, c⟩ := draw_st (o := o) h h0 h1
  exact wpC_eq e (q x g' a b c)
theorem atI_nat {α : Type} {ds : List α} {k : Int} (h0 : 0 ≤ k) (h1 : k < ds.length) : ∃ x, L2.atI ds k = some x ∧ x ∈ ds := by
  unfold L2.atI L2.ixN
  rw [if_pos h0, if_pos h1]
  have hk : k.toNat < ds.length := by omega
  exact ⟨ds[k.toNat], by simp [hk], List.getElem_mem hk⟩
/-- what a def that picks promises -/
def Picks (m : List D → List MO → C) : Prop := ∀ (rest g : List MO) (ds : List D) (E : EC) (Q : D → List MO → Prop), St rest g → 0 < ds.length → ds.length ≤ big → (∀ x g', x ∈ ds → St rest g' → Q x g') → wpC (m [.ref 1, .lst ds] g) E Q
def tPick (nd : Nat) : TS := .ret (.ix (.v 1) (.call nd (.cons (.v 0) (.cons (.bi .len (.cons (.v 1) .nil)) .nil)) []))
theorem picks {o : O} {nd : Nat} (hd : Draws (o.call nd)) : Picks (runD o 2 (tPick nd)) := fun rest g ds E Q h h0 h1 q => by
  refine wpC_def (w_ret ?_)
  repeat decreasing_trivial_pre_omega
  refine hd rest _ ds.length _ _ h (by omega) (by unfold big at h1; omega) fun x g' a b c => ?_
  obtain ⟨y, hy, hm⟩ := atI_nat a b
  exact w_of (z := y) hy (q y g' hm c)
/-- what a def that mixes promises -/
def Mixes (m : List D → List MO → C) : Prop := ∀ (rest g : List MO) (ds : List D) (E : EC) (Q : D → List MO → Prop), St rest g → ds.length < 64 → (∀ es g', es.Perm ds → St rest g' → Q (.lst es) g') → wpC (m [.ref 1, .lst ds] g) E Q
def tMixed (nd : Nat) : TS := (.seq (.par2 2 true (.bi .list (.cons (.v 1) .nil)) 3 true (.lst .nil))
    (.seq (.whl 64 (.opo .ne 2 (.lst .nil)) (.app 3 (.popo 2 (.call nd (.cons (.v 0) (.cons (.bio .len 2) .nil)) []))))
    (.seq (.frz 3) (.ret (.v 3)))))
/-- equality of a row with the empty one -/
theorem eq_nil_some {ds : List D} (h : ∀ d ∈ ds, ∃ p, toPy d = some p ∧ PyData.canLay0 p = true ∧ p.depth ≤ 60) : deq (.lst ds) (.lst []) = some ds.isEmpty := by
  have key : ∀ ds : List D, (∀ d ∈ ds, ∃ p, toPy d = some p ∧ PyData.canLay0 p = true ∧ p.depth ≤ 60) → ∃ ps, toPys ds = some ps ∧ PyData.canLayAll0 ps = true ∧ PyData.depthAll ps ≤ 60 ∧ ps.isEmpty = ds.isEmpty := by
    intro ds
    induction ds with
    | nil => intro _; exact ⟨[], rfl, rfl, Nat.zero_le _, rfl⟩
    | cons d ds ih =>
      intro h
      obtain ⟨p, h1, h2, h3⟩ := h d List.mem_cons_self
      obtain ⟨ps, k1, k2, k3, _⟩ := ih fun e he => h e (List.mem_cons_of_mem _ he)
      refine ⟨p :: ps, ?_, ?_, ?_, rfl⟩
      · unfold toPys; rw [h1, k1]
      · show (PyData.canLay0 p && PyData.canLayAll0 ps) = true; rw [h2, k2]; rfl
      · show max p.depth (PyData.depthAll ps) ≤ 60; omega
  obtain ⟨ps, k1, k2, k3, k4⟩ := key ds h
  have h1 : toPy (.lst ds) = some (.list ps) := by
    show (toPys ds).map PyData.list = _
    rw [k1]; rfl
  have h2 : SeqAt.shaped (.list ps) = true := by
    show (PyData.canLayAll0 ps && decide (PyData.depth (.list ps) ≤ 64)) = true
    rw [k2]
    have : PyData.depth (.list ps) ≤ 64 := by
      rw [PyData.depth.eq_1]
      omega
    rw [decide_eq_true this]; rfl
  unfold deq
  rw [h1]
  show (bif SeqAt.shaped (.list ps) && SeqAt.shaped (.list []) then some (PyData.eqv (.list ps) (.list [])) else none) = _
  rw [h2, ← k4]
  cases ps <;> rfl
theorem erase_perm {α : Type} {ls : List α} {i : Nat} (h : i < ls.length) : (ls[i] :: ls.eraseIdx i).Perm ls := by
  rw [List.eraseIdx_eq_take_drop_succ]
  have e : ls = ls.take i ++ ls[i] :: ls.drop (i + 1) := by
    rw [← List.drop_eq_getElem_cons h, List.take_append_drop]
  conv => rhs; rw [e]
  exact List.perm_middle.symm
theorem mixes {o : O} {nd : Nat} (hd : Draws (o.call nd)) (plain : ∀ d : D, True) : ∀ (rest g : List MO) (ds : List D) (E : EC) (Q : D → List MO → Prop), (∀ d ∈ ds, ∃ p, toPy d = some p ∧ PyData.canLay0 p = true ∧ p.depth ≤ 60) → St rest g → ds.length < 64 → (∀ es g', es.Perm ds → St rest g' → Q (.lst es) g') → wpC (runD o 4 (tMixed nd) [.ref 1, .lst ds] g) E Q := fun rest g ds E Q hp h h1 q => by
  refine wpC_def (w_par2 ?_)
  repeat decreasing_trivial_pre_omega
  refine w_ko (by unfold big; omega) ?_
  refine w_evP (w_lst (w_nil ⟨by decide, ?_⟩))
  refine w_ko (by decide) ?_
  refine w_whl (fun k s => ∃ ls fs g', s = ⟨[.v (.ref 1), .v (.lst ds), .own ls, .own fs], g'⟩ ∧ St rest g' ∧ (ls ++ fs).Perm ds ∧ ls.length = k) (k := ds.length) h1 ⟨ds, [], g, rfl, h, by simp, rfl⟩ ?_
  rintro k s ⟨ls, fs, g', rfl, hs, hperm, hk⟩
  have hls : ∀ d ∈ ls, ∃ p, toPy d = some p ∧ PyData.canLay0 p = true ∧ p.depth ≤ 60 := fun d hd => hp d (hperm.mem_iff.mp (List.mem_append_left _ hd))
  have hlen := hperm.length_eq
  rw [List.length_append] at hlen
  refine w_opo rfl (w_lst (w_nil ⟨by decide, ls, rfl, ?_⟩))
  have e0 : op2S g' .ne (.lst ls) (.lst []) = some (.bl (!ls.isEmpty)) := by
    show (deq (.lst ls) (.lst [])).map (fun k => D.bl !k) = _
    rw [eq_nil_some hls]
    rfl
  refine w_of e0 ⟨_, rfl, fun ht => ?_, fun hf => ?_⟩
  · have h0 : 0 < ls.length := by
      cases ls with
      | nil => simp at ht
      | cons _ _ => simp
    refine ⟨k - 1, by omega, ?_⟩
    refine w_last (w_app rfl (w_popo rfl ?_))
    repeat decreasing_trivial_pre_omega
    refine hd rest _ ls.length _ _ hs (by omega) (by omega) fun x g2 a b c => ?_
    have hx : x.toNat < ls.length := by omega
    refine ⟨ls, x, ls[x.toNat], rfl, rfl, a, b, by unfold big; omega, List.getElem?_eq_getElem hx, ?_⟩
    refine ⟨fs, rfl, by unfold big; omega, ?_⟩
    refine w_nilS ⟨_, _, _, rfl, c, ?_, by rw [List.length_eraseIdx]; simp [hx]; omega⟩
    refine List.Perm.trans ?_ hperm
    have := erase_perm hx
    refine List.Perm.trans ?_ (List.Perm.append_right fs this)
    rw [← List.append_assoc]
    exact List.perm_append_comm
  · have h0 : ls = [] := by
      cases ls with
      | nil => rfl
      | cons _ _ => simp at hf
    subst h0
    refine w_frz rfl (w_ret (w_v rfl ?_))
    exact q fs g' (by simpa using hperm) hs
end Pi
namespace Pi
open PySem
local macro_rules | `(tactic| decreasing_trivial_pre_omega) => `(tactic| first
  | refine w_v rfl ?_ | refine w_c ?_ | refine w_gl ?_ | refine w_op2 ?_ | refine w_cons ?_ | refine w_nil ?_ | refine w_ix ?_ | refine w_fld ?_ | refine w_call ?_ | refine w_bi ?_ | refine w_mk ?_ | refine w_sl ?_ | refine w_onil ?_ | refine w_ocons ?_
  | refine w_of rfl ?_ | refine w_it ?_ | refine w_evP ?_ | refine w_kv ?_ | refine w_neg ?_ | refine ⟨_, rfl, ?_⟩)
theorem all_ints : ∀ {xs : List D}, (∀ x ∈ xs, ∃ i, x = D.int i) → ∃ is : List Int, xs = is.map .int
  | [], _ => ⟨[], rfl⟩
  | x :: xs, h => by
    obtain ⟨i, rfl⟩ := h x List.mem_cons_self
    obtain ⟨is, rfl⟩ := all_ints fun y hy => h y (List.mem_cons_of_mem _ hy)
    exact ⟨i :: is, rfl⟩
def tDeal : TS := (.seq (.par [1, 2] (.cons (.comp (.one 3) (.it (.sl (.v 0) .nil (.cons (.c (.int 60)) .nil))) (.c (.bl true)) (.bi .abs (.cons (.v 3) .nil))) (.cons (.c (.int 67867967)) .nil)))
    (.seq (.fr (.one 3) (.it (.v 1)) (.asg (.one 2) (.op2 .mod (.bi .int (.cons (.op2 .add (.op2 .mulR (.v 2) (.c (.int 16807))) (.op2 .mod (.bi .int (.cons (.v 3) .nil)) (.c (.int 2147483629)))) .nil)) (.c (.int 2147483647)))))
    (.ret (.mkr (.cons (.revr (.comp (.one 3) (.it (.v 1)) (.op2 .ge (.v 3) (.op2 .pow (.c (.int 10)) (.c (.int 18)))) (.v 3))) (.cons (.v 2) .nil))))))
theorem deals {o : O} (ns : List Int) {E : EC} {Q : D → List MO → Prop} (q : ∀ g, St [] g → Q (.ref 1) g) : wpC (runD o 4 tDeal [.lst (ns.map .int)] []) E Q := by
  refine wpC_def (w_par (w_cons (w_compI (fun g => g = []) (fun x => ∃ i, x = D.int i) ?_)))
  repeat decreasing_trivial_pre_omega
  have hcl : (cutD (ns.map D.int) none (some 60)).length ≤ 60 := by
    unfold cutD
    rw [List.length_take]
    have : HT.sIx (ns.map D.int).length (ns.map D.int).length (some 60) ≤ 60 := by
      show (if (60 : Int) < 0 then ((60 : Int) + (ns.map D.int).length).toNat else min (60 : Int).toNat (ns.map D.int).length) ≤ 60
      rw [if_neg (by decide)]
      omega
    omega
  have hci : ∀ d ∈ cutD (ns.map D.int) none (some 60), ∃ i, d = .int i := fun d hd => by
    have := List.mem_of_mem_drop (List.mem_of_mem_take hd)
    obtain ⟨i, _, rfl⟩ := List.mem_map.mp this
    exact ⟨i, rfl⟩
  refine ⟨by unfold big; omega, rfl, fun d hd g hg => ?_, fun acc g hl ha hg => ?_⟩
  · obtain ⟨i, rfl⟩ := hci d hd
    refine ⟨_, rfl, w_c ⟨true, rfl, fun _ => ?_, fun z => nomatch z⟩⟩
    repeat decreasing_trivial_pre_omega
    exact ⟨⟨_, rfl⟩, hg⟩
  · subst hg
    obtain ⟨is, rfl⟩ := all_ints ha
    have hil : is.length ≤ 60 := by rw [List.length_map] at hl; omega
    refine w_cons (w_c (w_nil ⟨_, rfl, ?_⟩))
    refine w_forI (fun s => ∃ z a3, s = ⟨[.v (.lst (ns.map .int)), .v (.lst (is.map .int)), .v (.int z), a3], []⟩) (w_it (w_v rfl (w_of rfl ⟨⟨_, _, rfl⟩, ?_, ?_⟩)))
    · rintro d hd s ⟨z, a3, rfl⟩
      obtain ⟨i, _, rfl⟩ := List.mem_map.mp hd
      refine ⟨_, rfl, w_last (w_asg ?_)⟩
      repeat decreasing_trivial_pre_omega
      exact ⟨_, _, rfl⟩
    · rintro s ⟨z, a3, rfl⟩
      refine w_ret (w_mkr (w_cons (w_revr (w_compI (fun g => g = []) (fun x => ∃ i, x = D.int i) (w_it (w_v rfl (w_of rfl ⟨by rw [List.length_map]; unfold big; omega, rfl, fun d hd g hg => ?_, fun acc g hl2 ha hg => ?_⟩)))))))
      · obtain ⟨i, _, rfl⟩ := List.mem_map.mp hd
        repeat decreasing_trivial_pre_omega
        refine ⟨fun _ => ?_, fun _ => hg⟩
        repeat decreasing_trivial_pre_omega
        exact ⟨⟨_, rfl⟩, hg⟩
      · subst hg
        obtain ⟨js, rfl⟩ := all_ints ha
        refine ⟨_, rfl, w_cons (w_v rfl (w_nil ⟨by show 2 ≤ big; decide, ?_⟩))⟩
        refine q _ ⟨js.reverse, z, by simp, ?_⟩
        rw [List.length_reverse]
        rw [List.length_map, List.length_map] at hl2
        omega
/-! ### the text of a tree is short -/
mutual
def wtP : PyData → Nat
  | .none => 4
  | .bool _ => 5
  | .int _ => 1922
  | .str x => (reprText x).length
  | .list xs => wtA xs + 3
  | .tuple xs => wtA xs + 3
  | .dict _ => 0
def wtA : List PyData → Nat
  | [] => 0
  | x :: xs => wtP x + 2 + wtA xs
end
theorem textFrom_le : ∀ (ts : List Str) (k : Nat) (acc : Str), (textFrom k acc ts).length ≤ acc.length + piled ts
  | [], k, acc => by show acc.length ≤ _; omega
  | t :: r, k, acc => by
    have h := textFrom_le r (k + 1) (acc ++ (if k > 0 then ", " else "" : String) ++ t)
    have e : (acc ++ (if k > 0 then ", " else "" : String) ++ t).length = acc.length + (if k > 0 then 2 else 0) + t.length := by
      rw [strLen_append, strLen_append]
      split <;> rfl
    have e2 : (textFrom k acc (t :: r)).length = (textFrom (k + 1) (acc ++ (if k > 0 then ", " else "" : String) ++ t) r).length := rfl
    have e3 : piled (t :: r) = t.length + 2 + piled r := by simp [piled]
    rw [e2, e3]
    have e4 : (acc ++ (if k > 0 then ", " else "" : String) ++ t).length ≤ acc.length + 2 + t.length := by rw [e]; split <;> omega
    omega
mutual
theorem shown_le : ∀ d : PyData, d.showable = true → d.hasDict = false → d.shown.length ≤ wtP d
  | .none, _, _ => by decide
  | .bool b, _, _ => by cases b <;> decide
  | .int i, h, _ => by
    have h' : decide (i.natAbs.log2 < 1920) = true := h
    have : (PySem.Str.ofString (toString i)).length ≤ 1921 := by rw [PySem.ofString_length]; exact PySem.int_text_length_le (k := 1920) (by decide) (of_decide_eq_true h')
    exact Nat.le_trans this (by show 1921 ≤ 1922; decide)
  | .str x, _, _ => Nat.le_refl _
  | .list xs, h, hd => by
    have := shownAll_le xs h hd
    show (listText (PyData.shownAll xs)).length ≤ wtA xs + 3
    unfold listText
    rw [strLen_append]
    have h2 := textFrom_le (PyData.shownAll xs) 0 "["
    have e1 : (("[" : String) : Str).length = 1 := rfl
    have e2 : (("]" : String) : Str).length = 1 := rfl
    omega
  | .tuple xs, h, hd => by
    have := shownAll_le xs h hd
    show (tupleText (PyData.shownAll xs)).length ≤ wtA xs + 3
    unfold tupleText
    rw [strLen_append, strLen_append]
    have e1 : (("(" : String) : Str).length = 1 := rfl
    have e2 : ((if (PyData.shownAll xs).length == 1 then ",)" else ")" : String) : Str).length ≤ 2 := by split <;> decide
    have h2 : (Str.join ", " (PyData.shownAll xs)).length ≤ piled (PyData.shownAll xs) := by
      by_cases e : PyData.shownAll xs = []
      · rw [e]; decide
      · have := join_length_add (PyData.shownAll xs) e; omega
    omega
  | .dict _, _, h => by cases h
theorem shownAll_le : ∀ ds : List PyData, PyData.showableAll ds = true → PyData.hasDictAll ds = false → piled (PyData.shownAll ds) ≤ wtA ds
  | [], _, _ => Nat.le_refl _
  | d :: ds, h, hd => by
    have h' : (PyData.showable d && PyData.showableAll ds) = true := h
    have hd' : (PyData.hasDict d || PyData.hasDictAll ds) = false := hd
    rw [Bool.and_eq_true] at h'
    rw [Bool.or_eq_false_iff] at hd'
    have h1 := shown_le d h'.1 hd'.1
    have h2 := shownAll_le ds h'.2 hd'.2
    show piled (PyData.shown d :: PyData.shownAll ds) ≤ wtP d + 2 + wtA ds
    have e3 : piled (PyData.shown d :: PyData.shownAll ds) = (PyData.shown d).length + 2 + piled (PyData.shownAll ds) := by simp [piled]
    omega
end
theorem reprP_ok {d : D} {p : PyData} (h : toPy d = some p) (h1 : p.showable = true) (h2 : p.hasDict = false) (h3 : SeqAt.shaped p = true) (h4 : wtP p ≤ big) : reprP d = some (.str p.shown) := by
  unfold reprP
  rw [h]
  show (bif PyData.showable p && SeqAt.shaped p && decide ((PyData.shown p).length ≤ big) then some (D.str (PyData.shown p)) else none) = _
  rw [h1, h3, decide_eq_true (Nat.le_trans (shown_le p h1 h2) h4)]
  rfl
end Pi
/-! Lists of the store that grow behind the drawn numbers; a for loop turn by turn. -/
namespace Pi
open PySem
section
variable {o : O} {s : S} {g rest : List MO} {E : EX} {K : F → S → Prop} {a b i e it : T} {r A : TS} {q : Nat} {t : Tgt} {m m' : MO} {ds : List D}
theorem w_callE {f : Nat} {Q : D → S → Prop} {m : List D → List MO → C} (hm : o.call f = m) (h : wp (evA o a s) E fun ds s => wpC (m ds s.g) (fun c fs g => E c fs ⟨s.l, g⟩) fun d g => Q d ⟨s.l, g⟩) : wp (ev o (.call f a []) s) E Q := by
  subst hm
  exact w_call (wp_mono h fun ds s h => by rw [List.append_nil]; exact h)
theorem w_mkE {n : Nat} {Q : D → S → Prop} {m : List D → List MO → CI} (hm : o.init n = m) (h : wp (evA o a s) E fun ds s => wpI (m ds s.g) (fun c fs g => E c fs ⟨s.l, g⟩) fun fs g => Q (.ins n fs) ⟨s.l, g⟩) : wp (ev o (.mk n a []) s) E Q := by
  subst hm
  exact w_mk (wp_mono h fun ds s h => by rw [List.append_nil]; exact h)
/-- those kept for which f holds -/
theorem w_compF {tg : Tgt} {c : T} {Q : D → S → Prop} (f : D → Bool) (I : List MO → Prop) (h : wp (evI o it s) E fun ds s => ds.length ≤ big ∧ I s.g ∧
      (∀ d ∈ ds, ∀ g, I g → ∃ l, tgS tg d (clr tg.slots (wipeOwn s.l)) = some l ∧ wp (ev o c ⟨l, g⟩) noX fun t s' => t = .bl (f d) ∧ (f d = true → wp (ev o e s') noX fun x s'' => x = d ∧ I s''.g) ∧ I s'.g) ∧
      ∀ g, I g → Q (.lst (ds.filter f)) ⟨s.l, g⟩) : wp (ev o (.comp tg it c e) s) E Q :=
  w_comp (wp_mono h fun ds s ⟨h0, h1, h2, h3⟩ => ⟨h0, fun done acc g => acc = done.filter f ∧ I g, ⟨rfl, h1⟩, fun done d rest acc g e _ ⟨ha, hi⟩ => by
    obtain ⟨l, hl, q⟩ := h2 d (by rw [e]; simp) g hi
    refine ⟨l, hl, wp_mono q fun t s' ⟨e1, e2, e3⟩ => ⟨f d, e1, fun hp => wp_mono (e2 hp) fun x s'' ⟨q1, q2⟩ => ⟨?_, q2⟩, fun hp => ⟨?_, e3⟩⟩⟩
    · rw [q1, ha, List.filter_append]; simp [hp]
    · rw [ha, List.filter_append]; simp [hp], fun acc g _ ⟨ha, hi⟩ => by rw [ha]; exact h3 g hi⟩)
theorem St.len (h : St rest g) : g.length = rest.length + 2 := by
  obtain ⟨xs, z, rfl, _⟩ := h
  rfl
theorem St.push (h : St rest g) : St (rest ++ [m]) (g ++ [m]) := by
  obtain ⟨xs, z, rfl, hl⟩ := h
  exact ⟨xs, z, rfl, hl⟩
theorem St.at (h : St (rest ++ [m]) g) : g[rest.length + 2]? = some m := by
  obtain ⟨xs, z, rfl, hl⟩ := h
  simp
theorem St.put (h : St (rest ++ [m]) g) : St (rest ++ [m']) (g.set (rest.length + 2) m') := by
  obtain ⟨xs, z, rfl, hl⟩ := h
  refine ⟨xs, z, ?_, hl⟩
  simp
theorem St.view (h : St (rest ++ [.lst ds]) g) : view g (.ref (rest.length + 2)) = .lst ds := by
  unfold Pi.view
  simp only [h.at]
end
end Pi
/-! Terms that read a value and change nothing. -/
namespace Pi
open PySem
def Rd (o : O) (st : S) (t : T) (d : D) : Prop := ∀ (E : EX) (K : D → S → Prop), K d st → wp (ev o t st) E K
def Rds (o : O) (st : S) (t : T) (ds : List D) : Prop := ∀ (E : EX) (K : List D → S → Prop), K ds st → wp (evA o t st) E K
section
variable {o : O} {st : S} {t a b c : T} {d e : D} {ds : List D} {x y z : Int} {i : Nat} {E : EX} {K : F → S → Prop} {A r : TS}
theorem rd_c : Rd o st (.c d) d := fun _ _ k => w_c k
theorem rd_v (h : st.l[i]? = some (.v d)) : Rd o st (.v i) d := fun _ _ k => w_v h k
theorem rd_op {k : Op} {f : D} (ha : Rd o st a d) (hb : Rd o st b e) (h : op2S st.g k d e = some f) : Rd o st (.op2 k a b) f := fun _ _ q => w_op2 (ha _ _ (hb _ _ (w_of h q)))
theorem rd_add (ha : Rd o st a (.int x)) (hb : Rd o st b (.int y)) : Rd o st (.op2 .add a b) (.int (x + y)) := rd_op ha hb rfl
theorem rd_sub (ha : Rd o st a (.int x)) (hb : Rd o st b (.int y)) : Rd o st (.op2 .sub a b) (.int (x - y)) := rd_op ha hb rfl
theorem rd_mulL (h : small64 x = true) (ha : Rd o st a (.int x)) (hb : Rd o st b (.int y)) : Rd o st (.op2 .mulL a b) (.int (x * y)) := rd_op ha hb (by
  show (bif small64 x then some (D.int (x * y)) else none) = _
  rw [h]; rfl)
theorem rd_mulR (h : small64 y = true) (ha : Rd o st a (.int x)) (hb : Rd o st b (.int y)) : Rd o st (.op2 .mulR a b) (.int (x * y)) := rd_op ha hb (by
  show (bif small64 y then some (D.int (x * y)) else none) = _
  rw [h]; rfl)
theorem rd_mod (h : 0 < y) (ha : Rd o st a (.int x)) (hb : Rd o st b (.int y)) : Rd o st (.op2 .mod a b) (.int (x % y)) := rd_op ha hb (by
  show (bif decide (0 < y) then some (D.int (x % y)) else none) = _
  rw [decide_eq_true h]; rfl)
theorem rd_nil : Rds o st .nil [] := fun _ _ k => w_nil k
theorem rd_cons (ha : Rd o st a d) (hb : Rds o st b ds) : Rds o st (.cons a b) (d :: ds) := fun _ _ k => w_cons (ha _ _ (hb _ _ k))
theorem rd_tup (h : Rds o st a ds) (hl : ds.length ≤ 1000) : Rd o st (.tup a) (.tup ds) := fun _ _ k => w_tup (h _ _ ⟨by unfold big; omega, k⟩)
theorem rd_lst (h : Rds o st a ds) (hl : ds.length ≤ 1000) : Rd o st (.lst a) (.lst ds) := fun _ _ k => w_lst (h _ _ ⟨by unfold big; omega, k⟩)
theorem rd_tup2 (ha : Rd o st a d) (hb : Rd o st b e) : Rd o st (.tup (.cons a (.cons b .nil))) (.tup [d, e]) := rd_tup (rd_cons ha (rd_cons hb rd_nil)) (Nat.le_of_ble_eq_true rfl)
theorem rd_fld {n : Nat} (ha : Rd o st a d) (h : fldS st.g d n = some e) : Rd o st (.fld a n) e := fun _ _ k => w_fld (ha _ _ (w_of h k))
theorem rd_ix (ha : Rd o st a d) (hb : Rd o st b e) {f : D} (h : ixS (view st.g d) e = some f) : Rd o st (.ix a b) f := fun _ _ k => w_ix (ha _ _ (hb _ _ (w_of h k)))
theorem rd_bi {k : Bi} {f : D} (h : Rds o st a ds) (e : biS st.g k ds = some f) : Rd o st (.bi k a) f := fun _ _ q => w_bi (h _ _ (w_of e q))
theorem rd_or_ff (ha : Rd o st a (.bl false)) (hb : Rd o st b (.bl false)) : Rd o st (.or a b) (.bl false) := fun _ _ k => w_or (ha _ _ ⟨_, rfl, fun z => (nomatch z), fun _ => hb _ _ k⟩)
theorem rd_and_tt (ha : Rd o st a (.bl true)) (hb : Rd o st b (.bl true)) : Rd o st (.and a b) (.bl true) := fun _ _ k => w_and (ha _ _ ⟨_, rfl, fun _ => hb _ _ k, fun z => (nomatch z)⟩)
theorem rd_not {p : Bool} (ha : Rd o st a (.bl p)) : Rd o st (.not a) (.bl !p) := fun _ _ k => w_not (ha _ _ ⟨_, rfl, k⟩)
theorem rd_ne_int (ha : Rd o st a (.int x)) (hb : Rd o st b (.int y)) (h : x = y) : Rd o st (.op2 .ne a b) (.bl false) := rd_op ha hb (by
  subst h
  show some (D.bl (!decide (x = x))) = _
  simp)
theorem rd_ne_same {p : PyData} (ha : Rd o st a d) (hb : Rd o st b d) (hp : toPy d = some p) (hs : SeqAt.shaped p = true) (h0 : p.canLay0 = true) (hn : ∀ i, d ≠ .int i ∧ (∀ s, d ≠ .str s) ∧ (∀ b, d ≠ .bl b) ∧ ∀ n, d ≠ .ref n) : Rd o st (.op2 .ne a b) (.bl false) := rd_op ha hb (by
  have e1 : view st.g d = d := by cases d <;> first | rfl | exact absurd rfl ((hn 0).2.2.2 _)
  have e2 : eqV d d = deq d d := by
    cases d <;> first
      | rfl
      | exact absurd rfl (hn _).1
      | exact absurd rfl ((hn 0).2.1 _)
      | exact absurd rfl ((hn 0).2.2.1 _)
  show op2V .ne (view st.g d) (view st.g d) = _
  rw [e1]
  show (eqV d d).map (fun k => D.bl !k) = _
  rw [e2]
  unfold deq
  rw [hp]
  simp only [hs, Bool.and_self, cond_true, SeqAt.eqv_refl p h0]
  rfl)
theorem w_ifF (h : Rd o st c (.bl false)) (q : wp (evS o r st) E K) : wp (evS o (.seq (.ite c A .nil) r) st) E K := w_ite (h _ _ ⟨_, rfl, fun z => (nomatch z), fun _ => w_seqN q⟩)
end
end Pi
/-! Lemmas for walking through a def by one tactic: each says what is left behind a small step. -/
namespace Pi
open PySem
section
variable {o : O} {s : S} {l : List SV} {g : List MO} {E : EX} {Q : D → S → Prop} {K : F → S → Prop} {a b c e : T} {r A B : TS} {x y : Int} {p q : Bool} {k f m n i : Nat} {d : D} {ds : List D} {fs : List (Nat × D)} {Pt Pf : Prop} {t : Str}
theorem s_add (h : Q (.int (x + y)) s) : wp (R.of (op2S g .add (.int x) (.int y)) s) E Q := w_of rfl h
theorem s_sub (h : Q (.int (x - y)) s) : wp (R.of (op2S g .sub (.int x) (.int y)) s) E Q := w_of rfl h
theorem s_lt (h : Q (.bl (decide (x < y))) s) : wp (R.of (op2S g .lt (.int x) (.int y)) s) E Q := w_of rfl h
theorem s_le (h : Q (.bl (decide (x ≤ y))) s) : wp (R.of (op2S g .le (.int x) (.int y)) s) E Q := w_of rfl h
theorem s_gt (h : Q (.bl (decide (y < x))) s) : wp (R.of (op2S g .gt (.int x) (.int y)) s) E Q := w_of rfl h
theorem s_ge (h : Q (.bl (decide (y ≤ x))) s) : wp (R.of (op2S g .ge (.int x) (.int y)) s) E Q := w_of rfl h
theorem s_eq (h : Q (.bl (decide (x = y))) s) : wp (R.of (op2S g .eq (.int x) (.int y)) s) E Q := w_of rfl h
theorem s_ne (h : Q (.bl (!decide (x = y))) s) : wp (R.of (op2S g .ne (.int x) (.int y)) s) E Q := w_of rfl h
theorem s_nebT (h : Q (.bl (!p)) s) : wp (R.of (op2S g .ne (.bl p) (.bl true)) s) E Q := w_of (by cases p <;> rfl) h
theorem s_neb (h : Q (.bl (p != q)) s) : wp (R.of (op2S g .ne (.bl p) (.bl q)) s) E Q := w_of (by cases p <;> cases q <;> rfl) h
theorem s_eqb (h : Q (.bl (p == q)) s) : wp (R.of (op2S g .eq (.bl p) (.bl q)) s) E Q := w_of (by cases p <;> cases q <;> rfl) h
theorem s_mulL (h0 : small64 x = true) (h : Q (.int (x * y)) s) : wp (R.of (op2S g .mulL (.int x) (.int y)) s) E Q := w_of (by
  show (bif small64 x then some (D.int (x * y)) else none) = _
  rw [h0]; rfl) h
theorem s_mulR (h0 : small64 y = true) (h : Q (.int (x * y)) s) : wp (R.of (op2S g .mulR (.int x) (.int y)) s) E Q := w_of (by
  show (bif small64 y then some (D.int (x * y)) else none) = _
  rw [h0]; rfl) h
theorem s_mod (h0 : 0 < y) (h : Q (.int (x % y)) s) : wp (R.of (op2S g .mod (.int x) (.int y)) s) E Q := w_of (by
  show (bif decide (0 < y) then some (D.int (x % y)) else none) = _
  rw [decide_eq_true h0]; rfl) h
theorem s_fdiv (h0 : 0 < y) (h1 : y < 1073741824) (h : Q (.int (x / y)) s) : wp (R.of (op2S g .fdiv (.int x) (.int y)) s) E Q := w_of (by
  show (bif decide (0 < y) && decide (y < 1073741824) then some (D.int (x / y)) else none) = _
  rw [decide_eq_true h0, decide_eq_true h1]; rfl) h
theorem s_isn0 (h : Q (.bl true) s) : wp (R.of (op2S g .isn .non .non) s) E Q := w_of rfl h
theorem s_isn1 (h : Q (.bl false) s) : wp (R.of (op2S g .isn (.tup ds) .non) s) E Q := w_of rfl h
theorem s_isn2 (h : Q (.bl false) s) : wp (R.of (op2S g .isn (.int x) .non) s) E Q := w_of rfl h
theorem s_isn3 (h : Q (.bl false) s) : wp (R.of (op2S g .isn (.str t) .non) s) E Q := w_of rfl h
theorem s_isn4 (h : Q (.bl false) s) : wp (R.of (op2S g .isn (.ins k fs) .non) s) E Q := w_of rfl h
theorem s_isn5 (h : Q (.bl false) s) : wp (R.of (op2S g .isn (.lst ds) .non) s) E Q := w_of rfl h
theorem s_ntn0 (h : Q (.bl false) s) : wp (R.of (op2S g .ntn .non .non) s) E Q := w_of rfl h
theorem s_ntn1 (h : Q (.bl true) s) : wp (R.of (op2S g .ntn (.tup ds) .non) s) E Q := w_of rfl h
theorem s_ntn2 (h : Q (.bl true) s) : wp (R.of (op2S g .ntn (.int x) .non) s) E Q := w_of rfl h
theorem s_ntn3 (h : Q (.bl true) s) : wp (R.of (op2S g .ntn (.str t) .non) s) E Q := w_of rfl h
theorem s_ntn4 (h : Q (.bl true) s) : wp (R.of (op2S g .ntn (.ins k fs) .non) s) E Q := w_of rfl h
theorem s_ntn5 (h : Q (.bl true) s) : wp (R.of (op2S g .ntn (.lst ds) .non) s) E Q := w_of rfl h
theorem b_t (h : Pt) : ∃ p, D.bl true = .bl p ∧ (p = true → Pt) ∧ (p = false → Pf) := ⟨true, rfl, fun _ => h, fun z => nomatch z⟩
theorem b_f (h : Pf) : ∃ p, D.bl false = .bl p ∧ (p = true → Pt) ∧ (p = false → Pf) := ⟨false, rfl, fun z => (nomatch z), fun _ => h⟩
theorem b_d {c : Prop} [Decidable c] (h1 : c → Pt) (h2 : ¬ c → Pf) : ∃ p, D.bl (decide c) = .bl p ∧ (p = true → Pt) ∧ (p = false → Pf) := ⟨_, rfl, fun z => h1 (of_decide_eq_true z), fun z => h2 (of_decide_eq_false z)⟩
theorem b_n (h : ∃ q, D.bl p = .bl q ∧ (q = true → Pf) ∧ (q = false → Pt)) : ∃ q, D.bl (!p) = .bl q ∧ (q = true → Pt) ∧ (q = false → Pf) := by
  obtain ⟨q, e, h1, h2⟩ := h
  cases e
  exact ⟨_, rfl, fun z => h2 (by cases p <;> first | rfl | cases z), fun z => h1 (by cases p <;> first | rfl | cases z)⟩
theorem b_nb1 (h : ∃ q, D.bl (!p) = .bl q ∧ (q = true → Pt) ∧ (q = false → Pf)) : ∃ q, D.bl (notB true p) = .bl q ∧ (q = true → Pt) ∧ (q = false → Pf) := h
theorem b_nb0 (h : ∃ q, D.bl p = .bl q ∧ (q = true → Pt) ∧ (q = false → Pf)) : ∃ q, D.bl (notB false p) = .bl q ∧ (q = true → Pt) ∧ (q = false → Pf) := h
theorem b_g (h1 : p = true → Pt) (h2 : p = false → Pf) : ∃ q, D.bl p = .bl q ∧ (q = true → Pt) ∧ (q = false → Pf) := ⟨_, rfl, h1, h2⟩
theorem bl_ex {W : Bool → Prop} (h : W q) : ∃ p, D.bl q = .bl p ∧ W p := ⟨q, rfl, h⟩
theorem i_int {W : Int → Prop} (h : W x) : ∃ i, D.int x = .int i ∧ W i := ⟨x, rfl, h⟩
theorem cx_le (h1 : x ≤ y → Pt) (h2 : ¬ x ≤ y → Pf) : ∃ p, op2S g .le (.int x) (.int y) = some (.bl p) ∧ (p = true → Pt) ∧ (p = false → Pf) := ⟨_, rfl, fun z => h1 (of_decide_eq_true z), fun z => h2 (of_decide_eq_false z)⟩
theorem cx_lt (h1 : x < y → Pt) (h2 : ¬ x < y → Pf) : ∃ p, op2S g .lt (.int x) (.int y) = some (.bl p) ∧ (p = true → Pt) ∧ (p = false → Pf) := ⟨_, rfl, fun z => h1 (of_decide_eq_true z), fun z => h2 (of_decide_eq_false z)⟩
theorem w_isiB {ts : List Ty} (h : wp (ev o a s) E fun x s' => ∃ d b, tyD s'.g x = some d ∧ isiA o d ts = b ∧ Q (.bl b) s') : wp (ev o (.isi a ts) s) E Q := w_isi (wp_mono h fun x s' ⟨d, b, h1, h2, h3⟩ => ⟨d, h1, by rw [h2]; exact h3⟩)
theorem t_isiT {v : D} {ts : List Ty} {W : Bool → Prop} (h1 : tyD g v = some d) (h2 : isiA o d ts = true) (h : W true) : ∃ d b, tyD g v = some d ∧ isiA o d ts = b ∧ W b := ⟨d, true, h1, h2, h⟩
theorem t_isiF {v : D} {ts : List Ty} {W : Bool → Prop} (h1 : tyD g v = some d) (h2 : isiA o d ts = false) (h : W false) : ∃ d b, tyD g v = some d ∧ isiA o d ts = b ∧ W b := ⟨d, false, h1, h2, h⟩
theorem le_bg {n : Nat} (h : n ≤ 10000) : n ≤ big := Nat.le_trans h (by decide)
theorem l_and (h0 : Nat.ble n 10000 = true) (h : Pt) : n ≤ big ∧ Pt := ⟨le_bg (Nat.le_of_ble_eq_true h0), h⟩
theorem w_methE {C : Nat} {mm : List D → List MO → Pi.C} (hm : o.meth C m = some f) (hf : o.call f = mm) (h : wp (ev o a s) E fun x s => clsS s.g x = some C ∧ wp (evA o b s) E fun ds s => wpC (mm (x :: ds) s.g) (fun c fs g => E c fs ⟨s.l, g⟩) fun d g => Q d ⟨s.l, g⟩) : wp (ev o (.meth m a b []) s) E Q := by
  subst hf
  refine w_meth (wp_mono h fun x s ⟨h1, h2⟩ => ⟨C, f, h1, hm, wp_mono h2 fun ds s q => by rw [List.append_nil]; exact q⟩)
theorem w_prpE {C : Nat} {mm : List D → List MO → Pi.C} (hm : o.meth C m = some f) (hf : o.call f = mm) (h : wp (ev o a s) E fun x s => clsS s.g x = some C ∧ wpC (mm [x] s.g) noC fun d g => Q d ⟨s.l, g⟩) : wp (ev o (.prp m a) s) E Q := by
  subst hf
  refine w_prp (wp_mono h fun x s ⟨h1, h2⟩ => ?_)
  unfold own1
  simp only [h1, hm]
  exact h2
theorem w_troE {C : Nat} {mm : List D → List MO → Pi.C} (hm : o.meth C m = some f) (hf : o.call f = mm) (h : wp (ev o a s) E fun x s => clsS s.g x = some C ∧ wpC (mm [x] s.g) noC fun d g => ∃ p, d = .bl p ∧ Q (.bl p) ⟨s.l, g⟩) : wp (ev o (.tro m a) s) E Q := by
  subst hf
  refine w_tro (wp_mono h fun x s ⟨h1, h2⟩ => ?_)
  unfold own1
  simp only [h1, hm]
  exact h2
theorem w_opmE {C : Nat} {mm : List D → List MO → Pi.C} (hm : o.meth C m = some f) (hf : o.call f = mm) (h : wp (ev o a s) E fun x s => clsS s.g x = some C ∧ wp (ev o b s) E fun y s => clsS s.g x = some C ∧ clsS s.g y = some C ∧ wpC (mm [x, y] s.g) noC fun d g => Q d ⟨s.l, g⟩) : wp (ev o (.opm m a b) s) E Q := by
  subst hf
  refine w_opm (wp_mono h fun x s ⟨h1, h2⟩ => wp_mono h2 fun y s ⟨h3, h4, h5⟩ => ?_)
  unfold own2
  simp only [h3, h4, hm, beq_self_eq_true, cond_true]
  exact h5
theorem w_eqoE {C : Nat} {neg : Bool} {mm : List D → List MO → Pi.C} (hm : o.eqm C = some f) (hf : o.call f = mm) (h : wp (ev o a s) E fun x s => wp (ev o b s) E fun y s => clsS s.g x = some C ∧ okR o s.g C y = true ∧ wpC (mm [x, y] s.g) noC fun d g => ∃ p, d = .bl p ∧ Q (.bl (notB neg p)) ⟨s.l, g⟩) : wp (ev o (.eqo neg a b) s) E Q := by
  subst hf
  refine w_eqo (wp_mono h fun x s h2 => wp_mono h2 fun y s ⟨h3, h4, h5⟩ => ?_)
  unfold eqoC
  simp only [h3, h4, hm, cond_true]
  exact h5
theorem w_inoE {C : Nat} {neg : Bool} {mm : List D → List MO → Pi.C} (hm : o.cont C = some f) (hf : o.call f = mm) (h : wp (ev o a s) E fun x s => wp (ev o b s) E fun y s => clsS s.g y = some C ∧ wpC (mm [y, x] s.g) noC fun d g => ∃ p, d = .bl p ∧ Q (.bl (bif neg then !p else p)) ⟨s.l, g⟩) : wp (ev o (.ino neg a b) s) E Q := by
  subst hf
  exact w_ino (wp_mono h fun x s h2 => wp_mono h2 fun y s ⟨h3, h4⟩ => ⟨C, f, h3, hm, h4⟩)
theorem ret_k {F' : D → List MO → Prop} (h : F' d s.g) : (match (F.rt d) with
    | .nx => F' .non s.g
    | .rt x => F' x s.g
    | _ => False) := h
section
variable {t : Tgt} {it : T} {neg : Bool} {is : List Nat}
theorem wl_app (h : wp (evS o (.seq (.app i a) .nil) s) E K) : wp (evS o (.app i a) s) E K := w_last h
theorem wl_asg (h : wp (evS o (.seq (.asg t a) .nil) s) E K) : wp (evS o (.asg t a) s) E K := w_last h
theorem wl_ite (h : wp (evS o (.seq (.ite a A B) .nil) s) E K) : wp (evS o (.ite a A B) s) E K := w_last h
theorem wl_ex (h : wp (evS o (.seq (.ex a) .nil) s) E K) : wp (evS o (.ex a) s) E K := w_last h
theorem wl_extv (h : wp (evS o (.seq (.extv i a) .nil) s) E K) : wp (evS o (.extv i a) s) E K := w_last h
theorem wl_ext (h : wp (evS o (.seq (.ext i a) .nil) s) E K) : wp (evS o (.ext i a) s) E K := w_last h
theorem wl_fr (h : wp (evS o (.seq (.fr t it A) .nil) s) E K) : wp (evS o (.fr t it A) s) E K := w_last h
theorem wl_setF (h : wp (evS o (.seq (.setF k n a) .nil) s) E K) : wp (evS o (.setF k n a) s) E K := w_last h
theorem wl_raise (h : wp (evS o (.seq (.raise k n a) .nil) s) E K) : wp (evS o (.raise k n a) s) E K := w_last h
theorem wl_setr (h : wp (evS o (.seq (.setr a b c) .nil) s) E K) : wp (evS o (.setr a b c) s) E K := w_last h
theorem wl_appr (h : wp (evS o (.seq (.appr a b) .nil) s) E K) : wp (evS o (.appr a b) s) E K := w_last h
theorem wl_par (h : wp (evS o (.seq (.par is a) .nil) s) E K) : wp (evS o (.par is a) s) E K := w_last h
theorem wl_whl (h : wp (evS o (.seq (.whl n a A) .nil) s) E K) : wp (evS o (.whl n a A) s) E K := w_last h
theorem wl_seto (h : wp (evS o (.seq (.seto i a b) .nil) s) E K) : wp (evS o (.seto i a b) s) E K := w_last h
end
theorem own_ex {W : List D → Prop} {l : List SV} {ds : List D} (h : l[i]? = some (.own ds)) (hb : ds.length < 10000) (k : W ds) : ∃ ds, l[i]? = some (.own ds) ∧ ds.length < big ∧ W ds := ⟨ds, h, Nat.lt_of_lt_of_le hb (by decide), k⟩
theorem own_ex2 {W : List D → Prop} {l : List SV} {ds : List D} (h : l[i]? = some (.own ds)) (k : W ds) : ∃ ds, l[i]? = some (.own ds) ∧ W ds := ⟨ds, h, k⟩
theorem extv_ex {W : List D → List D → Prop} {l : List SV} {x : D} {xs ds : List D} (h1 : view g x = .lst xs) (h2 : l[i]? = some (.own ds)) (h3 : ds.length + xs.length ≤ 90000) (k : W xs ds) : ∃ xs ds, view g x = .lst xs ∧ l[i]? = some (.own ds) ∧ ds.length + xs.length ≤ big ∧ W xs ds := ⟨xs, ds, h1, h2, Nat.le_trans h3 (by decide), k⟩
theorem some_ex {α : Type} {W : α → Prop} {x : Option α} {v : α} (h : x = some v) (k : W v) : ∃ v, x = some v ∧ W v := ⟨v, h, k⟩
theorem lt_bg {n : Nat} (h : n < 10000) : n < big := Nat.lt_of_lt_of_le h (by decide)
theorem lt_bi {n : Nat} (h : n < 90000) : n < big := Nat.lt_of_lt_of_le h (by decide)
theorem le_bi {n : Nat} (h : n ≤ 90000) : n ≤ big := Nat.le_trans h (by decide)
/-- the items that were done are the first ones -/
theorem done_map {α β : Type} {f : α → β} {L : List α} {done rest : List β} {d : β} (h : L.map f = done ++ d :: rest) : ∃ L1 x L2, L = L1 ++ x :: L2 ∧ done = L1.map f ∧ d = f x ∧ rest = L2.map f := by
  obtain ⟨L1, L2', h1, h2, h3⟩ := List.map_eq_append_iff.mp h
  obtain ⟨x, L2, h4, h5, h6⟩ := List.map_eq_cons_iff.mp h3
  subst h4
  exact ⟨L1, x, L2, h1, h2.symm, h5.symm, h6.symm⟩
/-- a for over written items -/
theorem w_forG {α : Type} {t : Tgt} {it : T} (xs : List α) (inj : α → D) (I : List α → S → Prop) (h : wp (evI o it s) E fun ds s => ds = xs.map inj ∧ I [] s ∧
      (∀ done x rest s, xs = done ++ x :: rest → I done s → ∃ l, tgS t (inj x) s.l = some l ∧ wp (evS o A ⟨l, s.g⟩) E fun f s => match f with
        | .nx => I (done ++ [x]) s
        | .ct => I (done ++ [x]) s
        | .bk => wp (evS o r s) E K
        | .rt x => K (.rt x) s) ∧ ∀ s, I xs s → wp (evS o r s) E K) : wp (evS o (.seq (.fr t it A) r) s) E K := by
  refine w_for (wp_mono h fun ds s ⟨e, h0, h1, h2⟩ => ⟨fun done s => ∃ n, done = (xs.take n).map inj ∧ n ≤ xs.length ∧ I (xs.take n) s, ⟨0, by simp, Nat.zero_le _, by simpa using h0⟩, ?_, ?_⟩)
  · rintro done d rest s he ⟨n, rfl, hn, hI⟩
    rw [e] at he
    have hl := congrArg List.length he
    simp only [List.length_map, List.length_append, List.length_take, List.length_cons] at hl
    have hn' : n < xs.length := by omega
    have hd : d = inj xs[n] := by
      have := congrArg (fun l => l[n]?) he
      simp only [List.getElem?_map, List.getElem?_append, List.length_map, List.length_take, show min n xs.length = n by omega, Nat.lt_irrefl, if_false, Nat.sub_self, List.getElem?_cons_zero, List.getElem?_eq_getElem hn', Option.map_some, Option.some.injEq] at this
      exact this.symm
    subst hd
    have ex : xs = xs.take n ++ xs[n] :: xs.drop (n + 1) := by rw [List.getElem_cons_drop, List.take_append_drop]
    obtain ⟨l, hl, q⟩ := h1 (xs.take n) xs[n] (xs.drop (n + 1)) s ex hI
    have et : xs.take n ++ [xs[n]] = xs.take (n + 1) := by rw [List.take_append_getElem]
    refine ⟨l, hl, wp_mono q fun f s hf => ?_⟩
    cases f with
    | nx => exact ⟨n + 1, by rw [← et, List.map_append]; rfl, hn', by rw [← et]; exact hf⟩
    | ct => exact ⟨n + 1, by rw [← et, List.map_append]; rfl, hn', by rw [← et]; exact hf⟩
    | bk => exact hf
    | rt x => exact hf
  · rintro s ⟨n, he, hn, hI⟩
    rw [e] at he
    have hl := congrArg List.length he
    simp only [List.length_map, List.length_take] at hl
    have : n = xs.length := by omega
    subst this
    rw [List.take_length] at hI
    exact h2 s hI
/-- a comprehension that changes nothing -/
theorem w_compP {α : Type} {tg : Tgt} {it : T} {Q : D → S → Prop} (xs : List α) (inj F : α → D) (p : α → Bool) (h : wp (evI o it s) E fun ds s => ds = xs.map inj ∧ xs.length ≤ big ∧
      (∀ x ∈ xs, ∃ l, tgS tg (inj x) (clr tg.slots (wipeOwn s.l)) = some l ∧ wp (ev o c ⟨l, s.g⟩) noX fun t s' => t = .bl (p x) ∧ s'.g = s.g ∧ (p x = true → wp (ev o e s') noX fun d s'' => d = F x ∧ s''.g = s.g)) ∧
      Q (.lst ((xs.filter p).map F)) s) : wp (ev o (.comp tg it c e) s) E Q := by
  refine w_comp (wp_mono h fun ds s ⟨e1, h0, h1, h2⟩ => ⟨by rw [e1, List.length_map]; exact h0, fun done acc g => ∃ n, done = (xs.take n).map inj ∧ n ≤ xs.length ∧ acc = ((xs.take n).filter p).map F ∧ g = s.g, ⟨0, by simp, Nat.zero_le _, by simp, rfl⟩, ?_, ?_⟩)
  · rintro done d rest acc g he _ ⟨n, rfl, hn, ha, rfl⟩
    rw [e1] at he
    have hl := congrArg List.length he
    simp only [List.length_map, List.length_append, List.length_take, List.length_cons] at hl
    have hn' : n < xs.length := by omega
    have hd : d = inj xs[n] := by
      have := congrArg (fun l => l[n]?) he
      simp only [List.getElem?_map, List.getElem?_append, List.length_map, List.length_take, show min n xs.length = n by omega, Nat.lt_irrefl, if_false, Nat.sub_self, List.getElem?_cons_zero, List.getElem?_eq_getElem hn', Option.map_some, Option.some.injEq] at this
      exact this.symm
    subst hd
    have et : xs.take n ++ [xs[n]] = xs.take (n + 1) := by rw [List.take_append_getElem]
    obtain ⟨l, hl, q⟩ := h1 xs[n] (List.getElem_mem hn')
    refine ⟨l, hl, wp_mono q fun t s' ⟨q1, q2, q3⟩ => ⟨p xs[n], q1, fun hp => wp_mono (q3 hp) fun d s'' ⟨k1, k2⟩ => ⟨n + 1, by rw [← et, List.map_append]; rfl, hn', ?_, k2⟩, fun hp => ⟨n + 1, by rw [← et, List.map_append]; rfl, hn', ?_, q2⟩⟩⟩
    · rw [k1, ha, ← et, List.filter_append, List.map_append]; simp [hp]
    · rw [ha, ← et, List.filter_append, List.map_append]; simp [hp]
  · rintro acc g _ ⟨n, he, hn, rfl, rfl⟩
    rw [e1] at he
    have hl := congrArg List.length he
    simp only [List.length_map, List.length_take] at hl
    have : n = xs.length := by omega
    subst this
    rw [List.take_length]
    exact h2
theorem rd_andB (ha : Rd o s a (.bl p)) (hb : Rd o s b (.bl q)) : Rd o s (.and a b) (.bl (p && q)) := fun _ _ k => w_and (ha _ _ ⟨p, rfl, fun h => hb _ _ (by rw [h] at k; exact k), fun h => by rw [h] at k; exact k⟩)
theorem rd_orB (ha : Rd o s a (.bl p)) (hb : Rd o s b (.bl q)) : Rd o s (.or a b) (.bl (p || q)) := fun _ _ k => w_or (ha _ _ ⟨p, rfl, fun h => by rw [h] at k; exact k, fun h => hb _ _ (by rw [h] at k; exact k)⟩)
end
end Pi
namespace K28
open PySem Pi
abbrev t_F_lesser : Pi.TS := (.ret (.ite (.op2 .le (.v 0) (.v 1)) (.v 0) (.v 1)))
def o_F_lesser : O where
  call := fun i => match i with
    | _ => fun _ _ => .no
  init := fun i => match i with
    | _ => fun _ _ => .no
  meth := fun _ _ => none
  cont := fun i => List.lookup i []
  sub := fun i j => i == j
  eqm := fun i => List.lookup i []
def m_F_lesser (ds : List D) (gl : List MO) : Pi.C := runD o_F_lesser 2 t_F_lesser ds gl
abbrev t_F_greater : Pi.TS := (.ret (.ite (.op2 .ge (.v 0) (.v 1)) (.v 0) (.v 1)))
def o_F_greater : O where
  call := fun i => match i with
    | _ => fun _ _ => .no
  init := fun i => match i with
    | _ => fun _ _ => .no
  meth := fun _ _ => none
  cont := fun i => List.lookup i []
  sub := fun i j => i == j
  eqm := fun i => List.lookup i []
def m_F_greater (ds : List D) (gl : List MO) : Pi.C := runD o_F_greater 2 t_F_greater ds gl
abbrev t_F_common : Pi.TS := (.ret (.tup (.cons (.call 48 (.cons (.ix (.v 0) (.c (.int 0))) (.cons (.ix (.v 1) (.c (.int 0))) .nil)) []) (.cons (.call 47 (.cons (.ix (.v 0) (.c (.int 1))) (.cons (.ix (.v 1) (.c (.int 1))) .nil)) []) .nil))))
def o_F_common : O where
  call := fun i => match i with
    | 48 => m_F_greater
    | 47 => m_F_lesser
    | _ => fun _ _ => .no
  init := fun i => match i with
    | _ => fun _ _ => .no
  meth := fun _ _ => none
  cont := fun i => List.lookup i []
  sub := fun i j => i == j
  eqm := fun i => List.lookup i []
def m_F_common (ds : List D) (gl : List MO) : Pi.C := runD o_F_common 2 t_F_common ds gl
abbrev t_F_shifted : Pi.TS := (.ret (.tup (.cons (.op2 .add (.ix (.v 0) (.c (.int 0))) (.v 1)) (.cons (.op2 .add (.ix (.v 0) (.c (.int 1))) (.v 2)) .nil))))
def o_F_shifted : O where
  call := fun i => match i with
    | _ => fun _ _ => .no
  init := fun i => match i with
    | _ => fun _ _ => .no
  meth := fun _ _ => none
  cont := fun i => List.lookup i []
  sub := fun i j => i == j
  eqm := fun i => List.lookup i []
def m_F_shifted (ds : List D) (gl : List MO) : Pi.C := runD o_F_shifted 3 t_F_shifted ds gl
abbrev t_F_is_integer : Pi.TS := (.ret (.and (.isi (.v 0) [.int]) (.not (.isi (.v 0) [.bool]))))
def o_F_is_integer : O where
  call := fun i => match i with
    | _ => fun _ _ => .no
  init := fun i => match i with
    | _ => fun _ _ => .no
  meth := fun _ _ => none
  cont := fun i => List.lookup i []
  sub := fun i j => i == j
  eqm := fun i => List.lookup i []
def m_F_is_integer (ds : List D) (gl : List MO) : Pi.C := runD o_F_is_integer 1 t_F_is_integer ds gl
abbrev t_F_is_cell : Pi.TS := (.seq (.ite (.or (.not (.isi (.v 0) [.tuple])) (.op2 .ne (.bi .len (.cons (.v 0) .nil)) (.c (.int 2)))) (.ret (.c (.bl false))) .nil)
    (.ret (.and (.call 0 (.cons (.ix (.v 0) (.c (.int 0))) .nil) []) (.call 0 (.cons (.ix (.v 0) (.c (.int 1))) .nil) []))))
def o_F_is_cell : O where
  call := fun i => match i with
    | 0 => m_F_is_integer
    | _ => fun _ _ => .no
  init := fun i => match i with
    | _ => fun _ _ => .no
  meth := fun _ _ => none
  cont := fun i => List.lookup i []
  sub := fun i j => i == j
  eqm := fun i => List.lookup i []
def m_F_is_cell (ds : List D) (gl : List MO) : Pi.C := runD o_F_is_cell 1 t_F_is_cell ds gl
abbrev t_F_Span___init__ : Pi.TS := (.seq (.ite (.not (.call 2 (.cons (.v 1) .nil) [])) (.raise 6 9 (.cons (.c (.str "belief")) .nil)) .nil)
    (.seq (.ite (.not (.call 2 (.cons (.v 2) .nil) [])) (.raise 6 9 (.cons (.c (.str "place")) .nil)) .nil)
    (.seq (.ite (.not (.call 2 (.cons (.v 3) .nil) [])) (.raise 6 9 (.cons (.c (.str "error")) .nil)) .nil)
    (.seq (.asg (.one 4) (.tup (.cons (.call 49 (.cons (.v 1) (.cons (.tup (.cons (.op2 .sub (.ix (.v 2) (.c (.int 0))) (.ix (.v 3) (.c (.int 1)))) (.cons (.op2 .sub (.ix (.v 2) (.c (.int 1))) (.ix (.v 3) (.c (.int 0)))) .nil))) .nil)) []) (.cons (.call 49 (.cons (.v 2) (.cons (.tup (.cons (.op2 .add (.ix (.v 1) (.c (.int 0))) (.ix (.v 3) (.c (.int 0)))) (.cons (.op2 .add (.ix (.v 1) (.c (.int 1))) (.ix (.v 3) (.c (.int 1)))) .nil))) .nil)) []) (.cons (.call 49 (.cons (.v 3) (.cons (.tup (.cons (.op2 .sub (.ix (.v 2) (.c (.int 0))) (.ix (.v 1) (.c (.int 1)))) (.cons (.op2 .sub (.ix (.v 2) (.c (.int 1))) (.ix (.v 1) (.c (.int 0)))) .nil))) .nil)) []) .nil)))))
    (.seq (.ite (.bi .any (.cons (.comp (.tup [5, 6]) (.it (.v 4)) (.c (.bl true)) (.op2 .gt (.v 5) (.v 6))) .nil)) (.asg (.one 4) (.tup (.cons (.c .non) (.cons (.c .non) (.cons (.c .non) .nil))))) .nil)
    (.setFs 5 [10, 11, 12] (.v 4)))))))
def o_F_Span___init__ : O where
  call := fun i => match i with
    | 2 => m_F_is_cell
    | 49 => m_F_common
    | _ => fun _ _ => .no
  init := fun i => match i with
    | _ => fun _ _ => .no
  meth := fun _ _ => none
  cont := fun i => List.lookup i []
  sub := fun i j => i == j
  eqm := fun i => List.lookup i []
def m_F_Span___init__ (ds : List D) (gl : List MO) : Pi.CI := runN o_F_Span___init__ 7 5 t_F_Span___init__ ds gl
abbrev t_F_Span___bool__ : Pi.TS := (.ret (.op2 .ntn (.fld (.v 0) 10) (.c .non)))
def o_F_Span___bool__ : O where
  call := fun i => match i with
    | _ => fun _ _ => .no
  init := fun i => match i with
    | _ => fun _ _ => .no
  meth := fun _ _ => none
  cont := fun i => List.lookup i []
  sub := fun i j => i == j
  eqm := fun i => List.lookup i []
def m_F_Span___bool__ (ds : List D) (gl : List MO) : Pi.C := runD o_F_Span___bool__ 1 t_F_Span___bool__ ds gl
abbrev t_F__triangle : Pi.TS := (.ret (.op2 .fdiv (.op2 .mulW (.v 0) (.op2 .add (.v 0) (.c (.int 1)))) (.c (.int 2))))
def o_F__triangle : O where
  call := fun i => match i with
    | _ => fun _ _ => .no
  init := fun i => match i with
    | _ => fun _ _ => .no
  meth := fun _ _ => none
  cont := fun i => List.lookup i []
  sub := fun i j => i == j
  eqm := fun i => List.lookup i []
def m_F__triangle (ds : List D) (gl : List MO) : Pi.C := runD o_F__triangle 1 t_F__triangle ds gl
abbrev t_F_Span_total : Pi.TS := (.seq (.ite (.not (.tro 0 (.v 0))) (.ret (.c (.int 0))) .nil)
    (.seq (.asg (.nest [.inr [1, 2], .inr [3, 4], .inr [5, 6]]) (.tup (.cons (.fld (.v 0) 10) (.cons (.fld (.v 0) 11) (.cons (.fld (.v 0) 12) .nil)))))
    (.seq (.asg (.one 7) (.op2 .mulW (.op2 .add (.op2 .sub (.v 2) (.v 1)) (.c (.int 1))) (.op2 .add (.op2 .sub (.v 4) (.v 3)) (.c (.int 1)))))
    (.ret (.op2 .sub (.op2 .sub (.v 7) (.call 67 (.cons (.op2 .add (.op2 .sub (.v 5) (.v 3)) (.v 2)) .nil) [])) (.call 67 (.cons (.op2 .sub (.op2 .sub (.v 4) (.v 1)) (.v 6)) .nil) []))))))
def o_F_Span_total : O where
  call := fun i => match i with
    | 59 => m_F_Span___bool__
    | 67 => m_F__triangle
    | _ => fun _ _ => .no
  init := fun i => match i with
    | _ => fun _ _ => .no
  meth := fun k mi => match mi with
    | 0 => List.lookup k [(5, 59)]
    | _ => none
  cont := fun i => List.lookup i []
  sub := fun i j => i == j
  eqm := fun i => List.lookup i []
def m_F_Span_total (ds : List D) (gl : List MO) : Pi.C := runD o_F_Span_total 8 t_F_Span_total ds gl
abbrev t_F_Span_stepped : Pi.TS := (.seq (.ite (.not (.tro 0 (.v 0))) (.ret (.v 0)) .nil)
    (.ret (.mk 5 (.cons (.call 51 (.cons (.fld (.v 0) 10) (.cons (.v 1) (.cons (.v 1) .nil))) []) (.cons (.call 51 (.cons (.fld (.v 0) 11) (.cons (.op2 .add (.v 1) (.v 2)) (.cons (.op2 .add (.v 1) (.v 3)) .nil))) []) (.cons (.call 51 (.cons (.fld (.v 0) 12) (.cons (.v 2) (.cons (.v 3) .nil))) []) .nil))) [])))
def o_F_Span_stepped : O where
  call := fun i => match i with
    | 59 => m_F_Span___bool__
    | 51 => m_F_shifted
    | _ => fun _ _ => .no
  init := fun i => match i with
    | 5 => m_F_Span___init__
    | _ => fun _ _ => .no
  meth := fun k mi => match mi with
    | 0 => List.lookup k [(5, 59)]
    | _ => none
  cont := fun i => List.lookup i []
  sub := fun i j => i == j
  eqm := fun i => List.lookup i []
def m_F_Span_stepped (ds : List D) (gl : List MO) : Pi.C := runD o_F_Span_stepped 4 t_F_Span_stepped ds gl
abbrev t_F_Span_sighted : Pi.TS := (.seq (.ite (.not (.tro 0 (.v 0))) (.ret (.v 0)) .nil)
    (.seq (.asg (.one 4) (.call 49 (.cons (.fld (.v 0) 11) (.cons (.tup (.cons (.v 1) (.cons (.v 2) .nil))) .nil)) []))
    (.ret (.mk 5 (.cons (.tup (.cons (.op2 .sub (.ix (.v 4) (.c (.int 0))) (.v 3)) (.cons (.op2 .add (.ix (.v 4) (.c (.int 1))) (.v 3)) .nil))) (.cons (.v 4) (.cons (.tup (.cons (.neg (.v 3)) (.cons (.v 3) .nil))) .nil))) []))))
def o_F_Span_sighted : O where
  call := fun i => match i with
    | 59 => m_F_Span___bool__
    | 49 => m_F_common
    | _ => fun _ _ => .no
  init := fun i => match i with
    | 5 => m_F_Span___init__
    | _ => fun _ _ => .no
  meth := fun k mi => match mi with
    | 0 => List.lookup k [(5, 59)]
    | _ => none
  cont := fun i => List.lookup i []
  sub := fun i j => i == j
  eqm := fun i => List.lookup i []
def m_F_Span_sighted (ds : List D) (gl : List MO) : Pi.C := runD o_F_Span_sighted 5 t_F_Span_sighted ds gl
abbrev t_F_Span___and__ : Pi.TS := (.seq (.ite (.not (.isi (.v 1) [.cls 5])) (.ex .nil) .nil)
    (.seq (.ite (.not (.tro 0 (.v 0))) (.ret (.v 0)) .nil)
    (.seq (.ite (.not (.tro 0 (.v 1))) (.ret (.v 1)) .nil)
    (.ret (.mk 5 (.cons (.call 49 (.cons (.fld (.v 0) 10) (.cons (.fld (.v 1) 10) .nil)) []) (.cons (.call 49 (.cons (.fld (.v 0) 11) (.cons (.fld (.v 1) 11) .nil)) []) (.cons (.call 49 (.cons (.fld (.v 0) 12) (.cons (.fld (.v 1) 12) .nil)) []) .nil))) [])))))
def o_F_Span___and__ : O where
  call := fun i => match i with
    | 59 => m_F_Span___bool__
    | 49 => m_F_common
    | _ => fun _ _ => .no
  init := fun i => match i with
    | 5 => m_F_Span___init__
    | _ => fun _ _ => .no
  meth := fun k mi => match mi with
    | 0 => List.lookup k [(5, 59)]
    | _ => none
  cont := fun i => List.lookup i []
  sub := fun i j => i == j
  eqm := fun i => List.lookup i []
def m_F_Span___and__ (ds : List D) (gl : List MO) : Pi.C := runD o_F_Span___and__ 2 t_F_Span___and__ ds gl
abbrev t_F__with_range : Pi.TS := (.seq (.mkf 3 (.bi .list (.cons (.v 0) .nil)))
    (.seq (.seto 3 (.v 1) (.v 2))
    (.ret (.mk 5 (.cons (.ixo 3 (.c (.int 0))) (.cons (.ixo 3 (.c (.int 1))) (.cons (.ixo 3 (.c (.int 2))) .nil))) []))))
def o_F__with_range : O where
  call := fun i => match i with
    | _ => fun _ _ => .no
  init := fun i => match i with
    | 5 => m_F_Span___init__
    | _ => fun _ _ => .no
  meth := fun _ _ => none
  cont := fun i => List.lookup i []
  sub := fun i j => i == j
  eqm := fun i => List.lookup i []
def m_F__with_range (ds : List D) (gl : List MO) : Pi.C := runD o_F__with_range 4 t_F__with_range ds gl
abbrev t_F_Span_less : Pi.TS := (.seq (.ite (.not (.tro 0 (.opm 1 (.v 0) (.v 1)))) (.ret (.ite (.tro 0 (.v 0)) (.tup (.cons (.v 0) .nil)) (.tup .nil))) .nil)
    (.seq (.mko 2 .nil)
    (.seq (.asg (.one 3) (.mkr (.cons (.fld (.v 0) 10) (.cons (.fld (.v 0) 11) (.cons (.fld (.v 0) 12) .nil)))))
    (.seq (.fr (.nest [.inl 4, .inr [5, 6]]) (.enmT (.tup (.cons (.fld (.v 1) 10) (.cons (.fld (.v 1) 11) (.cons (.fld (.v 1) 12) .nil))))) (.seq (.app 2 (.call 68 (.cons (.v 3) (.cons (.v 4) (.cons (.tup (.cons (.ix (.ix (.v 3) (.v 4)) (.c (.int 0))) (.cons (.op2 .sub (.v 5) (.c (.int 1))) .nil))) .nil))) []))
    (.seq (.app 2 (.call 68 (.cons (.v 3) (.cons (.v 4) (.cons (.tup (.cons (.op2 .add (.v 6) (.c (.int 1))) (.cons (.ix (.ix (.v 3) (.v 4)) (.c (.int 1))) .nil))) .nil))) []))
    (.setr (.v 3) (.v 4) (.call 49 (.cons (.ix (.v 3) (.v 4)) (.cons (.tup (.cons (.v 5) (.cons (.v 6) .nil))) .nil)) [])))))
    (.seq (.frz 2) (.ret (.bi .tuple (.cons (.comp (.one 7) (.it (.v 2)) (.tro 0 (.v 7)) (.v 7)) .nil))))))))
def o_F_Span_less : O where
  call := fun i => match i with
    | 60 => m_F_Span___and__
    | 59 => m_F_Span___bool__
    | 68 => m_F__with_range
    | 49 => m_F_common
    | _ => fun _ _ => .no
  init := fun i => match i with
    | _ => fun _ _ => .no
  meth := fun k mi => match mi with
    | 1 => List.lookup k [(5, 60)]
    | 0 => List.lookup k [(5, 59)]
    | _ => none
  cont := fun i => List.lookup i []
  sub := fun i j => i == j
  eqm := fun i => List.lookup i []
def m_F_Span_less (ds : List D) (gl : List MO) : Pi.C := runD o_F_Span_less 8 t_F_Span_less ds gl
abbrev t_F_Span_places_at : Pi.TS := (.seq (.ite (.or (.not (.tro 0 (.v 0))) (.or (.op2 .lt (.v 1) (.ix (.fld (.v 0) 10) (.c (.int 0)))) (.op2 .gt (.v 1) (.ix (.fld (.v 0) 10) (.c (.int 1)))))) (.ret (.c .non)) .nil)
    (.ret (.call 49 (.cons (.fld (.v 0) 11) (.cons (.call 51 (.cons (.fld (.v 0) 12) (.cons (.v 1) (.cons (.v 1) .nil))) []) .nil)) [])))
def o_F_Span_places_at : O where
  call := fun i => match i with
    | 59 => m_F_Span___bool__
    | 49 => m_F_common
    | 51 => m_F_shifted
    | _ => fun _ _ => .no
  init := fun i => match i with
    | _ => fun _ _ => .no
  meth := fun k mi => match mi with
    | 0 => List.lookup k [(5, 59)]
    | _ => none
  cont := fun i => List.lookup i []
  sub := fun i j => i == j
  eqm := fun i => List.lookup i []
def m_F_Span_places_at (ds : List D) (gl : List MO) : Pi.C := runD o_F_Span_places_at 2 t_F_Span_places_at ds gl
abbrev t_F_Span___eq__ : Pi.TS := (.seq (.ite (.not (.isi (.v 1) [.cls 5])) (.ret (.c (.bl false))) .nil)
    (.ret (.and (.op2 .eq (.fld (.v 0) 10) (.fld (.v 1) 10)) (.and (.op2 .eq (.fld (.v 0) 11) (.fld (.v 1) 11)) (.op2 .eq (.fld (.v 0) 12) (.fld (.v 1) 12))))))
def o_F_Span___eq__ : O where
  call := fun i => match i with
    | _ => fun _ _ => .no
  init := fun i => match i with
    | _ => fun _ _ => .no
  meth := fun _ _ => none
  cont := fun i => List.lookup i []
  sub := fun i j => i == j
  eqm := fun i => List.lookup i []
def m_F_Span___eq__ (ds : List D) (gl : List MO) : Pi.C := runD o_F_Span___eq__ 2 t_F_Span___eq__ ds gl
abbrev t_F__law_feed : Pi.TS := (.seq (.asg (.one 2) (.op2 .add (.op2 .mulL (.c (.int 7019)) (.v 1)) (.c (.int 43))))
    (.seq (.ite (.op2 .lt (.v 1) (.bi .len (.cons (.v 0) .nil))) (.asg (.one 2) (.bi .abs (.cons (.bi .int (.cons (.ix (.v 0) (.v 1)) .nil)) .nil))) (.ite (.op2 .gt (.bi .len (.cons (.v 0) .nil)) (.c (.int 0))) (.asg (.one 2) (.op2 .add (.v 2) (.op2 .mulR (.op2 .mod (.bi .int (.cons (.ix (.v 0) (.op2 .mod (.bi .int (.cons (.v 1) .nil)) (.bi .len (.cons (.v 0) .nil)))) .nil)) (.c (.int 2147483629))) (.c (.int 65543))))) .nil))
    (.seq (.asg (.one 3) (.op2 .add (.op2 .mod (.bi .int (.cons (.op2 .add (.op2 .add (.op2 .mulR (.op2 .mod (.bi .int (.cons (.v 2) .nil)) (.c (.int 2147483629))) (.c (.int 48271))) (.op2 .mulL (.c (.int 40829)) (.v 1))) (.c (.int 11))) .nil)) (.c (.int 2147483629))) (.c (.int 1))))
    (.ret (.mkr (.cons (.ite (.op2 .ge (.v 2) (.op2 .pow (.c (.int 10)) (.c (.int 18)))) (.v 2) (.c (.int 0))) (.cons (.v 3) (.cons (.c (.int 0)) .nil))))))))
def o_F__law_feed : O where
  call := fun i => match i with
    | _ => fun _ _ => .no
  init := fun i => match i with
    | _ => fun _ _ => .no
  meth := fun _ _ => none
  cont := fun i => List.lookup i []
  sub := fun i j => i == j
  eqm := fun i => List.lookup i []
def m_F__law_feed (ds : List D) (gl : List MO) : Pi.C := runD o_F__law_feed 4 t_F__law_feed ds gl
abbrev t_F__law_take : Pi.TS := (.seq (.ite (.op2 .gt (.ix (.v 0) (.c (.int 0))) (.c (.int 0))) (.seq (.asg (.one 2) (.op2 .mod (.bi .int (.cons (.ix (.v 0) (.c (.int 0))) .nil)) (.v 1)))
    (.seq (.setr (.v 0) (.c (.int 0)) (.op2 .fdivW (.ix (.v 0) (.c (.int 0))) (.v 1)))
    (.ret (.v 2)))) .nil)
    (.seq (.setr (.v 0) (.c (.int 2)) (.op2 .add (.ix (.v 0) (.c (.int 2))) (.c (.int 1))))
    (.seq (.asg (.one 3) (.op2 .mod (.bi .int (.cons (.op2 .mulR (.op2 .add (.ix (.v 0) (.c (.int 1))) (.op2 .mulL (.c (.int 104779)) (.ix (.v 0) (.c (.int 2))))) (.c (.int 69653))) .nil)) (.c (.int 2147483647))))
    (.seq (.setr (.v 0) (.c (.int 1)) (.op2 .add (.op2 .mod (.bi .int (.cons (.op2 .add (.op2 .mulR (.v 3) (.c (.int 48271))) (.c (.int 30139))) .nil)) (.c (.int 2147483629))) (.c (.int 1))))
    (.ret (.op2 .mod (.bi .int (.cons (.op2 .fdiv (.op2 .add (.op2 .mulR (.v 3) (.c (.int 2147483647))) (.ix (.v 0) (.c (.int 1)))) (.c (.int 8191))) .nil)) (.v 1)))))))
def o_F__law_take : O where
  call := fun i => match i with
    | _ => fun _ _ => .no
  init := fun i => match i with
    | _ => fun _ _ => .no
  meth := fun _ _ => none
  cont := fun i => List.lookup i []
  sub := fun i j => i == j
  eqm := fun i => List.lookup i []
def m_F__law_take (ds : List D) (gl : List MO) : Pi.C := runD o_F__law_take 4 t_F__law_take ds gl
abbrev t_F__law_pick : Pi.TS := (.ret (.ix (.v 1) (.call 70 (.cons (.v 0) (.cons (.bi .len (.cons (.v 1) .nil)) .nil)) [])))
def o_F__law_pick : O where
  call := fun i => match i with
    | 70 => m_F__law_take
    | _ => fun _ _ => .no
  init := fun i => match i with
    | _ => fun _ _ => .no
  meth := fun _ _ => none
  cont := fun i => List.lookup i []
  sub := fun i j => i == j
  eqm := fun i => List.lookup i []
def m_F__law_pick (ds : List D) (gl : List MO) : Pi.C := runD o_F__law_pick 2 t_F__law_pick ds gl
abbrev t_F__law_bounds : Pi.TS := (.seq (.mko 1 .nil)
    (.seq (.fr (.one 2) (.rng1 (.c (.int 3))) (.seq (.asg (.one 3) (.op2 .sub (.call 70 (.cons (.v 0) (.cons (.c (.int 7)) .nil)) []) (.c (.int 3))))
    (.app 1 (.tup (.cons (.v 3) (.cons (.op2 .sub (.op2 .add (.v 3) (.call 70 (.cons (.v 0) (.cons (.c (.int 6)) .nil)) [])) (.call 41 (.cons (.v 0) (.cons (.lst (.cons (.c (.int 0)) (.cons (.c (.int 0)) (.cons (.c (.int 0)) (.cons (.c (.int 0)) (.cons (.c (.int 1)) .nil)))))) .nil)) [])) .nil))))))
    (.seq (.frz 1) (.ret (.v 1)))))
def o_F__law_bounds : O where
  call := fun i => match i with
    | 70 => m_F__law_take
    | 41 => m_F__law_pick
    | _ => fun _ _ => .no
  init := fun i => match i with
    | _ => fun _ _ => .no
  meth := fun _ _ => none
  cont := fun i => List.lookup i []
  sub := fun i j => i == j
  eqm := fun i => List.lookup i []
def m_F__law_bounds (ds : List D) (gl : List MO) : Pi.C := runD o_F__law_bounds 4 t_F__law_bounds ds gl
abbrev t_F__law_listed : Pi.TS := (.seq (.mko 1 .nil)
    (.seq (.ite (.op2 .isn (.fld (.v 0) 10) (.c .non)) (.seq (.frz 1) (.ret (.v 1))) .nil)
    (.seq (.fr (.one 2) (.rng2 (.ix (.fld (.v 0) 10) (.c (.int 0))) (.op2 .add (.ix (.fld (.v 0) 10) (.c (.int 1))) (.c (.int 1)))) (.seq (.asg (.one 3) (.meth 3 (.v 0) (.cons (.v 2) .nil) []))
    (.extv 1 (.comp (.one 4) (.rng2 (.ix (.v 3) (.c (.int 0))) (.op2 .add (.ix (.v 3) (.c (.int 1))) (.c (.int 1)))) (.c (.bl true)) (.tup (.cons (.v 2) (.cons (.v 4) .nil)))))))
    (.seq (.frz 1) (.ret (.v 1))))))
def o_F__law_listed : O where
  call := fun i => match i with
    | 57 => m_F_Span_places_at
    | _ => fun _ _ => .no
  init := fun i => match i with
    | _ => fun _ _ => .no
  meth := fun k mi => match mi with
    | 3 => List.lookup k [(5, 57)]
    | _ => none
  cont := fun i => List.lookup i []
  sub := fun i j => i == j
  eqm := fun i => List.lookup i []
def m_F__law_listed (ds : List D) (gl : List MO) : Pi.C := runD o_F__law_listed 5 t_F__law_listed ds gl
abbrev t_F__law_all : Pi.TS := (.seq (.mko 1 .nil)
    (.seq (.fr (.one 2) (.rng2 (.ix (.ix (.v 0) (.c (.int 0))) (.c (.int 0))) (.op2 .add (.ix (.ix (.v 0) (.c (.int 0))) (.c (.int 1))) (.c (.int 1)))) (.fr (.one 3) (.rng2 (.ix (.ix (.v 0) (.c (.int 1))) (.c (.int 0))) (.op2 .add (.ix (.ix (.v 0) (.c (.int 1))) (.c (.int 1))) (.c (.int 1)))) (.extv 1 (.ite (.ch .le .le (.ix (.ix (.v 0) (.c (.int 2))) (.c (.int 0))) (.op2 .sub (.v 3) (.v 2)) (.ix (.ix (.v 0) (.c (.int 2))) (.c (.int 1)))) (.lst (.cons (.tup (.cons (.v 2) (.cons (.v 3) .nil))) .nil)) (.lst .nil)))))
    (.seq (.frz 1) (.ret (.v 1)))))
def o_F__law_all : O where
  call := fun i => match i with
    | _ => fun _ _ => .no
  init := fun i => match i with
    | _ => fun _ _ => .no
  meth := fun _ _ => none
  cont := fun i => List.lookup i []
  sub := fun i j => i == j
  eqm := fun i => List.lookup i []
def m_F__law_all (ds : List D) (gl : List MO) : Pi.C := runD o_F__law_all 4 t_F__law_all ds gl
abbrev t_F__law_sorted : Pi.TS := (.seq (.asg (.one 1) (.bi .sort (.cons (.comp (.tup [5, 6]) (.it (.v 0)) (.c (.bl true)) (.op2 .add (.op2 .mulR (.bi .int (.cons (.op2 .add (.v 5) (.c (.int 500))) .nil)) (.c (.int 1000))) (.bi .int (.cons (.op2 .add (.v 6) (.c (.int 500))) .nil)))) .nil)))
    (.seq (.mko 2 .nil)
    (.seq (.fr (.one 3) (.it (.v 1)) (.seq (.asg (.one 4) (.tup (.cons (.op2 .sub (.op2 .fdiv (.v 3) (.c (.int 1000))) (.c (.int 500))) (.cons (.op2 .sub (.op2 .mod (.bi .int (.cons (.v 3) .nil)) (.c (.int 1000))) (.c (.int 500))) .nil))))
    (.extv 2 (.ite (.and (.opo .ne 2 (.lst .nil)) (.op2 .eq (.ixo 2 (.neg (.c (.int 1)))) (.v 4))) (.lst .nil) (.lst (.cons (.v 4) .nil))))))
    (.seq (.frz 2) (.ret (.v 2))))))
def o_F__law_sorted : O where
  call := fun i => match i with
    | _ => fun _ _ => .no
  init := fun i => match i with
    | _ => fun _ _ => .no
  meth := fun _ _ => none
  cont := fun i => List.lookup i []
  sub := fun i j => i == j
  eqm := fun i => List.lookup i []
def m_F__law_sorted (ds : List D) (gl : List MO) : Pi.C := runD o_F__law_sorted 7 t_F__law_sorted ds gl
abbrev t_F__law_changed : Pi.TS := (.seq (.ite (.op2 .gt (.call 70 (.cons (.v 0) (.cons (.c (.int 3)) .nil)) []) (.c (.int 0))) (.seq (.asg (.tup [3, 4]) (.tup (.cons (.op2 .sub (.call 70 (.cons (.v 0) (.cons (.c (.int 3)) .nil)) []) (.c (.int 1))) (.cons (.op2 .sub (.call 70 (.cons (.v 0) (.cons (.c (.int 4)) .nil)) []) (.c (.int 2))) .nil))))
    (.seq (.asg (.one 5) (.op2 .add (.v 4) (.call 70 (.cons (.v 0) (.cons (.c (.int 4)) .nil)) [])))
    (.seq (.mko 6 .nil)
    (.seq (.fr (.tup [7, 8]) (.it (.v 2)) (.extv 6 (.comp (.one 10) (.rng2 (.v 4) (.op2 .add (.v 5) (.c (.int 1)))) (.c (.bl true)) (.tup (.cons (.op2 .add (.v 7) (.v 3)) (.cons (.op2 .add (.op2 .add (.v 8) (.v 3)) (.v 10)) .nil))))))
    (.seq (.frz 6) (.ret (.tup (.cons (.meth 4 (.v 1) (.cons (.v 3) (.cons (.v 4) (.cons (.v 5) .nil))) []) (.cons (.call 80 (.cons (.v 6) .nil) []) .nil))))))))) .nil)
    (.seq (.par [4, 9] (.cons (.op2 .sub (.call 70 (.cons (.v 0) (.cons (.c (.int 7)) .nil)) []) (.c (.int 4))) (.cons (.call 70 (.cons (.v 0) (.cons (.c (.int 3)) .nil)) []) .nil)))
    (.seq (.par2 5 false (.op2 .add (.v 4) (.call 70 (.cons (.v 0) (.cons (.c (.int 6)) .nil)) [])) 6 true (.lst .nil))
    (.seq (.fr (.tup [7, 8]) (.it (.v 2)) (.extv 6 (.ite (.ch .le .le (.v 4) (.v 8) (.v 5)) (.comp (.one 11) (.rng2 (.op2 .sub (.c (.int 0)) (.v 9)) (.op2 .add (.v 9) (.c (.int 1)))) (.c (.bl true)) (.tup (.cons (.op2 .sub (.v 8) (.v 11)) (.cons (.v 8) .nil)))) (.lst .nil))))
    (.seq (.frz 6) (.ret (.tup (.cons (.meth 5 (.v 1) (.cons (.v 4) (.cons (.v 5) (.cons (.v 9) .nil))) []) (.cons (.call 80 (.cons (.v 6) .nil) []) .nil)))))))))
def o_F__law_changed : O where
  call := fun i => match i with
    | 70 => m_F__law_take
    | 54 => m_F_Span_stepped
    | 80 => m_F__law_sorted
    | 55 => m_F_Span_sighted
    | _ => fun _ _ => .no
  init := fun i => match i with
    | _ => fun _ _ => .no
  meth := fun k mi => match mi with
    | 4 => List.lookup k [(5, 54)]
    | 5 => List.lookup k [(5, 55)]
    | _ => none
  cont := fun i => List.lookup i []
  sub := fun i j => i == j
  eqm := fun i => List.lookup i []
def m_F__law_changed (ds : List D) (gl : List MO) : Pi.C := runD o_F__law_changed 12 t_F__law_changed ds gl
abbrev t_F_law : Pi.TS := (.seq (.fr (.one 1) (.rng1 (.bi .max2 (.cons (.c (.int 1)) (.cons (.bi .min2 (.cons (.c (.int 4)) (.cons (.bi .len (.cons (.v 0) .nil)) .nil))) .nil)))) (.seq (.asg (.one 2) (.call 69 (.cons (.v 0) (.cons (.v 1) .nil)) []))
    (.fr (.one 3) (.rng1 (.c (.int 6))) (.seq (.asg (.one 4) (.call 75 (.cons (.v 2) .nil) []))
    (.seq (.par [5, 6] (.cons (.mk 5 (.cons (.ix (.v 4) (.c (.int 0))) (.cons (.ix (.v 4) (.c (.int 1))) (.cons (.ix (.v 4) (.c (.int 2))) .nil))) []) (.cons (.call 76 (.cons (.v 4) .nil) []) .nil)))
    (.fr (.one 7) (.rng1 (.c (.int 3))) (.seq (.asg (.tup [8, 9]) (.call 81 (.cons (.v 2) (.cons (.v 5) (.cons (.v 6) .nil))) []))
    (.seq (.ite (.or (.op2 .ne (.call 77 (.cons (.v 5) .nil) []) (.v 6)) (.or (.op2 .ne (.call 77 (.cons (.v 8) .nil) []) (.v 9)) (.op2 .ne (.prp 2 (.v 8)) (.bi .len (.cons (.v 9) .nil))))) (.ret (.c (.bl false))) .nil)
    (.seq (.ite (.or (.not (.isi (.v 8) [.cls 5])) (.op2 .ne (.tro 0 (.v 8)) (.op2 .ne (.v 9) (.lst .nil)))) (.ret (.c (.bl false))) .nil)
    (.par [5, 6] (.cons (.v 8) (.cons (.v 9) .nil))))))))))))
    (.seq (.asg (.one 10) (.mk 5 (.cons (.tup (.cons (.c (.int 1)) (.cons (.c (.int 0)) .nil))) (.cons (.tup (.cons (.c (.int 0)) (.cons (.c (.int 0)) .nil))) (.cons (.tup (.cons (.c (.int 0)) (.cons (.c (.int 0)) .nil))) .nil))) []))
    (.seq (.asg (.one 11) (.lst (.cons (.meth 4 (.v 10) (.cons (.c (.int 1)) (.cons (.c (.int 0)) (.cons (.c (.int 1)) .nil))) []) (.cons (.meth 5 (.v 10) (.cons (.c (.int 0)) (.cons (.c (.int 9)) (.cons (.c (.int 1)) .nil))) []) (.cons (.opm 1 (.v 10) (.mk 5 (.cons (.tup (.cons (.c (.int 0)) (.cons (.c (.int 0)) .nil))) (.cons (.tup (.cons (.c (.int 0)) (.cons (.c (.int 0)) .nil))) (.cons (.tup (.cons (.c (.int 0)) (.cons (.c (.int 0)) .nil))) .nil))) [])) .nil)))))
    (.ret (.and (.op2 .eq (.comp (.one 12) (.it (.v 11)) (.or (.eqo true (.v 12) (.v 10)) (.op2 .ntn (.fld (.v 12) 10) (.c .non))) (.v 12)) (.lst .nil)) (.op2 .eqE (.meth 6 (.v 10) (.cons (.v 10) .nil) []) (.tup .nil)))))))
def o_F_law : O where
  call := fun i => match i with
    | 69 => m_F__law_feed
    | 75 => m_F__law_bounds
    | 76 => m_F__law_all
    | 81 => m_F__law_changed
    | 77 => m_F__law_listed
    | 53 => m_F_Span_total
    | 59 => m_F_Span___bool__
    | 54 => m_F_Span_stepped
    | 55 => m_F_Span_sighted
    | 60 => m_F_Span___and__
    | 65 => m_F_Span___eq__
    | 56 => m_F_Span_less
    | _ => fun _ _ => .no
  init := fun i => match i with
    | 5 => m_F_Span___init__
    | _ => fun _ _ => .no
  meth := fun k mi => match mi with
    | 2 => List.lookup k [(5, 53)]
    | 0 => List.lookup k [(5, 59)]
    | 4 => List.lookup k [(5, 54)]
    | 5 => List.lookup k [(5, 55)]
    | 1 => List.lookup k [(5, 60)]
    | 6 => List.lookup k [(5, 56)]
    | _ => none
  cont := fun i => List.lookup i []
  sub := fun i j => i == j
  eqm := fun i => List.lookup i [(5, 65)]
def m_F_law (ds : List D) (gl : List MO) : Pi.C := runD o_F_law 13 t_F_law ds gl
theorem cs_F_common : (o_F_common.call 48 = m_F_greater) ∧ (o_F_common.call 47 = m_F_lesser) := ⟨rfl, rfl⟩
theorem cs_F_is_cell : (o_F_is_cell.call 0 = m_F_is_integer) := rfl
theorem cs_F_Span___init__ : (o_F_Span___init__.call 2 = m_F_is_cell) ∧ (o_F_Span___init__.call 49 = m_F_common) := ⟨rfl, rfl⟩
theorem cs_F_Span_total : (o_F_Span_total.call 59 = m_F_Span___bool__) ∧ (o_F_Span_total.call 67 = m_F__triangle) ∧ (o_F_Span_total.meth 5 0 = some 59) := ⟨rfl, rfl, rfl⟩
theorem cs_F_Span_stepped : (o_F_Span_stepped.call 59 = m_F_Span___bool__) ∧ (o_F_Span_stepped.call 51 = m_F_shifted) ∧ (o_F_Span_stepped.init 5 = m_F_Span___init__) ∧ (o_F_Span_stepped.meth 5 0 = some 59) := ⟨rfl, rfl, rfl, rfl⟩
theorem cs_F_Span_sighted : (o_F_Span_sighted.call 59 = m_F_Span___bool__) ∧ (o_F_Span_sighted.call 49 = m_F_common) ∧ (o_F_Span_sighted.init 5 = m_F_Span___init__) ∧ (o_F_Span_sighted.meth 5 0 = some 59) := ⟨rfl, rfl, rfl, rfl⟩
theorem cs_F_Span___and__ : (o_F_Span___and__.call 59 = m_F_Span___bool__) ∧ (o_F_Span___and__.call 49 = m_F_common) ∧ (o_F_Span___and__.init 5 = m_F_Span___init__) ∧ (o_F_Span___and__.meth 5 0 = some 59) := ⟨rfl, rfl, rfl, rfl⟩
theorem cs_F__with_range : (o_F__with_range.init 5 = m_F_Span___init__) := rfl
theorem cs_F_Span_less : (o_F_Span_less.call 60 = m_F_Span___and__) ∧ (o_F_Span_less.call 59 = m_F_Span___bool__) ∧ (o_F_Span_less.call 68 = m_F__with_range) ∧ (o_F_Span_less.call 49 = m_F_common) ∧ (o_F_Span_less.meth 5 1 = some 60) ∧ (o_F_Span_less.meth 5 0 = some 59) := ⟨rfl, rfl, rfl, rfl, rfl, rfl⟩
theorem cs_F_Span_places_at : (o_F_Span_places_at.call 59 = m_F_Span___bool__) ∧ (o_F_Span_places_at.call 49 = m_F_common) ∧ (o_F_Span_places_at.call 51 = m_F_shifted) ∧ (o_F_Span_places_at.meth 5 0 = some 59) := ⟨rfl, rfl, rfl, rfl⟩
theorem cs_F__law_pick : (o_F__law_pick.call 70 = m_F__law_take) := rfl
theorem cs_F__law_bounds : (o_F__law_bounds.call 70 = m_F__law_take) ∧ (o_F__law_bounds.call 41 = m_F__law_pick) := ⟨rfl, rfl⟩
theorem cs_F__law_listed : (o_F__law_listed.call 57 = m_F_Span_places_at) ∧ (o_F__law_listed.meth 5 3 = some 57) := ⟨rfl, rfl⟩
theorem cs_F__law_changed : (o_F__law_changed.call 70 = m_F__law_take) ∧ (o_F__law_changed.call 54 = m_F_Span_stepped) ∧ (o_F__law_changed.call 80 = m_F__law_sorted) ∧ (o_F__law_changed.call 55 = m_F_Span_sighted) ∧ (o_F__law_changed.meth 5 4 = some 54) ∧ (o_F__law_changed.meth 5 5 = some 55) := ⟨rfl, rfl, rfl, rfl, rfl, rfl⟩
theorem cs_F_law : (o_F_law.call 69 = m_F__law_feed) ∧ (o_F_law.call 75 = m_F__law_bounds) ∧ (o_F_law.call 76 = m_F__law_all) ∧ (o_F_law.call 81 = m_F__law_changed) ∧ (o_F_law.call 77 = m_F__law_listed) ∧ (o_F_law.call 53 = m_F_Span_total) ∧ (o_F_law.call 59 = m_F_Span___bool__) ∧ (o_F_law.call 54 = m_F_Span_stepped) ∧ (o_F_law.call 55 = m_F_Span_sighted) ∧ (o_F_law.call 60 = m_F_Span___and__) ∧ (o_F_law.call 65 = m_F_Span___eq__) ∧ (o_F_law.call 56 = m_F_Span_less) ∧ (o_F_law.init 5 = m_F_Span___init__) ∧ (o_F_law.meth 5 2 = some 53) ∧ (o_F_law.meth 5 0 = some 59) ∧ (o_F_law.meth 5 4 = some 54) ∧ (o_F_law.meth 5 5 = some 55) ∧ (o_F_law.meth 5 1 = some 60) ∧ (o_F_law.meth 5 6 = some 56) ∧ (o_F_law.eqm 5 = some 65) := ⟨rfl, rfl, rfl, rfl, rfl, rfl, rfl, rfl, rfl, rfl, rfl, rfl, rfl, rfl, rfl, rfl, rfl, rfl, rfl, rfl⟩
end K28
namespace K28
open PySem L2 Pi
def top (i : Nat) : Stmt := PySem.Challenge.pw_slipsights_k28_spans_stepped_and_sighted.main.body.getD i (.Pass ⟨0, 0, 0, 0⟩)
structure Ad where
  p_F_Span_total : Addr
  c_Span : Addr
  c_InvalidSpan : Addr
  c_SightError : Addr
  F_lesser : Addr
  F_greater : Addr
  F_common : Addr
  F_shifted : Addr
  F_is_integer : Addr
  F_is_cell : Addr
  F_Span___init__ : Addr
  F_Span_total : Addr
  F_Span_stepped : Addr
  F_Span_sighted : Addr
  F_Span_less : Addr
  F_Span_places_at : Addr
  F_Span___bool__ : Addr
  F_Span___and__ : Addr
  F_Span___eq__ : Addr
  F__triangle : Addr
  F__with_range : Addr
  F__law_feed : Addr
  F__law_take : Addr
  F__law_pick : Addr
  F__law_bounds : Addr
  F__law_listed : Addr
  F__law_all : Addr
  F__law_sorted : Addr
  F__law_changed : Addr
  F_law : Addr
  F_InvalidSpan___init__ : Addr
/-- what the top has written -/
structure Txt (K : PySem.W.Frag) (mg : Str → Option Value) (a : Ad) : Prop where
  ogc : PySem.W.specialIn K (.builtin "object.__class__") "__get__" = some (some (.builtin "getset_descriptor.__get__"))
  otk : PySem.W.takesIn K (.builtin "object.__class__") = some true
  cls_Span : ClsF K a.c_Span
  mg_Span : mg "Span" = some (.ref a.c_Span)
  mk_Span : Mk K a.c_Span a.F_Span___init__
  sf_Span : PySem.W.selfFirst K a.c_Span = true
  eq_Span : EqC K a.c_Span a.F_Span___eq__
  ty_Span : PySem.W.typeIn K (.ref a.c_Span) = some (.type "type")
  su_Span_Span : PySem.W.mroIn K a.c_Span (.ref a.c_Span) = some true
  kt_Span_int : PySem.W.kitOne K (.ref a.c_Span) (.type "int") = some false
  kt_Span_bool : PySem.W.kitOne K (.ref a.c_Span) (.type "bool") = some false
  kt_Span_tuple : PySem.W.kitOne K (.ref a.c_Span) (.type "tuple") = some false
  na_Span_belief : NoAttr K a.c_Span "belief"
  na_Span_place : NoAttr K a.c_Span "place"
  na_Span_error : NoAttr K a.c_Span "error"
  mg_InvalidSpan : mg "InvalidSpan" = some (.ref a.c_InvalidSpan)
  er_InvalidSpan : ErrC K a.c_InvalidSpan a.F_InvalidSpan___init__ "word"
  mg_SightError : mg "SightError" = some (.ref a.c_SightError)
  df_F_lesser : Def K a.F_lesser "lesser" "lesser" (top 1) ["p", "q"] []
  mg_F_lesser : mg "lesser" = some (.ref a.F_lesser)
  kp_F_lesser : PySem.W.keepIn K (.ref a.F_lesser) = true
  df_F_greater : Def K a.F_greater "greater" "greater" (top 2) ["p", "q"] []
  mg_F_greater : mg "greater" = some (.ref a.F_greater)
  kp_F_greater : PySem.W.keepIn K (.ref a.F_greater) = true
  df_F_common : Def K a.F_common "common" "common" (top 3) ["p", "q"] []
  mg_F_common : mg "common" = some (.ref a.F_common)
  kp_F_common : PySem.W.keepIn K (.ref a.F_common) = true
  df_F_shifted : Def K a.F_shifted "shifted" "shifted" (top 5) ["p", "low", "high"] []
  mg_F_shifted : mg "shifted" = some (.ref a.F_shifted)
  kp_F_shifted : PySem.W.keepIn K (.ref a.F_shifted) = true
  df_F_is_integer : Def K a.F_is_integer "is_integer" "is_integer" (top 7) ["value"] []
  mg_F_is_integer : mg "is_integer" = some (.ref a.F_is_integer)
  kp_F_is_integer : PySem.W.keepIn K (.ref a.F_is_integer) = true
  df_F_is_cell : Def K a.F_is_cell "is_cell" "is_cell" (top 8) ["value"] []
  mg_F_is_cell : mg "is_cell" = some (.ref a.F_is_cell)
  kp_F_is_cell : PySem.W.keepIn K (.ref a.F_is_cell) = true
  df_F_Span___init__ : Def K a.F_Span___init__ "__init__" "Span.__init__" (inClass (top 13) 0) ["self", "belief", "place", "error"] []
  df_F_Span_total : Def K a.F_Span_total "total" "Span.total" (inClass (top 13) 1) ["self"] []
  pr_F_Span_total : PropOf K a.c_Span "total" a.p_F_Span_total a.F_Span_total
  df_F_Span_stepped : Def K a.F_Span_stepped "stepped" "Span.stepped" (inClass (top 13) 2) ["self", "by", "low", "high"] []
  sl_F_Span_stepped : Slot K a.c_Span "stepped" a.F_Span_stepped
  me_F_Span_stepped : Meth K a.c_Span "stepped" a.F_Span_stepped
  df_F_Span_sighted : Def K a.F_Span_sighted "sighted" "Span.sighted" (inClass (top 13) 3) ["self", "low", "high", "blur"] []
  sl_F_Span_sighted : Slot K a.c_Span "sighted" a.F_Span_sighted
  me_F_Span_sighted : Meth K a.c_Span "sighted" a.F_Span_sighted
  df_F_Span_less : Def K a.F_Span_less "less" "Span.less" (inClass (top 13) 4) ["self", "other"] []
  sl_F_Span_less : Slot K a.c_Span "less" a.F_Span_less
  me_F_Span_less : Meth K a.c_Span "less" a.F_Span_less
  df_F_Span_places_at : Def K a.F_Span_places_at "places_at" "Span.places_at" (inClass (top 13) 5) ["self", "number"] []
  sl_F_Span_places_at : Slot K a.c_Span "places_at" a.F_Span_places_at
  me_F_Span_places_at : Meth K a.c_Span "places_at" a.F_Span_places_at
  df_F_Span___bool__ : Def K a.F_Span___bool__ "__bool__" "Span.__bool__" (inClass (top 13) 7) ["self"] []
  sl_F_Span___bool__ : Slot K a.c_Span "__bool__" a.F_Span___bool__
  df_F_Span___and__ : Def K a.F_Span___and__ "__and__" "Span.__and__" (inClass (top 13) 8) ["self", "other"] []
  sl_F_Span___and__ : Slot K a.c_Span "__and__" a.F_Span___and__
  df_F_Span___eq__ : Def K a.F_Span___eq__ "__eq__" "Span.__eq__" (inClass (top 13) 13) ["self", "other"] []
  sl_F_Span___eq__ : Slot K a.c_Span "__eq__" a.F_Span___eq__
  df_F__triangle : Def K a.F__triangle "_triangle" "_triangle" (top 15) ["side"] []
  mg_F__triangle : mg "_triangle" = some (.ref a.F__triangle)
  kp_F__triangle : PySem.W.keepIn K (.ref a.F__triangle) = true
  df_F__with_range : Def K a.F__with_range "_with_range" "_with_range" (top 16) ["ranges", "at", "other"] []
  mg_F__with_range : mg "_with_range" = some (.ref a.F__with_range)
  kp_F__with_range : PySem.W.keepIn K (.ref a.F__with_range) = true
  df_F__law_feed : Def K a.F__law_feed "_law_feed" "_law_feed" (top 18) ["_law_script", "_law_k"] []
  mg_F__law_feed : mg "_law_feed" = some (.ref a.F__law_feed)
  kp_F__law_feed : PySem.W.keepIn K (.ref a.F__law_feed) = true
  df_F__law_take : Def K a.F__law_take "_law_take" "_law_take" (top 19) ["_law_box", "_law_many"] []
  mg_F__law_take : mg "_law_take" = some (.ref a.F__law_take)
  kp_F__law_take : PySem.W.keepIn K (.ref a.F__law_take) = true
  df_F__law_pick : Def K a.F__law_pick "_law_pick" "_law_pick" (top 20) ["_law_box", "_law_some"] []
  mg_F__law_pick : mg "_law_pick" = some (.ref a.F__law_pick)
  kp_F__law_pick : PySem.W.keepIn K (.ref a.F__law_pick) = true
  df_F__law_bounds : Def K a.F__law_bounds "_law_bounds" "_law_bounds" (top 21) ["_law_box"] []
  mg_F__law_bounds : mg "_law_bounds" = some (.ref a.F__law_bounds)
  kp_F__law_bounds : PySem.W.keepIn K (.ref a.F__law_bounds) = true
  df_F__law_listed : Def K a.F__law_listed "_law_listed" "_law_listed" (top 22) ["_law_span"] []
  mg_F__law_listed : mg "_law_listed" = some (.ref a.F__law_listed)
  kp_F__law_listed : PySem.W.keepIn K (.ref a.F__law_listed) = true
  df_F__law_all : Def K a.F__law_all "_law_all" "_law_all" (top 23) ["_law_bounds_here"] []
  mg_F__law_all : mg "_law_all" = some (.ref a.F__law_all)
  kp_F__law_all : PySem.W.keepIn K (.ref a.F__law_all) = true
  df_F__law_sorted : Def K a.F__law_sorted "_law_sorted" "_law_sorted" (top 24) ["_law_pairs"] []
  mg_F__law_sorted : mg "_law_sorted" = some (.ref a.F__law_sorted)
  kp_F__law_sorted : PySem.W.keepIn K (.ref a.F__law_sorted) = true
  df_F__law_changed : Def K a.F__law_changed "_law_changed" "_law_changed" (top 25) ["_law_box", "_law_made", "_law_pairs"] []
  mg_F__law_changed : mg "_law_changed" = some (.ref a.F__law_changed)
  kp_F__law_changed : PySem.W.keepIn K (.ref a.F__law_changed) = true
  df_F_law : Def K a.F_law "law" "law" (top 26) ["_law_script"] []
  mg_F_law : mg "law" = some (.ref a.F_law)
  kp_F_law : PySem.W.keepIn K (.ref a.F_law) = true
  df_F_InvalidSpan___init__ : Def K a.F_InvalidSpan___init__ "__init__" "InvalidSpan.__init__" (inClass (top 11) 0) ["self", "word"] []
  b_isinstance : mg "isinstance" = none
  b_int : mg "int" = none
  b_bool : mg "bool" = none
  b_tuple : mg "tuple" = none
  b_len : mg "len" = none
  b_any : mg "any" = none
  b_enumerate : mg "enumerate" = none
  b_list : mg "list" = none
  b_abs : mg "abs" = none
  b_range : mg "range" = none
  b_sorted : mg "sorted" = none
  b_max : mg "max" = none
  b_min : mg "min" = none
section
variable {P : Program} {w : World} {K : PySem.W.Frag} {mg : Str → Option Value} {base : Heap} {a : Ad}
def atN : Nat → Str
  | 0 => "name"
  | 1 => "low"
  | 2 => "high"
  | 3 => "barred"
  | 4 => "blur"
  | 5 => "size"
  | 6 => "slips"
  | 7 => "rooms"
  | 8 => "marks"
  | 9 => "word"
  | 10 => "belief"
  | 11 => "place"
  | 12 => "error"
  | _ => ""
def clN (a : Ad) : Nat → Addr
  | 5 => a.c_Span
  | 6 => a.c_InvalidSpan
  | 4 => a.c_SightError
  | _ => a.c_Span
def coN (c : Nat) : Bool := List.elem c [5]
def foN (c n : Nat) : Bool := el2 c n [(5, [10, 11, 12])]
def subN (i j : Nat) : Bool := i == j
theorem inj_at0 : ∀ i, i < 13 → ∀ j, j < 13 → atN i = atN j → i = j := by decide +kernel
theorem inj_at : ∀ i j, i < 13 → j < 13 → atN i = atN j → i = j := fun i j hi hj h => inj_at0 i hi j hj h
theorem cokN (T : Txt K mg a) : ∀ c, coN c = true → Cls K (clN a c) ∧ PySem.W.findIn K (.ref (clN a c)) "__class__" = some (some (.builtin "object.__class__")) ∧ PySem.W.specialIn K (.builtin "object.__class__") "__get__" = some (some (.builtin "getset_descriptor.__get__")) ∧
    PySem.W.takesIn K (.builtin "object.__class__") = some true ∧ PySem.W.mroIn K (clN a c) (.type "object") = some true :=
  (el_cons ⟨T.cls_Span.cls, T.cls_Span.gc, T.ogc, T.otk, T.cls_Span.mro⟩ el_nil)
theorem fokN (T : Txt K mg a) : ∀ c n, foN c n = true → n < 13 ∧ NoAttr K (clN a c) (atN n) :=
  (el2_cons (el_cons ⟨by decide, T.na_Span_belief⟩ (el_cons ⟨by decide, T.na_Span_place⟩ (el_cons ⟨by decide, T.na_Span_error⟩ el_nil))) el2_nil)
abbrev EN (T : Txt K mg a) : En := ⟨K, clN a, atN, 13, inj_at, coN, cokN T, foN, fokN T⟩
theorem noat_places_at : ∀ i, i < 13 → atN i ≠ "places_at" := by decide +kernel
theorem noat_stepped : ∀ i, i < 13 → atN i ≠ "stepped" := by decide +kernel
theorem noat_sighted : ∀ i, i < 13 → atN i ≠ "sighted" := by decide +kernel
theorem noat_less : ∀ i, i < 13 → atN i ≠ "less" := by decide +kernel
theorem sfN (T : Txt K mg a) : ∀ c, coN c = true → PySem.W.selfFirst K (clN a c) = true :=
  (el_cons T.sf_Span el_nil)
theorem subsN (T : Txt K mg a) {o : O} {W : WX} (ho : o.sub = subN := by rfl) : Subs ⟨EN T, o, W⟩ := subs_of (L := [5]) (fun _ => rfl) fun i hi j hj => by
  show _ = some (o.sub i j)
  rw [ho]
  revert j
  revert i
  exact (el_cons (el_cons T.su_Span_Span el_nil) el_nil)
theorem kitc_Span (T : Txt K mg a) {o : O} {W : WX} (ho : o.sub = subN := by rfl) : Kit ⟨EN T, o, W⟩ (.cls 5) := kit_cls rfl T.ty_Span (subsN T ho) (by show o.sub 5 5 = true; rw [ho]; rfl)
theorem sc_F_InvalidSpan___init__ : FnScope ["self", "word"] ["self", "word"] (defScope (inClass (top 11) 0)) := ⟨rfl, rfl, rfl, by decide +kernel, rfl, by decide +kernel, by decide +kernel⟩
theorem kit_int (T : Txt K mg a) {o : O} {W : WX} : Kit ⟨EN T, o, W⟩ .int := kit_of rfl (el_cons T.kt_Span_int el_nil)
theorem kit_bool (T : Txt K mg a) {o : O} {W : WX} : Kit ⟨EN T, o, W⟩ .bool := kit_of rfl (el_cons T.kt_Span_bool el_nil)
theorem kit_tuple (T : Txt K mg a) {o : O} {W : WX} : Kit ⟨EN T, o, W⟩ .tuple := kit_of rfl (el_cons T.kt_Span_tuple el_nil)
theorem sc_F_lesser : FnScope ["p", "q"] ["p", "q"] (defScope (top 1)) := ⟨rfl, rfl, rfl, by decide +kernel, rfl, by decide +kernel, by decide +kernel⟩
theorem b_F_lesser (T : Txt K mg a) : ∀ (cdv : Value) (A : Around) (outer : List Env) (s : Shared) (H : Hp) (Z : XK), A.guards = some [] → Room 0 (A.deeper (PyProof.Rows.envOfC "lesser" (defScope (top 1)) s.heap.objs.size a.F_lesser cdv)) →
    PSsI ⟨EN T, o_F_lesser, WZ Z⟩ (cxOf (L2.CX P w) P w K mg base ["p", "q"] "lesser" (defScope (top 1)) a.F_lesser cdv A outer s H Z) (defBody (top 1)) t_F_lesser := by
  intro cdv A outer s H Z hgd hr
  exact (psi_one (psi_ret (pi_ite (pit_cmp opi_le (pi_v 0) (pi_v 1) (by rfl)) (pi_v 0) (pi_v 1))))
theorem sc_F_greater : FnScope ["p", "q"] ["p", "q"] (defScope (top 2)) := ⟨rfl, rfl, rfl, by decide +kernel, rfl, by decide +kernel, by decide +kernel⟩
theorem b_F_greater (T : Txt K mg a) : ∀ (cdv : Value) (A : Around) (outer : List Env) (s : Shared) (H : Hp) (Z : XK), A.guards = some [] → Room 0 (A.deeper (PyProof.Rows.envOfC "greater" (defScope (top 2)) s.heap.objs.size a.F_greater cdv)) →
    PSsI ⟨EN T, o_F_greater, WZ Z⟩ (cxOf (L2.CX P w) P w K mg base ["p", "q"] "greater" (defScope (top 2)) a.F_greater cdv A outer s H Z) (defBody (top 2)) t_F_greater := by
  intro cdv A outer s H Z hgd hr
  exact (psi_one (psi_ret (pi_ite (pit_cmp opi_ge (pi_v 0) (pi_v 1) (by rfl)) (pi_v 0) (pi_v 1))))
theorem sc_F_common : FnScope ["p", "q"] ["p", "q"] (defScope (top 3)) := ⟨rfl, rfl, rfl, by decide +kernel, rfl, by decide +kernel, by decide +kernel⟩
theorem b_F_common (T : Txt K mg a) (G_greater : Good P w K mg base (EN T) 1 a.F_greater ["p", "q"] [] 2 m_F_greater) (G_lesser : Good P w K mg base (EN T) 1 a.F_lesser ["p", "q"] [] 2 m_F_lesser) : ∀ (cdv : Value) (A : Around) (outer : List Env) (s : Shared) (H : Hp) (Z : XK), A.guards = some [] → Room 1 (A.deeper (PyProof.Rows.envOfC "common" (defScope (top 3)) s.heap.objs.size a.F_common cdv)) →
    PSsI ⟨EN T, o_F_common, WZ Z⟩ (cxOf (L2.CX P w) P w K mg base ["p", "q"] "common" (defScope (top 3)) a.F_common cdv A outer s H Z) (defBody (top 3)) t_F_common := by
  intro cdv A outer s H Z hgd hr
  exact (psi_one (psi_ret (pi_tup (pai_cons (pi_call (takes_of rfl rfl rfl rfl) (G_greater.callee hgd (hr.mono (by decide)) T.mg_F_greater T.kp_F_greater 0 (Nat.le_of_ble_eq_true rfl) (by exact Dfl.nil)) rfl (pai_cons (pi_ix rfl (pi_v 0) pi_int) (pai_cons (pi_ix rfl (pi_v 1) pi_int) pai_nil))) (pai_cons (pi_call (takes_of rfl rfl rfl rfl) (G_lesser.callee hgd (hr.mono (by decide)) T.mg_F_lesser T.kp_F_lesser 0 (Nat.le_of_ble_eq_true rfl) (by exact Dfl.nil)) rfl (pai_cons (pi_ix rfl (pi_v 0) pi_int) (pai_cons (pi_ix rfl (pi_v 1) pi_int) pai_nil))) pai_nil)))))
theorem sc_F_shifted : FnScope ["p", "low", "high"] ["p", "low", "high"] (defScope (top 5)) := ⟨rfl, rfl, rfl, by decide +kernel, rfl, by decide +kernel, by decide +kernel⟩
theorem b_F_shifted (T : Txt K mg a) : ∀ (cdv : Value) (A : Around) (outer : List Env) (s : Shared) (H : Hp) (Z : XK), A.guards = some [] → Room 0 (A.deeper (PyProof.Rows.envOfC "shifted" (defScope (top 5)) s.heap.objs.size a.F_shifted cdv)) →
    PSsI ⟨EN T, o_F_shifted, WZ Z⟩ (cxOf (L2.CX P w) P w K mg base ["p", "low", "high"] "shifted" (defScope (top 5)) a.F_shifted cdv A outer s H Z) (defBody (top 5)) t_F_shifted := by
  intro cdv A outer s H Z hgd hr
  exact (psi_one (psi_ret (pi_tup (pai_cons (pi_bin opi_add (pi_ix rfl (pi_v 0) pi_int) (pi_v 1)) (pai_cons (pi_bin opi_add (pi_ix rfl (pi_v 0) pi_int) (pi_v 2)) pai_nil)))))
theorem sc_F_is_integer : FnScope ["value"] ["value"] (defScope (top 7)) := ⟨rfl, rfl, rfl, by decide +kernel, rfl, by decide +kernel, by decide +kernel⟩
theorem b_F_is_integer (T : Txt K mg a) : ∀ (cdv : Value) (A : Around) (outer : List Env) (s : Shared) (H : Hp) (Z : XK), A.guards = some [] → Room 0 (A.deeper (PyProof.Rows.envOfC "is_integer" (defScope (top 7)) s.heap.objs.size a.F_is_integer cdv)) →
    PSsI ⟨EN T, o_F_is_integer, WZ Z⟩ (cxOf (L2.CX P w) P w K mg base ["value"] "is_integer" (defScope (top 7)) a.F_is_integer cdv A outer s H Z) (defBody (top 7)) t_F_is_integer := by
  intro cdv A outer s H Z hgd hr
  exact (psi_one (psi_ret (pi_and (pi_isi rfl (kit_int T) rfl T.b_isinstance (pi_v 0) (pe_bltn rfl T.b_int rfl rfl)) (pi_one (pi_not (pi_isi rfl (kit_bool T) rfl T.b_isinstance (pi_v 0) (pe_bltn rfl T.b_bool rfl rfl)))))))
theorem sc_F_is_cell : FnScope ["value"] ["value"] (defScope (top 8)) := ⟨rfl, rfl, rfl, by decide +kernel, rfl, by decide +kernel, by decide +kernel⟩
theorem b_F_is_cell (T : Txt K mg a) (G_is_integer : Good P w K mg base (EN T) 1 a.F_is_integer ["value"] [] 1 m_F_is_integer) : ∀ (cdv : Value) (A : Around) (outer : List Env) (s : Shared) (H : Hp) (Z : XK), A.guards = some [] → Room 1 (A.deeper (PyProof.Rows.envOfC "is_cell" (defScope (top 8)) s.heap.objs.size a.F_is_cell cdv)) →
    PSsI ⟨EN T, o_F_is_cell, WZ Z⟩ (cxOf (L2.CX P w) P w K mg base ["value"] "is_cell" (defScope (top 8)) a.F_is_cell cdv A outer s H Z) (defBody (top 8)) t_F_is_cell := by
  intro cdv A outer s H Z hgd hr
  exact (psi_cons (psi_if (pit_w (pwi_or (pit_not (pit_val (pi_isi rfl (kit_tuple T) rfl T.b_isinstance (pi_v 0) (pe_bltn rfl T.b_tuple rfl rfl)))) (pwi_or1 (pit_cmp (opi_ne rfl (hu64 hr)) (pi_bi (bii_len rfl) rfl T.b_len rfl (pai_cons (pi_v 0) pai_nil)) pi_int (by rfl))))) (psi_one (psi_ret pi_bl)) psi_nil)
    (psi_one (psi_ret (pi_and (pi_call (takes_of rfl rfl rfl rfl) (G_is_integer.callee hgd (hr.mono (by decide)) T.mg_F_is_integer T.kp_F_is_integer 0 (Nat.le_of_ble_eq_true rfl) (by exact Dfl.nil)) rfl (pai_cons (pi_ix rfl (pi_v 0) pi_int) pai_nil)) (pi_one (pi_call (takes_of rfl rfl rfl rfl) (G_is_integer.callee hgd (hr.mono (by decide)) T.mg_F_is_integer T.kp_F_is_integer 0 (Nat.le_of_ble_eq_true rfl) (by exact Dfl.nil)) rfl (pai_cons (pi_ix rfl (pi_v 0) pi_int) pai_nil)))))))
theorem sc_F_Span___init__ : FnScope ["self", "belief", "place", "error", "tight", "low", "high"] ["self", "belief", "place", "error"] (defScope (inClass (top 13) 0)) := ⟨rfl, rfl, rfl, by decide +kernel, rfl, by decide +kernel, by decide +kernel⟩
theorem b_F_Span___init__ (T : Txt K mg a) (G_is_cell : Good P w K mg base (EN T) 2 a.F_is_cell ["value"] [] 1 m_F_is_cell) (G_common : Good P w K mg base (EN T) 2 a.F_common ["p", "q"] [] 2 m_F_common) : ∀ (cdv : Value) (A : Around) (outer : List Env) (s : Shared) (H : Hp) (Z : XK), A.guards = some [] → Room 2 (A.deeper (PyProof.Rows.envOfC "Span.__init__" (defScope (inClass (top 13) 0)) s.heap.objs.size a.F_Span___init__ cdv)) →
    PSsI ⟨EN T, o_F_Span___init__, WZ Z⟩ (cxOf (L2.CX P w) P w K mg base ["self", "belief", "place", "error", "tight", "low", "high"] "Span.__init__" (defScope (inClass (top 13) 0)) a.F_Span___init__ cdv A outer s H Z) (defBody (inClass (top 13) 0)) t_F_Span___init__ := by
  intro cdv A outer s H Z hgd hr
  exact (psi_cons (psi_if (pit_not (pit_val (pi_call (takes_of rfl rfl rfl rfl) (G_is_cell.callee hgd (hr.mono (by decide)) T.mg_F_is_cell T.kp_F_is_cell 0 (Nat.le_of_ble_eq_true rfl) (by exact Dfl.nil)) rfl (pai_cons (pi_v 1) pai_nil)))) (psi_one (psi_raise rfl (takes_of rfl rfl rfl rfl) (T.df_F_InvalidSpan___init__.exc (q := 6) (n := 9) (k := 0) T.er_InvalidSpan rfl (Nat.le_of_ble_eq_true rfl) rfl sc_F_InvalidSpan___init__ rfl (.inl rfl) (.inl rfl) T.mg_InvalidSpan (hr.mono (by decide))) rfl (pai_cons pi_str pai_nil))) psi_nil)
    (psi_cons (psi_if (pit_not (pit_val (pi_call (takes_of rfl rfl rfl rfl) (G_is_cell.callee hgd (hr.mono (by decide)) T.mg_F_is_cell T.kp_F_is_cell 0 (Nat.le_of_ble_eq_true rfl) (by exact Dfl.nil)) rfl (pai_cons (pi_v 2) pai_nil)))) (psi_one (psi_raise rfl (takes_of rfl rfl rfl rfl) (T.df_F_InvalidSpan___init__.exc (q := 6) (n := 9) (k := 0) T.er_InvalidSpan rfl (Nat.le_of_ble_eq_true rfl) rfl sc_F_InvalidSpan___init__ rfl (.inl rfl) (.inl rfl) T.mg_InvalidSpan (hr.mono (by decide))) rfl (pai_cons pi_str pai_nil))) psi_nil)
    (psi_cons (psi_if (pit_not (pit_val (pi_call (takes_of rfl rfl rfl rfl) (G_is_cell.callee hgd (hr.mono (by decide)) T.mg_F_is_cell T.kp_F_is_cell 0 (Nat.le_of_ble_eq_true rfl) (by exact Dfl.nil)) rfl (pai_cons (pi_v 3) pai_nil)))) (psi_one (psi_raise rfl (takes_of rfl rfl rfl rfl) (T.df_F_InvalidSpan___init__.exc (q := 6) (n := 9) (k := 0) T.er_InvalidSpan rfl (Nat.le_of_ble_eq_true rfl) rfl sc_F_InvalidSpan___init__ rfl (.inl rfl) (.inl rfl) T.mg_InvalidSpan (hr.mono (by decide))) rfl (pai_cons pi_str pai_nil))) psi_nil)
    (psi_cons (psi_asg (pi_tup (pai_cons (pi_call (takes_of rfl rfl rfl rfl) (G_common.callee hgd (hr.mono (by decide)) T.mg_F_common T.kp_F_common 0 (Nat.le_of_ble_eq_true rfl) (by exact Dfl.nil)) rfl (pai_cons (pi_v 1) (pai_cons (pi_tup (pai_cons (pi_bin opi_sub (pi_ix rfl (pi_v 2) pi_int) (pi_ix rfl (pi_v 3) pi_int)) (pai_cons (pi_bin opi_sub (pi_ix rfl (pi_v 2) pi_int) (pi_ix rfl (pi_v 3) pi_int)) pai_nil))) pai_nil))) (pai_cons (pi_call (takes_of rfl rfl rfl rfl) (G_common.callee hgd (hr.mono (by decide)) T.mg_F_common T.kp_F_common 0 (Nat.le_of_ble_eq_true rfl) (by exact Dfl.nil)) rfl (pai_cons (pi_v 2) (pai_cons (pi_tup (pai_cons (pi_bin opi_add (pi_ix rfl (pi_v 1) pi_int) (pi_ix rfl (pi_v 3) pi_int)) (pai_cons (pi_bin opi_add (pi_ix rfl (pi_v 1) pi_int) (pi_ix rfl (pi_v 3) pi_int)) pai_nil))) pai_nil))) (pai_cons (pi_call (takes_of rfl rfl rfl rfl) (G_common.callee hgd (hr.mono (by decide)) T.mg_F_common T.kp_F_common 0 (Nat.le_of_ble_eq_true rfl) (by exact Dfl.nil)) rfl (pai_cons (pi_v 3) (pai_cons (pi_tup (pai_cons (pi_bin opi_sub (pi_ix rfl (pi_v 2) pi_int) (pi_ix rfl (pi_v 1) pi_int)) (pai_cons (pi_bin opi_sub (pi_ix rfl (pi_v 2) pi_int) (pi_ix rfl (pi_v 1) pi_int)) pai_nil))) pai_nil))) pai_nil)))) (pgi_one (i := 4) sc_F_Span___init__.nd rfl (by first | exact Or.inl rfl | exact Or.inr rfl)))
    (psi_cons (psi_if (pit_val (pi_bi (bii_any rfl rfl) rfl T.b_any rfl (pai_cons (pi_lc rfl sc_F_Span___init__.nd (pii_it rfl (pi_v 4)) (blk_cx (own := [("low", 5), ("high", 6)]) (by exact ⟨rfl, by decide +kernel, by decide +kernel, by decide +kernel, by decide +kernel⟩)) (pgc_tup (is := [5, 6]) rfl rfl rfl fun _ _ _ _ _ => pg_any rfl (pgs_cons (pg_name (i := 5) sc_F_Span___init__.nd rfl (by first | exact Or.inl rfl | exact Or.inr rfl)) (pgs_cons (pg_name (i := 6) sc_F_Span___init__.nd rfl (by first | exact Or.inl rfl | exact Or.inr rfl)) pgs_nil)) rfl rfl) (fun _ _ _ _ _ => ptsi_nil) (fun _ _ _ _ _ => (pi_cmp opi_gt (pi_v 5) (pi_v 6) (by rfl)))) pai_nil))) (psi_one (psi_asg (pi_tup (pai_cons pi_non (pai_cons pi_non (pai_cons pi_non pai_nil)))) (pgi_one (i := 4) sc_F_Span___init__.nd rfl (by first | exact Or.inl rfl | exact Or.inr rfl)))) psi_nil)
    (psi_one (psi_setFs (k := 5) (ns := [10, 11, 12]) rfl rfl (pi_v 4) (pgs_cons (pg_fld rfl (Or.inl rfl)) (pgs_cons (pg_fld rfl (Or.inl rfl)) (pgs_cons (pg_fld rfl (Or.inl rfl)) pgs_nil))) (List.forall_mem_cons.mpr ⟨rfl, (List.forall_mem_cons.mpr ⟨rfl, (List.forall_mem_cons.mpr ⟨rfl, (fun _ h => nomatch h)⟩)⟩)⟩) rfl)))))))
theorem sc_F_Span___bool__ : FnScope ["self"] ["self"] (defScope (inClass (top 13) 7)) := ⟨rfl, rfl, rfl, by decide +kernel, rfl, by decide +kernel, by decide +kernel⟩
theorem b_F_Span___bool__ (T : Txt K mg a) : ∀ (cdv : Value) (A : Around) (outer : List Env) (s : Shared) (H : Hp) (Z : XK), A.guards = some [] → Room 0 (A.deeper (PyProof.Rows.envOfC "Span.__bool__" (defScope (inClass (top 13) 7)) s.heap.objs.size a.F_Span___bool__ cdv)) →
    PSsI ⟨EN T, o_F_Span___bool__, WZ Z⟩ (cxOf (L2.CX P w) P w K mg base ["self"] "Span.__bool__" (defScope (inClass (top 13) 7)) a.F_Span___bool__ cdv A outer s H Z) (defBody (inClass (top 13) 7)) t_F_Span___bool__ := by
  intro cdv A outer s H Z hgd hr
  exact (psi_one (psi_ret (pi_cmp opi_ntn (pi_fld (n := 10) rfl (pi_v 0) rfl) pi_non (by rfl))))
theorem sc_F__triangle : FnScope ["side"] ["side"] (defScope (top 15)) := ⟨rfl, rfl, rfl, by decide +kernel, rfl, by decide +kernel, by decide +kernel⟩
theorem b_F__triangle (T : Txt K mg a) : ∀ (cdv : Value) (A : Around) (outer : List Env) (s : Shared) (H : Hp) (Z : XK), A.guards = some [] → Room 0 (A.deeper (PyProof.Rows.envOfC "_triangle" (defScope (top 15)) s.heap.objs.size a.F__triangle cdv)) →
    PSsI ⟨EN T, o_F__triangle, WZ Z⟩ (cxOf (L2.CX P w) P w K mg base ["side"] "_triangle" (defScope (top 15)) a.F__triangle cdv A outer s H Z) (defBody (top 15)) t_F__triangle := by
  intro cdv A outer s H Z hgd hr
  exact (psi_one (psi_ret (pi_bin opi_fdiv (pi_bin opi_mulW (pi_v 0) (pi_bin opi_add (pi_v 0) pi_int)) pi_int)))
theorem sc_F_Span_total : FnScope ["self", "b_low", "b_high", "t_low", "t_high", "e_low", "e_high", "rectangle"] ["self"] (defScope (inClass (top 13) 1)) := ⟨rfl, rfl, rfl, by decide +kernel, rfl, by decide +kernel, by decide +kernel⟩
theorem b_F_Span_total (T : Txt K mg a) (G_F_Span___bool__ : Good P w K mg base (EN T) 1 a.F_Span___bool__ ["self"] [] 1 m_F_Span___bool__) (G__triangle : Good P w K mg base (EN T) 1 a.F__triangle ["side"] [] 1 m_F__triangle) : ∀ (cdv : Value) (A : Around) (outer : List Env) (s : Shared) (H : Hp) (Z : XK), A.guards = some [] → Room 1 (A.deeper (PyProof.Rows.envOfC "Span.total" (defScope (inClass (top 13) 1)) s.heap.objs.size a.F_Span_total cdv)) →
    PSsI ⟨EN T, o_F_Span_total, WZ Z⟩ (cxOf (L2.CX P w) P w K mg base ["self", "b_low", "b_high", "t_low", "t_high", "e_low", "e_high", "rectangle"] "Span.total" (defScope (inClass (top 13) 1)) a.F_Span_total cdv A outer s H Z) (defBody (inClass (top 13) 1)) t_F_Span_total := by
  intro cdv A outer s H Z hgd hr
  exact (psi_cons (psi_if (pit_not (pit_tro (mi := 0) (tro_run (takes_of rfl rfl rfl rfl) ⟨(lk_cons (G_F_Span___bool__.slot (i := 59) hgd (hr.mono (by decide)) T.sl_F_Span___bool__) lk_nil)⟩) (pi_v 0))) (psi_one (psi_ret pi_int)) psi_nil)
    (psi_cons (psi_asg (pi_tup (pai_cons (pi_fld (n := 10) rfl (pi_v 0) rfl) (pai_cons (pi_fld (n := 11) rfl (pi_v 0) rfl) (pai_cons (pi_fld (n := 12) rfl (pi_v 0) rfl) pai_nil)))) (pgi_nest (ts := [.inr [1, 2], .inr [3, 4], .inr [5, 6]]) rfl rfl (pgs_in (is := [1, 2]) rfl rfl (pgs_cons (pg_name (i := 1) sc_F_Span_total.nd rfl (by first | exact Or.inl rfl | exact Or.inr rfl)) (pgs_cons (pg_name (i := 2) sc_F_Span_total.nd rfl (by first | exact Or.inl rfl | exact Or.inr rfl)) pgs_nil)) rfl (pgs_in (is := [3, 4]) rfl rfl (pgs_cons (pg_name (i := 3) sc_F_Span_total.nd rfl (by first | exact Or.inl rfl | exact Or.inr rfl)) (pgs_cons (pg_name (i := 4) sc_F_Span_total.nd rfl (by first | exact Or.inl rfl | exact Or.inr rfl)) pgs_nil)) rfl (pgs_in (is := [5, 6]) rfl rfl (pgs_cons (pg_name (i := 5) sc_F_Span_total.nd rfl (by first | exact Or.inl rfl | exact Or.inr rfl)) (pgs_cons (pg_name (i := 6) sc_F_Span_total.nd rfl (by first | exact Or.inl rfl | exact Or.inr rfl)) pgs_nil)) rfl pgs_nil))) rfl))
    (psi_cons (psi_asg (pi_bin opi_mulW (pi_bin opi_add (pi_bin opi_sub (pi_v 2) (pi_v 1)) pi_int) (pi_bin opi_add (pi_bin opi_sub (pi_v 4) (pi_v 3)) pi_int)) (pgi_one (i := 7) sc_F_Span_total.nd rfl (by first | exact Or.inl rfl | exact Or.inr rfl)))
    (psi_one (psi_ret (pi_bin opi_sub (pi_bin opi_sub (pi_v 7) (pi_call (takes_of rfl rfl rfl rfl) (G__triangle.callee hgd (hr.mono (by decide)) T.mg_F__triangle T.kp_F__triangle 0 (Nat.le_of_ble_eq_true rfl) (by exact Dfl.nil)) rfl (pai_cons (pi_bin opi_add (pi_bin opi_sub (pi_v 5) (pi_v 3)) (pi_v 2)) pai_nil))) (pi_call (takes_of rfl rfl rfl rfl) (G__triangle.callee hgd (hr.mono (by decide)) T.mg_F__triangle T.kp_F__triangle 0 (Nat.le_of_ble_eq_true rfl) (by exact Dfl.nil)) rfl (pai_cons (pi_bin opi_sub (pi_bin opi_sub (pi_v 4) (pi_v 1)) (pi_v 6)) pai_nil))))))))
theorem sc_F_Span_stepped : FnScope ["self", "by", "low", "high"] ["self", "by", "low", "high"] (defScope (inClass (top 13) 2)) := ⟨rfl, rfl, rfl, by decide +kernel, rfl, by decide +kernel, by decide +kernel⟩
theorem b_F_Span_stepped (T : Txt K mg a) (G_F_Span___bool__ : Good P w K mg base (EN T) 1 a.F_Span___bool__ ["self"] [] 1 m_F_Span___bool__) (G_shifted : Good P w K mg base (EN T) 1 a.F_shifted ["p", "low", "high"] [] 3 m_F_shifted) (G_F_Span___init__ : GoodN P w K mg base (EN T) 3 a.F_Span___init__ ["self", "belief", "place", "error"] [] 3 5 m_F_Span___init__) : ∀ (cdv : Value) (A : Around) (outer : List Env) (s : Shared) (H : Hp) (Z : XK), A.guards = some [] → Room 4 (A.deeper (PyProof.Rows.envOfC "Span.stepped" (defScope (inClass (top 13) 2)) s.heap.objs.size a.F_Span_stepped cdv)) →
    PSsI ⟨EN T, o_F_Span_stepped, WZ Z⟩ (cxOf (L2.CX P w) P w K mg base ["self", "by", "low", "high"] "Span.stepped" (defScope (inClass (top 13) 2)) a.F_Span_stepped cdv A outer s H Z) (defBody (inClass (top 13) 2)) t_F_Span_stepped := by
  intro cdv A outer s H Z hgd hr
  exact (psi_cons (psi_if (pit_not (pit_tro (mi := 0) (tro_run (takes_of rfl rfl rfl rfl) ⟨(lk_cons (G_F_Span___bool__.slot (i := 59) hgd (hr.mono (by decide)) T.sl_F_Span___bool__) lk_nil)⟩) (pi_v 0))) (psi_one (psi_ret (pi_v 0))) psi_nil)
    (psi_one (psi_ret (pi_mkW (k := 5) (takes_of rfl rfl rfl rfl) (G_F_Span___init__.maker hgd (hr.mono (by decide)) rfl T.mk_Span T.mg_Span 0 (Nat.le_of_ble_eq_true rfl) (by exact Dfl.nil)) rfl (pai_cons (pi_call (takes_of rfl rfl rfl rfl) (G_shifted.callee hgd (hr.mono (by decide)) T.mg_F_shifted T.kp_F_shifted 0 (Nat.le_of_ble_eq_true rfl) (by exact Dfl.nil)) rfl (pai_cons (pi_fld (n := 10) rfl (pi_v 0) rfl) (pai_cons (pi_v 1) (pai_cons (pi_v 1) pai_nil)))) (pai_cons (pi_call (takes_of rfl rfl rfl rfl) (G_shifted.callee hgd (hr.mono (by decide)) T.mg_F_shifted T.kp_F_shifted 0 (Nat.le_of_ble_eq_true rfl) (by exact Dfl.nil)) rfl (pai_cons (pi_fld (n := 11) rfl (pi_v 0) rfl) (pai_cons (pi_bin opi_add (pi_v 1) (pi_v 2)) (pai_cons (pi_bin opi_add (pi_v 1) (pi_v 3)) pai_nil)))) (pai_cons (pi_call (takes_of rfl rfl rfl rfl) (G_shifted.callee hgd (hr.mono (by decide)) T.mg_F_shifted T.kp_F_shifted 0 (Nat.le_of_ble_eq_true rfl) (by exact Dfl.nil)) rfl (pai_cons (pi_fld (n := 12) rfl (pi_v 0) rfl) (pai_cons (pi_v 2) (pai_cons (pi_v 3) pai_nil)))) pai_nil)))))))
theorem sc_F_Span_sighted : FnScope ["self", "low", "high", "blur", "place"] ["self", "low", "high", "blur"] (defScope (inClass (top 13) 3)) := ⟨rfl, rfl, rfl, by decide +kernel, rfl, by decide +kernel, by decide +kernel⟩
theorem b_F_Span_sighted (T : Txt K mg a) (G_F_Span___bool__ : Good P w K mg base (EN T) 1 a.F_Span___bool__ ["self"] [] 1 m_F_Span___bool__) (G_common : Good P w K mg base (EN T) 2 a.F_common ["p", "q"] [] 2 m_F_common) (G_F_Span___init__ : GoodN P w K mg base (EN T) 3 a.F_Span___init__ ["self", "belief", "place", "error"] [] 3 5 m_F_Span___init__) : ∀ (cdv : Value) (A : Around) (outer : List Env) (s : Shared) (H : Hp) (Z : XK), A.guards = some [] → Room 4 (A.deeper (PyProof.Rows.envOfC "Span.sighted" (defScope (inClass (top 13) 3)) s.heap.objs.size a.F_Span_sighted cdv)) →
    PSsI ⟨EN T, o_F_Span_sighted, WZ Z⟩ (cxOf (L2.CX P w) P w K mg base ["self", "low", "high", "blur", "place"] "Span.sighted" (defScope (inClass (top 13) 3)) a.F_Span_sighted cdv A outer s H Z) (defBody (inClass (top 13) 3)) t_F_Span_sighted := by
  intro cdv A outer s H Z hgd hr
  exact (psi_cons (psi_if (pit_not (pit_tro (mi := 0) (tro_run (takes_of rfl rfl rfl rfl) ⟨(lk_cons (G_F_Span___bool__.slot (i := 59) hgd (hr.mono (by decide)) T.sl_F_Span___bool__) lk_nil)⟩) (pi_v 0))) (psi_one (psi_ret (pi_v 0))) psi_nil)
    (psi_cons (psi_asg (pi_call (takes_of rfl rfl rfl rfl) (G_common.callee hgd (hr.mono (by decide)) T.mg_F_common T.kp_F_common 0 (Nat.le_of_ble_eq_true rfl) (by exact Dfl.nil)) rfl (pai_cons (pi_fld (n := 11) rfl (pi_v 0) rfl) (pai_cons (pi_tup (pai_cons (pi_v 1) (pai_cons (pi_v 2) pai_nil))) pai_nil))) (pgi_one (i := 4) sc_F_Span_sighted.nd rfl (by first | exact Or.inl rfl | exact Or.inr rfl)))
    (psi_one (psi_ret (pi_mkW (k := 5) (takes_of rfl rfl rfl rfl) (G_F_Span___init__.maker hgd (hr.mono (by decide)) rfl T.mk_Span T.mg_Span 0 (Nat.le_of_ble_eq_true rfl) (by exact Dfl.nil)) rfl (pai_cons (pi_tup (pai_cons (pi_bin opi_sub (pi_ix rfl (pi_v 4) pi_int) (pi_v 3)) (pai_cons (pi_bin opi_add (pi_ix rfl (pi_v 4) pi_int) (pi_v 3)) pai_nil))) (pai_cons (pi_v 4) (pai_cons (pi_tup (pai_cons (pi_neg (pi_v 3)) (pai_cons (pi_v 3) pai_nil))) pai_nil))))))))
theorem sc_F_Span___and__ : FnScope ["self", "other"] ["self", "other"] (defScope (inClass (top 13) 8)) := ⟨rfl, rfl, rfl, by decide +kernel, rfl, by decide +kernel, by decide +kernel⟩
theorem b_F_Span___and__ (T : Txt K mg a) (G_F_Span___bool__ : Good P w K mg base (EN T) 1 a.F_Span___bool__ ["self"] [] 1 m_F_Span___bool__) (G_common : Good P w K mg base (EN T) 2 a.F_common ["p", "q"] [] 2 m_F_common) (G_F_Span___init__ : GoodN P w K mg base (EN T) 3 a.F_Span___init__ ["self", "belief", "place", "error"] [] 3 5 m_F_Span___init__) : ∀ (cdv : Value) (A : Around) (outer : List Env) (s : Shared) (H : Hp) (Z : XK), A.guards = some [] → Room 4 (A.deeper (PyProof.Rows.envOfC "Span.__and__" (defScope (inClass (top 13) 8)) s.heap.objs.size a.F_Span___and__ cdv)) →
    PSsI ⟨EN T, o_F_Span___and__, WZ Z⟩ (cxOf (L2.CX P w) P w K mg base ["self", "other"] "Span.__and__" (defScope (inClass (top 13) 8)) a.F_Span___and__ cdv A outer s H Z) (defBody (inClass (top 13) 8)) t_F_Span___and__ := by
  intro cdv A outer s H Z hgd hr
  exact (psi_cons (psi_if (pit_not (pit_val (pi_isi rfl (kitc_Span T) rfl T.b_isinstance (pi_v 1) (pe_glob rfl T.mg_Span rfl)))) (psi_one psi_stuck) psi_nil)
    (psi_cons (psi_if (pit_not (pit_tro (mi := 0) (tro_run (takes_of rfl rfl rfl rfl) ⟨(lk_cons (G_F_Span___bool__.slot (i := 59) hgd (hr.mono (by decide)) T.sl_F_Span___bool__) lk_nil)⟩) (pi_v 0))) (psi_one (psi_ret (pi_v 0))) psi_nil)
    (psi_cons (psi_if (pit_not (pit_tro (mi := 0) (tro_run (takes_of rfl rfl rfl rfl) ⟨(lk_cons (G_F_Span___bool__.slot (i := 59) hgd (hr.mono (by decide)) T.sl_F_Span___bool__) lk_nil)⟩) (pi_v 1))) (psi_one (psi_ret (pi_v 1))) psi_nil)
    (psi_one (psi_ret (pi_mkW (k := 5) (takes_of rfl rfl rfl rfl) (G_F_Span___init__.maker hgd (hr.mono (by decide)) rfl T.mk_Span T.mg_Span 0 (Nat.le_of_ble_eq_true rfl) (by exact Dfl.nil)) rfl (pai_cons (pi_call (takes_of rfl rfl rfl rfl) (G_common.callee hgd (hr.mono (by decide)) T.mg_F_common T.kp_F_common 0 (Nat.le_of_ble_eq_true rfl) (by exact Dfl.nil)) rfl (pai_cons (pi_fld (n := 10) rfl (pi_v 0) rfl) (pai_cons (pi_fld (n := 10) rfl (pi_v 1) rfl) pai_nil))) (pai_cons (pi_call (takes_of rfl rfl rfl rfl) (G_common.callee hgd (hr.mono (by decide)) T.mg_F_common T.kp_F_common 0 (Nat.le_of_ble_eq_true rfl) (by exact Dfl.nil)) rfl (pai_cons (pi_fld (n := 11) rfl (pi_v 0) rfl) (pai_cons (pi_fld (n := 11) rfl (pi_v 1) rfl) pai_nil))) (pai_cons (pi_call (takes_of rfl rfl rfl rfl) (G_common.callee hgd (hr.mono (by decide)) T.mg_F_common T.kp_F_common 0 (Nat.le_of_ble_eq_true rfl) (by exact Dfl.nil)) rfl (pai_cons (pi_fld (n := 12) rfl (pi_v 0) rfl) (pai_cons (pi_fld (n := 12) rfl (pi_v 1) rfl) pai_nil))) pai_nil)))))))))
theorem sc_F__with_range : FnScope ["ranges", "at", "other", "replaced"] ["ranges", "at", "other"] (defScope (top 16)) := ⟨rfl, rfl, rfl, by decide +kernel, rfl, by decide +kernel, by decide +kernel⟩
theorem b_F__with_range (T : Txt K mg a) (G_F_Span___init__ : GoodN P w K mg base (EN T) 3 a.F_Span___init__ ["self", "belief", "place", "error"] [] 3 5 m_F_Span___init__) : ∀ (cdv : Value) (A : Around) (outer : List Env) (s : Shared) (H : Hp) (Z : XK), A.guards = some [] → Room 4 (A.deeper (PyProof.Rows.envOfC "_with_range" (defScope (top 16)) s.heap.objs.size a.F__with_range cdv)) →
    PSsI ⟨EN T, o_F__with_range, WZ Z⟩ (cxOf (L2.CX P w) P w K mg base ["ranges", "at", "other", "replaced"] "_with_range" (defScope (top 16)) a.F__with_range cdv A outer s H Z) (defBody (top 16)) t_F__with_range := by
  intro cdv A outer s H Z hgd hr
  exact (psi_cons (psi_mkf (i := 3) sc_F__with_range.nd rfl (by first | exact Or.inl rfl | exact Or.inr rfl) (ppi_list rfl rfl rfl T.b_list (pai_cons (pi_v 0) pai_nil) (hv := rfl)))
    (psi_cons (psi_seto (i := 3) rfl (pi_v 2) (pi_v 1))
    (psi_one (psi_ret (pi_mkW (k := 5) (takes_of rfl rfl rfl rfl) (G_F_Span___init__.maker hgd (hr.mono (by decide)) rfl T.mk_Span T.mg_Span 0 (Nat.le_of_ble_eq_true rfl) (by exact Dfl.nil)) rfl (pai_cons (pi_ixo (i := 3) rfl pi_int) (pai_cons (pi_ixo (i := 3) rfl pi_int) (pai_cons (pi_ixo (i := 3) rfl pi_int) pai_nil))))))))
theorem sc_F_Span_less : FnScope ["self", "other", "pieces", "rest", "k", "low", "high", "piece"] ["self", "other"] (defScope (inClass (top 13) 4)) := ⟨rfl, rfl, rfl, by decide +kernel, rfl, by decide +kernel, by decide +kernel⟩
theorem b_F_Span_less (T : Txt K mg a) (G_F_Span___and__ : Good P w K mg base (EN T) 5 a.F_Span___and__ ["self", "other"] [] 2 m_F_Span___and__) (G_F_Span___bool__ : Good P w K mg base (EN T) 1 a.F_Span___bool__ ["self"] [] 1 m_F_Span___bool__) (G__with_range : Good P w K mg base (EN T) 5 a.F__with_range ["ranges", "at", "other"] [] 3 m_F__with_range) (G_common : Good P w K mg base (EN T) 2 a.F_common ["p", "q"] [] 2 m_F_common) : ∀ (cdv : Value) (A : Around) (outer : List Env) (s : Shared) (H : Hp) (Z : XK), A.guards = some [] → Room 5 (A.deeper (PyProof.Rows.envOfC "Span.less" (defScope (inClass (top 13) 4)) s.heap.objs.size a.F_Span_less cdv)) →
    PSsI ⟨EN T, o_F_Span_less, WZ Z⟩ (cxOf (L2.CX P w) P w K mg base ["self", "other", "pieces", "rest", "k", "low", "high", "piece"] "Span.less" (defScope (inClass (top 13) 4)) a.F_Span_less cdv A outer s H Z) (defBody (inClass (top 13) 4)) t_F_Span_less := by
  intro cdv A outer s H Z hgd hr
  exact (psi_cons (psi_if (pit_not (pit_tro (mi := 0) (tro_run (takes_of rfl rfl rfl rfl) ⟨(lk_cons (G_F_Span___bool__.slot (i := 59) hgd (hr.mono (by decide)) T.sl_F_Span___bool__) lk_nil)⟩) (pi_opm (mi := 1) (opi_own (by rfl) rfl (takes_of rfl rfl rfl rfl) ⟨(lk_cons (G_F_Span___and__.slot (i := 60) hgd (hr.mono (by decide)) T.sl_F_Span___and__) lk_nil)⟩ (sfN T)) (pi_v 0) (pi_v 1)))) (psi_one (psi_ret (pi_ite (pit_tro (mi := 0) (tro_run (takes_of rfl rfl rfl rfl) ⟨(lk_cons (G_F_Span___bool__.slot (i := 59) hgd (hr.mono (by decide)) T.sl_F_Span___bool__) lk_nil)⟩) (pi_v 0)) (pi_tup (pai_cons (pi_v 0) pai_nil)) (pi_tup pai_nil)))) psi_nil)
    (psi_cons (psi_mko (i := 2) sc_F_Span_less.nd rfl (by first | exact Or.inl rfl | exact Or.inr rfl) pai_nil)
    (psi_cons (psi_asg (pi_mkr (pai_cons (pi_fld (n := 10) rfl (pi_v 0) rfl) (pai_cons (pi_fld (n := 11) rfl (pi_v 0) rfl) (pai_cons (pi_fld (n := 12) rfl (pi_v 0) rfl) pai_nil)))) (pgi_one (i := 3) sc_F_Span_less.nd rfl (by first | exact Or.inl rfl | exact Or.inr rfl)))
    (psi_cons (psi_for PassesOwn.leaving rfl (pii_enmT rfl rfl T.b_enumerate (pi_tup (pai_cons (pi_fld (n := 10) rfl (pi_v 1) rfl) (pai_cons (pi_fld (n := 11) rfl (pi_v 1) rfl) (pai_cons (pi_fld (n := 12) rfl (pi_v 1) rfl) pai_nil))))) (pgi_nest (ts := [.inl 4, .inr [5, 6]]) rfl rfl (pgs_cons (pg_name (i := 4) sc_F_Span_less.nd rfl (by first | exact Or.inl rfl | exact Or.inr rfl)) (pgs_in (is := [5, 6]) rfl rfl (pgs_cons (pg_name (i := 5) sc_F_Span_less.nd rfl (by first | exact Or.inl rfl | exact Or.inr rfl)) (pgs_cons (pg_name (i := 6) sc_F_Span_less.nd rfl (by first | exact Or.inl rfl | exact Or.inr rfl)) pgs_nil)) rfl pgs_nil)) rfl) (psi_cons (psi_app (i := 2) rfl (pi_call (takes_of rfl rfl rfl rfl) (G__with_range.callee hgd (hr.mono (by decide)) T.mg_F__with_range T.kp_F__with_range 0 (Nat.le_of_ble_eq_true rfl) (by exact Dfl.nil)) rfl (pai_cons (pi_v 3) (pai_cons (pi_v 4) (pai_cons (pi_tup (pai_cons (pi_ix rfl (pi_ix rfl (pi_v 3) (pi_v 4)) pi_int) (pai_cons (pi_bin opi_sub (pi_v 5) pi_int) pai_nil))) pai_nil)))))
    (psi_cons (psi_app (i := 2) rfl (pi_call (takes_of rfl rfl rfl rfl) (G__with_range.callee hgd (hr.mono (by decide)) T.mg_F__with_range T.kp_F__with_range 0 (Nat.le_of_ble_eq_true rfl) (by exact Dfl.nil)) rfl (pai_cons (pi_v 3) (pai_cons (pi_v 4) (pai_cons (pi_tup (pai_cons (pi_bin opi_add (pi_v 6) pi_int) (pai_cons (pi_ix rfl (pi_ix rfl (pi_v 3) (pi_v 4)) pi_int) pai_nil))) pai_nil)))))
    (psi_one (psi_setr (pi_call (takes_of rfl rfl rfl rfl) (G_common.callee hgd (hr.mono (by decide)) T.mg_F_common T.kp_F_common 0 (Nat.le_of_ble_eq_true rfl) (by exact Dfl.nil)) rfl (pai_cons (pi_ix rfl (pi_v 3) (pi_v 4)) (pai_cons (pi_tup (pai_cons (pi_v 5) (pai_cons (pi_v 6) pai_nil))) pai_nil))) (pi_v 3) (pi_v 4))))))
    (psi_frz (i := 2) (psi_one (psi_ret (pi_bty (bii_tuple rfl) rfl T.b_tuple rfl (pai_cons (pi_lc rfl sc_F_Span_less.nd (pii_it rfl (pi_v 2)) (blk_cx (own := [("piece", 7)]) (by exact ⟨rfl, by decide +kernel, by decide +kernel, by decide +kernel, by decide +kernel⟩)) (pgc_one fun _ _ _ _ _ => pg_name (i := 7) sc_F_Span_less.nd rfl (by first | exact Or.inl rfl | exact Or.inr rfl)) (fun _ _ _ _ _ => ptsi_one (pit_tro (mi := 0) (tro_run takes0 ⟨(lk_cons (G_F_Span___bool__.slot (i := 59) hgd (hr.mono (by decide)) T.sl_F_Span___bool__) lk_nil)⟩) (pi_v 7))) (fun _ _ _ _ _ => (pi_v 7))) pai_nil)))))))))
theorem sc_F_Span_places_at : FnScope ["self", "number"] ["self", "number"] (defScope (inClass (top 13) 5)) := ⟨rfl, rfl, rfl, by decide +kernel, rfl, by decide +kernel, by decide +kernel⟩
theorem b_F_Span_places_at (T : Txt K mg a) (G_F_Span___bool__ : Good P w K mg base (EN T) 1 a.F_Span___bool__ ["self"] [] 1 m_F_Span___bool__) (G_common : Good P w K mg base (EN T) 2 a.F_common ["p", "q"] [] 2 m_F_common) (G_shifted : Good P w K mg base (EN T) 1 a.F_shifted ["p", "low", "high"] [] 3 m_F_shifted) : ∀ (cdv : Value) (A : Around) (outer : List Env) (s : Shared) (H : Hp) (Z : XK), A.guards = some [] → Room 2 (A.deeper (PyProof.Rows.envOfC "Span.places_at" (defScope (inClass (top 13) 5)) s.heap.objs.size a.F_Span_places_at cdv)) →
    PSsI ⟨EN T, o_F_Span_places_at, WZ Z⟩ (cxOf (L2.CX P w) P w K mg base ["self", "number"] "Span.places_at" (defScope (inClass (top 13) 5)) a.F_Span_places_at cdv A outer s H Z) (defBody (inClass (top 13) 5)) t_F_Span_places_at := by
  intro cdv A outer s H Z hgd hr
  exact (psi_cons (psi_if (pit_w (pwi_or (pit_not (pit_tro (mi := 0) (tro_run (takes_of rfl rfl rfl rfl) ⟨(lk_cons (G_F_Span___bool__.slot (i := 59) hgd (hr.mono (by decide)) T.sl_F_Span___bool__) lk_nil)⟩) (pi_v 0))) (pwi_or (pit_cmp opi_lt (pi_v 1) (pi_ix rfl (pi_fld (n := 10) rfl (pi_v 0) rfl) pi_int) (by rfl)) (pwi_or1 (pit_cmp opi_gt (pi_v 1) (pi_ix rfl (pi_fld (n := 10) rfl (pi_v 0) rfl) pi_int) (by rfl)))))) (psi_one (psi_ret pi_non)) psi_nil)
    (psi_one (psi_ret (pi_call (takes_of rfl rfl rfl rfl) (G_common.callee hgd (hr.mono (by decide)) T.mg_F_common T.kp_F_common 0 (Nat.le_of_ble_eq_true rfl) (by exact Dfl.nil)) rfl (pai_cons (pi_fld (n := 11) rfl (pi_v 0) rfl) (pai_cons (pi_call (takes_of rfl rfl rfl rfl) (G_shifted.callee hgd (hr.mono (by decide)) T.mg_F_shifted T.kp_F_shifted 0 (Nat.le_of_ble_eq_true rfl) (by exact Dfl.nil)) rfl (pai_cons (pi_fld (n := 12) rfl (pi_v 0) rfl) (pai_cons (pi_v 1) (pai_cons (pi_v 1) pai_nil)))) pai_nil))))))
theorem sc_F_Span___eq__ : FnScope ["self", "other"] ["self", "other"] (defScope (inClass (top 13) 13)) := ⟨rfl, rfl, rfl, by decide +kernel, rfl, by decide +kernel, by decide +kernel⟩
theorem b_F_Span___eq__ (T : Txt K mg a) : ∀ (cdv : Value) (A : Around) (outer : List Env) (s : Shared) (H : Hp) (Z : XK), A.guards = some [] → Room 0 (A.deeper (PyProof.Rows.envOfC "Span.__eq__" (defScope (inClass (top 13) 13)) s.heap.objs.size a.F_Span___eq__ cdv)) →
    PSsI ⟨EN T, o_F_Span___eq__, WZ Z⟩ (cxOf (L2.CX P w) P w K mg base ["self", "other"] "Span.__eq__" (defScope (inClass (top 13) 13)) a.F_Span___eq__ cdv A outer s H Z) (defBody (inClass (top 13) 13)) t_F_Span___eq__ := by
  intro cdv A outer s H Z hgd hr
  exact (psi_cons (psi_if (pit_not (pit_val (pi_isi rfl (kitc_Span T) rfl T.b_isinstance (pi_v 1) (pe_glob rfl T.mg_Span rfl)))) (psi_one (psi_ret pi_bl)) psi_nil)
    (psi_one (psi_ret (pi_and (pi_cmp (opi_eq rfl (hu64 hr)) (pi_fld (n := 10) rfl (pi_v 0) rfl) (pi_fld (n := 10) rfl (pi_v 1) rfl) (by rfl)) (pi_and (pi_cmp (opi_eq rfl (hu64 hr)) (pi_fld (n := 11) rfl (pi_v 0) rfl) (pi_fld (n := 11) rfl (pi_v 1) rfl) (by rfl)) (pi_one (pi_cmp (opi_eq rfl (hu64 hr)) (pi_fld (n := 12) rfl (pi_v 0) rfl) (pi_fld (n := 12) rfl (pi_v 1) rfl) (by rfl))))))))
theorem sc_F__law_feed : FnScope ["_law_script", "_law_k", "_law_great", "_law_seed"] ["_law_script", "_law_k"] (defScope (top 18)) := ⟨rfl, rfl, rfl, by decide +kernel, rfl, by decide +kernel, by decide +kernel⟩
theorem b_F__law_feed (T : Txt K mg a) : ∀ (cdv : Value) (A : Around) (outer : List Env) (s : Shared) (H : Hp) (Z : XK), A.guards = some [] → Room 0 (A.deeper (PyProof.Rows.envOfC "_law_feed" (defScope (top 18)) s.heap.objs.size a.F__law_feed cdv)) →
    PSsI ⟨EN T, o_F__law_feed, WZ Z⟩ (cxOf (L2.CX P w) P w K mg base ["_law_script", "_law_k", "_law_great", "_law_seed"] "_law_feed" (defScope (top 18)) a.F__law_feed cdv A outer s H Z) (defBody (top 18)) t_F__law_feed := by
  intro cdv A outer s H Z hgd hr
  exact (psi_cons (psi_asg (pi_bin opi_add (pi_bin opi_mulL pi_int (pi_v 1)) pi_int) (pgi_one (i := 2) sc_F__law_feed.nd rfl (by first | exact Or.inl rfl | exact Or.inr rfl)))
    (psi_cons (psi_if (pit_cmp opi_lt (pi_v 1) (pi_bi (bii_len rfl) rfl T.b_len rfl (pai_cons (pi_v 0) pai_nil)) (by rfl)) (psi_one (psi_asg (pi_bi (bii_abs) rfl T.b_abs rfl (pai_cons (pi_bty (bii_int) rfl T.b_int rfl (pai_cons (pi_ix rfl (pi_v 0) (pi_v 1)) pai_nil)) pai_nil)) (pgi_one (i := 2) sc_F__law_feed.nd rfl (by first | exact Or.inl rfl | exact Or.inr rfl)))) (psi_one (psi_if (pit_cmp opi_gt (pi_bi (bii_len rfl) rfl T.b_len rfl (pai_cons (pi_v 0) pai_nil)) pi_int (by rfl)) (psi_one (psi_asg (pi_bin opi_add (pi_v 2) (pi_bin opi_mulR (pi_bin opi_mod (pi_bty (bii_int) rfl T.b_int rfl (pai_cons (pi_ix rfl (pi_v 0) (pi_bin opi_mod (pi_bty (bii_int) rfl T.b_int rfl (pai_cons (pi_v 1) pai_nil)) (pi_bi (bii_len rfl) rfl T.b_len rfl (pai_cons (pi_v 0) pai_nil)))) pai_nil)) pi_int) pi_int)) (pgi_one (i := 2) sc_F__law_feed.nd rfl (by first | exact Or.inl rfl | exact Or.inr rfl)))) psi_nil)))
    (psi_cons (psi_asg (pi_bin opi_add (pi_bin opi_mod (pi_bty (bii_int) rfl T.b_int rfl (pai_cons (pi_bin opi_add (pi_bin opi_add (pi_bin opi_mulR (pi_bin opi_mod (pi_bty (bii_int) rfl T.b_int rfl (pai_cons (pi_v 2) pai_nil)) pi_int) pi_int) (pi_bin opi_mulL pi_int (pi_v 1))) pi_int) pai_nil)) pi_int) pi_int) (pgi_one (i := 3) sc_F__law_feed.nd rfl (by first | exact Or.inl rfl | exact Or.inr rfl)))
    (psi_one (psi_ret (pi_mkr (pai_cons (pi_ite (pit_cmp opi_ge (pi_v 2) (pi_bin opi_pow pi_int pi_int) (by rfl)) (pi_v 2) pi_int) (pai_cons (pi_v 3) (pai_cons pi_int pai_nil)))))))))
theorem sc_F__law_take : FnScope ["_law_box", "_law_many", "_law_digit", "_law_near"] ["_law_box", "_law_many"] (defScope (top 19)) := ⟨rfl, rfl, rfl, by decide +kernel, rfl, by decide +kernel, by decide +kernel⟩
theorem b_F__law_take (T : Txt K mg a) : ∀ (cdv : Value) (A : Around) (outer : List Env) (s : Shared) (H : Hp) (Z : XK), A.guards = some [] → Room 0 (A.deeper (PyProof.Rows.envOfC "_law_take" (defScope (top 19)) s.heap.objs.size a.F__law_take cdv)) →
    PSsI ⟨EN T, o_F__law_take, WZ Z⟩ (cxOf (L2.CX P w) P w K mg base ["_law_box", "_law_many", "_law_digit", "_law_near"] "_law_take" (defScope (top 19)) a.F__law_take cdv A outer s H Z) (defBody (top 19)) t_F__law_take := by
  intro cdv A outer s H Z hgd hr
  exact (psi_cons (psi_if (pit_cmp opi_gt (pi_ix rfl (pi_v 0) pi_int) pi_int (by rfl)) (psi_cons (psi_asg (pi_bin opi_mod (pi_bty (bii_int) rfl T.b_int rfl (pai_cons (pi_ix rfl (pi_v 0) pi_int) pai_nil)) (pi_v 1)) (pgi_one (i := 2) sc_F__law_take.nd rfl (by first | exact Or.inl rfl | exact Or.inr rfl)))
    (psi_cons (psi_setr (pi_bin opi_fdivW (pi_ix rfl (pi_v 0) pi_int) (pi_v 1)) (pi_v 0) pi_int)
    (psi_one (psi_ret (pi_v 2))))) psi_nil)
    (psi_cons (psi_setr (pi_bin opi_add (pi_ix rfl (pi_v 0) pi_int) pi_int) (pi_v 0) pi_int)
    (psi_cons (psi_asg (pi_bin opi_mod (pi_bty (bii_int) rfl T.b_int rfl (pai_cons (pi_bin opi_mulR (pi_bin opi_add (pi_ix rfl (pi_v 0) pi_int) (pi_bin opi_mulL pi_int (pi_ix rfl (pi_v 0) pi_int))) pi_int) pai_nil)) pi_int) (pgi_one (i := 3) sc_F__law_take.nd rfl (by first | exact Or.inl rfl | exact Or.inr rfl)))
    (psi_cons (psi_setr (pi_bin opi_add (pi_bin opi_mod (pi_bty (bii_int) rfl T.b_int rfl (pai_cons (pi_bin opi_add (pi_bin opi_mulR (pi_v 3) pi_int) pi_int) pai_nil)) pi_int) pi_int) (pi_v 0) pi_int)
    (psi_one (psi_ret (pi_bin opi_mod (pi_bty (bii_int) rfl T.b_int rfl (pai_cons (pi_bin opi_fdiv (pi_bin opi_add (pi_bin opi_mulR (pi_v 3) pi_int) (pi_ix rfl (pi_v 0) pi_int)) pi_int) pai_nil)) (pi_v 1))))))))
theorem sc_F__law_pick : FnScope ["_law_box", "_law_some"] ["_law_box", "_law_some"] (defScope (top 20)) := ⟨rfl, rfl, rfl, by decide +kernel, rfl, by decide +kernel, by decide +kernel⟩
theorem b_F__law_pick (T : Txt K mg a) (G__law_take : Good P w K mg base (EN T) 1 a.F__law_take ["_law_box", "_law_many"] [] 2 m_F__law_take) : ∀ (cdv : Value) (A : Around) (outer : List Env) (s : Shared) (H : Hp) (Z : XK), A.guards = some [] → Room 1 (A.deeper (PyProof.Rows.envOfC "_law_pick" (defScope (top 20)) s.heap.objs.size a.F__law_pick cdv)) →
    PSsI ⟨EN T, o_F__law_pick, WZ Z⟩ (cxOf (L2.CX P w) P w K mg base ["_law_box", "_law_some"] "_law_pick" (defScope (top 20)) a.F__law_pick cdv A outer s H Z) (defBody (top 20)) t_F__law_pick := by
  intro cdv A outer s H Z hgd hr
  exact (psi_one (psi_ret (pi_ix rfl (pi_v 1) (pi_call (takes_of rfl rfl rfl rfl) (G__law_take.callee hgd (hr.mono (by decide)) T.mg_F__law_take T.kp_F__law_take 0 (Nat.le_of_ble_eq_true rfl) (by exact Dfl.nil)) rfl (pai_cons (pi_v 0) (pai_cons (pi_bi (bii_len rfl) rfl T.b_len rfl (pai_cons (pi_v 1) pai_nil)) pai_nil))))))
theorem sc_F__law_bounds : FnScope ["_law_box", "_law_found", "_law_part", "_law_low"] ["_law_box"] (defScope (top 21)) := ⟨rfl, rfl, rfl, by decide +kernel, rfl, by decide +kernel, by decide +kernel⟩
theorem b_F__law_bounds (T : Txt K mg a) (G__law_take : Good P w K mg base (EN T) 1 a.F__law_take ["_law_box", "_law_many"] [] 2 m_F__law_take) (G__law_pick : Good P w K mg base (EN T) 2 a.F__law_pick ["_law_box", "_law_some"] [] 2 m_F__law_pick) : ∀ (cdv : Value) (A : Around) (outer : List Env) (s : Shared) (H : Hp) (Z : XK), A.guards = some [] → Room 2 (A.deeper (PyProof.Rows.envOfC "_law_bounds" (defScope (top 21)) s.heap.objs.size a.F__law_bounds cdv)) →
    PSsI ⟨EN T, o_F__law_bounds, WZ Z⟩ (cxOf (L2.CX P w) P w K mg base ["_law_box", "_law_found", "_law_part", "_law_low"] "_law_bounds" (defScope (top 21)) a.F__law_bounds cdv A outer s H Z) (defBody (top 21)) t_F__law_bounds := by
  intro cdv A outer s H Z hgd hr
  exact (psi_cons (psi_mko (i := 1) sc_F__law_bounds.nd rfl (by first | exact Or.inl rfl | exact Or.inr rfl) pai_nil)
    (psi_cons (psi_for PassesOwn.leaving rfl (pii_rng1 rfl T.b_range pi_int) (pgi_one (i := 2) sc_F__law_bounds.nd rfl (by first | exact Or.inl rfl | exact Or.inr rfl)) (psi_cons (psi_asg (pi_bin opi_sub (pi_call (takes_of rfl rfl rfl rfl) (G__law_take.callee hgd (hr.mono (by decide)) T.mg_F__law_take T.kp_F__law_take 0 (Nat.le_of_ble_eq_true rfl) (by exact Dfl.nil)) rfl (pai_cons (pi_v 0) (pai_cons pi_int pai_nil))) pi_int) (pgi_one (i := 3) sc_F__law_bounds.nd rfl (by first | exact Or.inl rfl | exact Or.inr rfl)))
    (psi_one (psi_app (i := 1) rfl (pi_tup (pai_cons (pi_v 3) (pai_cons (pi_bin opi_sub (pi_bin opi_add (pi_v 3) (pi_call (takes_of rfl rfl rfl rfl) (G__law_take.callee hgd (hr.mono (by decide)) T.mg_F__law_take T.kp_F__law_take 0 (Nat.le_of_ble_eq_true rfl) (by exact Dfl.nil)) rfl (pai_cons (pi_v 0) (pai_cons pi_int pai_nil)))) (pi_call (takes_of rfl rfl rfl rfl) (G__law_pick.callee hgd (hr.mono (by decide)) T.mg_F__law_pick T.kp_F__law_pick 0 (Nat.le_of_ble_eq_true rfl) (by exact Dfl.nil)) rfl (pai_cons (pi_v 0) (pai_cons (pi_lst (pai_cons pi_int (pai_cons pi_int (pai_cons pi_int (pai_cons pi_int (pai_cons pi_int pai_nil)))))) pai_nil)))) pai_nil)))))))
    (psi_frz (i := 1) (psi_one (psi_ret (pi_v 1))))))
theorem sc_F__law_listed : FnScope ["_law_span", "_law_found", "_law_b", "_law_near", "_law_t"] ["_law_span"] (defScope (top 22)) := ⟨rfl, rfl, rfl, by decide +kernel, rfl, by decide +kernel, by decide +kernel⟩
theorem b_F__law_listed (T : Txt K mg a) (G_F_Span_places_at : Good P w K mg base (EN T) 3 a.F_Span_places_at ["self", "number"] [] 2 m_F_Span_places_at) : ∀ (cdv : Value) (A : Around) (outer : List Env) (s : Shared) (H : Hp) (Z : XK), A.guards = some [] → Room 3 (A.deeper (PyProof.Rows.envOfC "_law_listed" (defScope (top 22)) s.heap.objs.size a.F__law_listed cdv)) →
    PSsI ⟨EN T, o_F__law_listed, WZ Z⟩ (cxOf (L2.CX P w) P w K mg base ["_law_span", "_law_found", "_law_b", "_law_near", "_law_t"] "_law_listed" (defScope (top 22)) a.F__law_listed cdv A outer s H Z) (defBody (top 22)) t_F__law_listed := by
  intro cdv A outer s H Z hgd hr
  exact (psi_cons (psi_mko (i := 1) sc_F__law_listed.nd rfl (by first | exact Or.inl rfl | exact Or.inr rfl) pai_nil)
    (psi_cons (psi_if (pit_cmp opi_isn (pi_fld (n := 10) rfl (pi_v 0) rfl) pi_non (by rfl)) (psi_frz (i := 1) (psi_one (psi_ret (pi_v 1)))) psi_nil)
    (psi_cons (psi_for PassesOwn.leaving rfl (pii_rng2 rfl T.b_range (pi_ix rfl (pi_fld (n := 10) rfl (pi_v 0) rfl) pi_int) (pi_bin opi_add (pi_ix rfl (pi_fld (n := 10) rfl (pi_v 0) rfl) pi_int) pi_int)) (pgi_one (i := 2) sc_F__law_listed.nd rfl (by first | exact Or.inl rfl | exact Or.inr rfl)) (psi_cons (psi_asg (pi_meth (mi := 3) rfl (takes_of rfl rfl rfl rfl) ⟨noat_places_at, (lk_cons (G_F_Span_places_at.way (i := 57) hgd (hr.mono (by decide)) T.me_F_Span_places_at 0 (Nat.le_of_ble_eq_true rfl) (by exact Dfl.nil)) lk_nil)⟩ (pi_v 0) (pai_cons (pi_v 2) pai_nil)) (pgi_one (i := 3) sc_F__law_listed.nd rfl (by first | exact Or.inl rfl | exact Or.inr rfl)))
    (psi_one (psi_extv (j := 1) rfl (pi_lc rfl sc_F__law_listed.nd (pii_rng2 rfl T.b_range (pi_ix rfl (pi_v 3) pi_int) (pi_bin opi_add (pi_ix rfl (pi_v 3) pi_int) pi_int)) (blk_cx (own := [("_law_t", 4)]) (by exact ⟨rfl, by decide +kernel, by decide +kernel, by decide +kernel, by decide +kernel⟩)) (pgc_one fun _ _ _ _ _ => pg_name (i := 4) sc_F__law_listed.nd rfl (by first | exact Or.inl rfl | exact Or.inr rfl)) (fun _ _ _ _ _ => ptsi_nil) (fun _ _ _ _ _ => (pi_tup (pai_cons (pi_v 2) (pai_cons (pi_v 4) pai_nil)))))))))
    (psi_frz (i := 1) (psi_one (psi_ret (pi_v 1)))))))
theorem sc_F__law_all : FnScope ["_law_bounds_here", "_law_found", "_law_b", "_law_t"] ["_law_bounds_here"] (defScope (top 23)) := ⟨rfl, rfl, rfl, by decide +kernel, rfl, by decide +kernel, by decide +kernel⟩
theorem b_F__law_all (T : Txt K mg a) : ∀ (cdv : Value) (A : Around) (outer : List Env) (s : Shared) (H : Hp) (Z : XK), A.guards = some [] → Room 0 (A.deeper (PyProof.Rows.envOfC "_law_all" (defScope (top 23)) s.heap.objs.size a.F__law_all cdv)) →
    PSsI ⟨EN T, o_F__law_all, WZ Z⟩ (cxOf (L2.CX P w) P w K mg base ["_law_bounds_here", "_law_found", "_law_b", "_law_t"] "_law_all" (defScope (top 23)) a.F__law_all cdv A outer s H Z) (defBody (top 23)) t_F__law_all := by
  intro cdv A outer s H Z hgd hr
  exact (psi_cons (psi_mko (i := 1) sc_F__law_all.nd rfl (by first | exact Or.inl rfl | exact Or.inr rfl) pai_nil)
    (psi_cons (psi_for PassesOwn.leaving rfl (pii_rng2 rfl T.b_range (pi_ix rfl (pi_ix rfl (pi_v 0) pi_int) pi_int) (pi_bin opi_add (pi_ix rfl (pi_ix rfl (pi_v 0) pi_int) pi_int) pi_int)) (pgi_one (i := 2) sc_F__law_all.nd rfl (by first | exact Or.inl rfl | exact Or.inr rfl)) (psi_one (psi_for PassesOwn.leaving rfl (pii_rng2 rfl T.b_range (pi_ix rfl (pi_ix rfl (pi_v 0) pi_int) pi_int) (pi_bin opi_add (pi_ix rfl (pi_ix rfl (pi_v 0) pi_int) pi_int) pi_int)) (pgi_one (i := 3) sc_F__law_all.nd rfl (by first | exact Or.inl rfl | exact Or.inr rfl)) (psi_one (psi_extv (j := 1) rfl (pi_ite (pit_ch opi_le opi_le (pi_ix rfl (pi_ix rfl (pi_v 0) pi_int) pi_int) (pi_bin opi_sub (pi_v 3) (pi_v 2)) (pi_ix rfl (pi_ix rfl (pi_v 0) pi_int) pi_int)) (pi_lst (pai_cons (pi_tup (pai_cons (pi_v 2) (pai_cons (pi_v 3) pai_nil))) pai_nil)) (pi_lst pai_nil)))))))
    (psi_frz (i := 1) (psi_one (psi_ret (pi_v 1))))))
theorem sc_F__law_sorted : FnScope ["_law_pairs", "_law_codes", "_law_found", "_law_code", "_law_pair", "_law_one", "_law_two"] ["_law_pairs"] (defScope (top 24)) := ⟨rfl, rfl, rfl, by decide +kernel, rfl, by decide +kernel, by decide +kernel⟩
theorem b_F__law_sorted (T : Txt K mg a) : ∀ (cdv : Value) (A : Around) (outer : List Env) (s : Shared) (H : Hp) (Z : XK), A.guards = some [] → Room 0 (A.deeper (PyProof.Rows.envOfC "_law_sorted" (defScope (top 24)) s.heap.objs.size a.F__law_sorted cdv)) →
    PSsI ⟨EN T, o_F__law_sorted, WZ Z⟩ (cxOf (L2.CX P w) P w K mg base ["_law_pairs", "_law_codes", "_law_found", "_law_code", "_law_pair", "_law_one", "_law_two"] "_law_sorted" (defScope (top 24)) a.F__law_sorted cdv A outer s H Z) (defBody (top 24)) t_F__law_sorted := by
  intro cdv A outer s H Z hgd hr
  exact (psi_cons (psi_asg (pi_bi (bii_sort rfl) rfl T.b_sorted rfl (pai_cons (pi_lc rfl sc_F__law_sorted.nd (pii_it rfl (pi_v 0)) (blk_cx (own := [("_law_one", 5), ("_law_two", 6)]) (by exact ⟨rfl, by decide +kernel, by decide +kernel, by decide +kernel, by decide +kernel⟩)) (pgc_tup (is := [5, 6]) rfl rfl rfl fun _ _ _ _ _ => pg_any rfl (pgs_cons (pg_name (i := 5) sc_F__law_sorted.nd rfl (by first | exact Or.inl rfl | exact Or.inr rfl)) (pgs_cons (pg_name (i := 6) sc_F__law_sorted.nd rfl (by first | exact Or.inl rfl | exact Or.inr rfl)) pgs_nil)) rfl rfl) (fun _ _ _ _ _ => ptsi_nil) (fun _ _ _ _ _ => (pi_bin opi_add (pi_bin opi_mulR (pi_bty (bii_int) rfl T.b_int rfl (pai_cons (pi_bin opi_add (pi_v 5) pi_int) pai_nil)) pi_int) (pi_bty (bii_int) rfl T.b_int rfl (pai_cons (pi_bin opi_add (pi_v 6) pi_int) pai_nil))))) pai_nil)) (pgi_one (i := 1) sc_F__law_sorted.nd rfl (by first | exact Or.inl rfl | exact Or.inr rfl)))
    (psi_cons (psi_mko (i := 2) sc_F__law_sorted.nd rfl (by first | exact Or.inl rfl | exact Or.inr rfl) pai_nil)
    (psi_cons (psi_for PassesOwn.leaving rfl (pii_it rfl (pi_v 1)) (pgi_one (i := 3) sc_F__law_sorted.nd rfl (by first | exact Or.inl rfl | exact Or.inr rfl)) (psi_cons (psi_asg (pi_tup (pai_cons (pi_bin opi_sub (pi_bin opi_fdiv (pi_v 3) pi_int) pi_int) (pai_cons (pi_bin opi_sub (pi_bin opi_mod (pi_bty (bii_int) rfl T.b_int rfl (pai_cons (pi_v 3) pai_nil)) pi_int) pi_int) pai_nil))) (pgi_one (i := 4) sc_F__law_sorted.nd rfl (by first | exact Or.inl rfl | exact Or.inr rfl)))
    (psi_one (psi_extv (j := 2) rfl (pi_ite (pit_w (pwi_and (pit_opo (i := 2) (opi_ne rfl (hu64 hr)) (pi_lst pai_nil) (by rfl)) (pwi_and1 (pit_cmp (opi_eq rfl (hu64 hr)) (pi_ixo (i := 2) rfl (pi_neg pi_int)) (pi_v 4) (by rfl))))) (pi_lst pai_nil) (pi_lst (pai_cons (pi_v 4) pai_nil)))))))
    (psi_frz (i := 2) (psi_one (psi_ret (pi_v 2)))))))
theorem sc_F__law_changed : FnScope ["_law_box", "_law_made", "_law_pairs", "_law_by", "_law_low", "_law_high", "_law_found", "_law_b", "_law_t", "_law_blur", "_law_s", "_law_e"] ["_law_box", "_law_made", "_law_pairs"] (defScope (top 25)) := ⟨rfl, rfl, rfl, by decide +kernel, rfl, by decide +kernel, by decide +kernel⟩
theorem b_F__law_changed (T : Txt K mg a) (G__law_take : Good P w K mg base (EN T) 1 a.F__law_take ["_law_box", "_law_many"] [] 2 m_F__law_take) (G_F_Span_stepped : Good P w K mg base (EN T) 5 a.F_Span_stepped ["self", "by", "low", "high"] [] 4 m_F_Span_stepped) (G__law_sorted : Good P w K mg base (EN T) 1 a.F__law_sorted ["_law_pairs"] [] 1 m_F__law_sorted) (G_F_Span_sighted : Good P w K mg base (EN T) 5 a.F_Span_sighted ["self", "low", "high", "blur"] [] 4 m_F_Span_sighted) : ∀ (cdv : Value) (A : Around) (outer : List Env) (s : Shared) (H : Hp) (Z : XK), A.guards = some [] → Room 5 (A.deeper (PyProof.Rows.envOfC "_law_changed" (defScope (top 25)) s.heap.objs.size a.F__law_changed cdv)) →
    PSsI ⟨EN T, o_F__law_changed, WZ Z⟩ (cxOf (L2.CX P w) P w K mg base ["_law_box", "_law_made", "_law_pairs", "_law_by", "_law_low", "_law_high", "_law_found", "_law_b", "_law_t", "_law_blur", "_law_s", "_law_e"] "_law_changed" (defScope (top 25)) a.F__law_changed cdv A outer s H Z) (defBody (top 25)) t_F__law_changed := by
  intro cdv A outer s H Z hgd hr
  exact (psi_cons (psi_if (pit_cmp opi_gt (pi_call (takes_of rfl rfl rfl rfl) (G__law_take.callee hgd (hr.mono (by decide)) T.mg_F__law_take T.kp_F__law_take 0 (Nat.le_of_ble_eq_true rfl) (by exact Dfl.nil)) rfl (pai_cons (pi_v 0) (pai_cons pi_int pai_nil))) pi_int (by rfl)) (psi_cons (psi_asg (pi_tup (pai_cons (pi_bin opi_sub (pi_call (takes_of rfl rfl rfl rfl) (G__law_take.callee hgd (hr.mono (by decide)) T.mg_F__law_take T.kp_F__law_take 0 (Nat.le_of_ble_eq_true rfl) (by exact Dfl.nil)) rfl (pai_cons (pi_v 0) (pai_cons pi_int pai_nil))) pi_int) (pai_cons (pi_bin opi_sub (pi_call (takes_of rfl rfl rfl rfl) (G__law_take.callee hgd (hr.mono (by decide)) T.mg_F__law_take T.kp_F__law_take 0 (Nat.le_of_ble_eq_true rfl) (by exact Dfl.nil)) rfl (pai_cons (pi_v 0) (pai_cons pi_int pai_nil))) pi_int) pai_nil))) (pgi_tup (is := [3, 4]) rfl rfl (pgs_cons (pg_name (i := 3) sc_F__law_changed.nd rfl (by first | exact Or.inl rfl | exact Or.inr rfl)) (pgs_cons (pg_name (i := 4) sc_F__law_changed.nd rfl (by first | exact Or.inl rfl | exact Or.inr rfl)) pgs_nil)) rfl))
    (psi_cons (psi_asg (pi_bin opi_add (pi_v 4) (pi_call (takes_of rfl rfl rfl rfl) (G__law_take.callee hgd (hr.mono (by decide)) T.mg_F__law_take T.kp_F__law_take 0 (Nat.le_of_ble_eq_true rfl) (by exact Dfl.nil)) rfl (pai_cons (pi_v 0) (pai_cons pi_int pai_nil)))) (pgi_one (i := 5) sc_F__law_changed.nd rfl (by first | exact Or.inl rfl | exact Or.inr rfl)))
    (psi_cons (psi_mko (i := 6) sc_F__law_changed.nd rfl (by first | exact Or.inl rfl | exact Or.inr rfl) pai_nil)
    (psi_cons (psi_for PassesOwn.leaving rfl (pii_it rfl (pi_v 2)) (pgi_tup (is := [7, 8]) rfl rfl (pgs_cons (pg_name (i := 7) sc_F__law_changed.nd rfl (by first | exact Or.inl rfl | exact Or.inr rfl)) (pgs_cons (pg_name (i := 8) sc_F__law_changed.nd rfl (by first | exact Or.inl rfl | exact Or.inr rfl)) pgs_nil)) rfl) (psi_one (psi_extv (j := 6) rfl (pi_lc rfl sc_F__law_changed.nd (pii_rng2 rfl T.b_range (pi_v 4) (pi_bin opi_add (pi_v 5) pi_int)) (blk_cx (own := [("_law_s", 10)]) (by exact ⟨rfl, by decide +kernel, by decide +kernel, by decide +kernel, by decide +kernel⟩)) (pgc_one fun _ _ _ _ _ => pg_name (i := 10) sc_F__law_changed.nd rfl (by first | exact Or.inl rfl | exact Or.inr rfl)) (fun _ _ _ _ _ => ptsi_nil) (fun _ _ _ _ _ => (pi_tup (pai_cons (pi_bin opi_add (pi_v 7) (pi_v 3)) (pai_cons (pi_bin opi_add (pi_bin opi_add (pi_v 8) (pi_v 3)) (pi_v 10)) pai_nil))))))))
    (psi_frz (i := 6) (psi_one (psi_ret (pi_tup (pai_cons (pi_meth (mi := 4) rfl (takes_of rfl rfl rfl rfl) ⟨noat_stepped, (lk_cons (G_F_Span_stepped.way (i := 54) hgd (hr.mono (by decide)) T.me_F_Span_stepped 0 (Nat.le_of_ble_eq_true rfl) (by exact Dfl.nil)) lk_nil)⟩ (pi_v 1) (pai_cons (pi_v 3) (pai_cons (pi_v 4) (pai_cons (pi_v 5) pai_nil)))) (pai_cons (pi_call (takes_of rfl rfl rfl rfl) (G__law_sorted.callee hgd (hr.mono (by decide)) T.mg_F__law_sorted T.kp_F__law_sorted 0 (Nat.le_of_ble_eq_true rfl) (by exact Dfl.nil)) rfl (pai_cons (pi_v 6) pai_nil)) pai_nil)))))))))) psi_nil)
    (psi_cons (psi_par (i := 4) (j := 9) rfl sc_F__law_changed.nd rfl rfl (by decide) rfl rfl (pai_cons (pi_bin opi_sub (pi_call (takes_of rfl rfl rfl rfl) (G__law_take.callee hgd (hr.mono (by decide)) T.mg_F__law_take T.kp_F__law_take 0 (Nat.le_of_ble_eq_true rfl) (by exact Dfl.nil)) rfl (pai_cons (pi_v 0) (pai_cons pi_int pai_nil))) pi_int) (pai_cons (pi_call (takes_of rfl rfl rfl rfl) (G__law_take.callee hgd (hr.mono (by decide)) T.mg_F__law_take T.kp_F__law_take 0 (Nat.le_of_ble_eq_true rfl) (by exact Dfl.nil)) rfl (pai_cons (pi_v 0) (pai_cons pi_int pai_nil))) pai_nil)) (by rfl))
    (psi_cons (psi_par2 (i := 5) (j := 6) (p := false) (q := true) rfl sc_F__law_changed.nd rfl rfl (by decide) rfl rfl (ppi_v (pi_bin opi_add (pi_v 4) (pi_call (takes_of rfl rfl rfl rfl) (G__law_take.callee hgd (hr.mono (by decide)) T.mg_F__law_take T.kp_F__law_take 0 (Nat.le_of_ble_eq_true rfl) (by exact Dfl.nil)) rfl (pai_cons (pi_v 0) (pai_cons pi_int pai_nil))))) (ppi_lst pai_nil) (by rfl))
    (psi_cons (psi_for PassesOwn.leaving rfl (pii_it rfl (pi_v 2)) (pgi_tup (is := [7, 8]) rfl rfl (pgs_cons (pg_name (i := 7) sc_F__law_changed.nd rfl (by first | exact Or.inl rfl | exact Or.inr rfl)) (pgs_cons (pg_name (i := 8) sc_F__law_changed.nd rfl (by first | exact Or.inl rfl | exact Or.inr rfl)) pgs_nil)) rfl) (psi_one (psi_extv (j := 6) rfl (pi_ite (pit_ch opi_le opi_le (pi_v 4) (pi_v 8) (pi_v 5)) (pi_lc rfl sc_F__law_changed.nd (pii_rng2 rfl T.b_range (pi_bin opi_sub pi_int (pi_v 9)) (pi_bin opi_add (pi_v 9) pi_int)) (blk_cx (own := [("_law_e", 11)]) (by exact ⟨rfl, by decide +kernel, by decide +kernel, by decide +kernel, by decide +kernel⟩)) (pgc_one fun _ _ _ _ _ => pg_name (i := 11) sc_F__law_changed.nd rfl (by first | exact Or.inl rfl | exact Or.inr rfl)) (fun _ _ _ _ _ => ptsi_nil) (fun _ _ _ _ _ => (pi_tup (pai_cons (pi_bin opi_sub (pi_v 8) (pi_v 11)) (pai_cons (pi_v 8) pai_nil))))) (pi_lst pai_nil)))))
    (psi_frz (i := 6) (psi_one (psi_ret (pi_tup (pai_cons (pi_meth (mi := 5) rfl (takes_of rfl rfl rfl rfl) ⟨noat_sighted, (lk_cons (G_F_Span_sighted.way (i := 55) hgd (hr.mono (by decide)) T.me_F_Span_sighted 0 (Nat.le_of_ble_eq_true rfl) (by exact Dfl.nil)) lk_nil)⟩ (pi_v 1) (pai_cons (pi_v 4) (pai_cons (pi_v 5) (pai_cons (pi_v 9) pai_nil)))) (pai_cons (pi_call (takes_of rfl rfl rfl rfl) (G__law_sorted.callee hgd (hr.mono (by decide)) T.mg_F__law_sorted T.kp_F__law_sorted 0 (Nat.le_of_ble_eq_true rfl) (by exact Dfl.nil)) rfl (pai_cons (pi_v 6) pai_nil)) pai_nil))))))))))
theorem sc_F_law : FnScope ["_law_script", "_law_k", "_law_box", "_law_turn", "_law_bounds_here", "_law_made", "_law_pairs", "_law_more", "_law_after", "_law_due", "_law_empty", "_law_some", "_law_one"] ["_law_script"] (defScope (top 26)) := ⟨rfl, rfl, rfl, by decide +kernel, rfl, by decide +kernel, by decide +kernel⟩
theorem b_F_law (T : Txt K mg a) (G__law_feed : Good P w K mg base (EN T) 1 a.F__law_feed ["_law_script", "_law_k"] [] 2 m_F__law_feed) (G__law_bounds : Good P w K mg base (EN T) 3 a.F__law_bounds ["_law_box"] [] 1 m_F__law_bounds) (G__law_all : Good P w K mg base (EN T) 1 a.F__law_all ["_law_bounds_here"] [] 1 m_F__law_all) (G__law_changed : Good P w K mg base (EN T) 6 a.F__law_changed ["_law_box", "_law_made", "_law_pairs"] [] 3 m_F__law_changed) (G__law_listed : Good P w K mg base (EN T) 4 a.F__law_listed ["_law_span"] [] 1 m_F__law_listed) (G_F_Span_total : Good P w K mg base (EN T) 2 a.F_Span_total ["self"] [] 1 m_F_Span_total) (G_F_Span___bool__ : Good P w K mg base (EN T) 1 a.F_Span___bool__ ["self"] [] 1 m_F_Span___bool__) (G_F_Span_stepped : Good P w K mg base (EN T) 5 a.F_Span_stepped ["self", "by", "low", "high"] [] 4 m_F_Span_stepped) (G_F_Span_sighted : Good P w K mg base (EN T) 5 a.F_Span_sighted ["self", "low", "high", "blur"] [] 4 m_F_Span_sighted) (G_F_Span___and__ : Good P w K mg base (EN T) 5 a.F_Span___and__ ["self", "other"] [] 2 m_F_Span___and__) (G_F_Span___eq__ : Good P w K mg base (EN T) 1 a.F_Span___eq__ ["self", "other"] [] 2 m_F_Span___eq__) (G_F_Span_less : Good P w K mg base (EN T) 6 a.F_Span_less ["self", "other"] [] 2 m_F_Span_less) (G_F_Span___init__ : GoodN P w K mg base (EN T) 3 a.F_Span___init__ ["self", "belief", "place", "error"] [] 3 5 m_F_Span___init__) : ∀ (cdv : Value) (A : Around) (outer : List Env) (s : Shared) (H : Hp) (Z : XK), A.guards = some [] → Room 8 (A.deeper (PyProof.Rows.envOfC "law" (defScope (top 26)) s.heap.objs.size a.F_law cdv)) →
    PSsI ⟨EN T, o_F_law, WZ Z⟩ (cxOf (L2.CX P w) P w K mg base ["_law_script", "_law_k", "_law_box", "_law_turn", "_law_bounds_here", "_law_made", "_law_pairs", "_law_more", "_law_after", "_law_due", "_law_empty", "_law_some", "_law_one"] "law" (defScope (top 26)) a.F_law cdv A outer s H Z) (defBody (top 26)) t_F_law := by
  intro cdv A outer s H Z hgd hr
  exact (psi_cons (psi_for PassesOwn.leaving rfl (pii_rng1 rfl T.b_range (pi_bi (bii_max2 rfl) rfl T.b_max rfl (pai_cons pi_int (pai_cons (pi_bi (bii_min2 rfl) rfl T.b_min rfl (pai_cons pi_int (pai_cons (pi_bi (bii_len rfl) rfl T.b_len rfl (pai_cons (pi_v 0) pai_nil)) pai_nil))) pai_nil)))) (pgi_one (i := 1) sc_F_law.nd rfl (by first | exact Or.inl rfl | exact Or.inr rfl)) (psi_cons (psi_asg (pi_call (takes_of rfl rfl rfl rfl) (G__law_feed.callee hgd (hr.mono (by decide)) T.mg_F__law_feed T.kp_F__law_feed 0 (Nat.le_of_ble_eq_true rfl) (by exact Dfl.nil)) rfl (pai_cons (pi_v 0) (pai_cons (pi_v 1) pai_nil))) (pgi_one (i := 2) sc_F_law.nd rfl (by first | exact Or.inl rfl | exact Or.inr rfl)))
    (psi_one (psi_for PassesOwn.leaving rfl (pii_rng1 rfl T.b_range pi_int) (pgi_one (i := 3) sc_F_law.nd rfl (by first | exact Or.inl rfl | exact Or.inr rfl)) (psi_cons (psi_asg (pi_call (takes_of rfl rfl rfl rfl) (G__law_bounds.callee hgd (hr.mono (by decide)) T.mg_F__law_bounds T.kp_F__law_bounds 0 (Nat.le_of_ble_eq_true rfl) (by exact Dfl.nil)) rfl (pai_cons (pi_v 2) pai_nil)) (pgi_one (i := 4) sc_F_law.nd rfl (by first | exact Or.inl rfl | exact Or.inr rfl)))
    (psi_cons (psi_par (i := 5) (j := 6) rfl sc_F_law.nd rfl rfl (by decide) rfl rfl (pai_cons (pi_mkW (k := 5) (takes_of rfl rfl rfl rfl) (G_F_Span___init__.maker hgd (hr.mono (by decide)) rfl T.mk_Span T.mg_Span 0 (Nat.le_of_ble_eq_true rfl) (by exact Dfl.nil)) rfl (pai_cons (pi_ix rfl (pi_v 4) pi_int) (pai_cons (pi_ix rfl (pi_v 4) pi_int) (pai_cons (pi_ix rfl (pi_v 4) pi_int) pai_nil)))) (pai_cons (pi_call (takes_of rfl rfl rfl rfl) (G__law_all.callee hgd (hr.mono (by decide)) T.mg_F__law_all T.kp_F__law_all 0 (Nat.le_of_ble_eq_true rfl) (by exact Dfl.nil)) rfl (pai_cons (pi_v 4) pai_nil)) pai_nil)) (by rfl))
    (psi_one (psi_for PassesOwn.leaving rfl (pii_rng1 rfl T.b_range pi_int) (pgi_one (i := 7) sc_F_law.nd rfl (by first | exact Or.inl rfl | exact Or.inr rfl)) (psi_cons (psi_asg (pi_call (takes_of rfl rfl rfl rfl) (G__law_changed.callee hgd (hr.mono (by decide)) T.mg_F__law_changed T.kp_F__law_changed 0 (Nat.le_of_ble_eq_true rfl) (by exact Dfl.nil)) rfl (pai_cons (pi_v 2) (pai_cons (pi_v 5) (pai_cons (pi_v 6) pai_nil)))) (pgi_tup (is := [8, 9]) rfl rfl (pgs_cons (pg_name (i := 8) sc_F_law.nd rfl (by first | exact Or.inl rfl | exact Or.inr rfl)) (pgs_cons (pg_name (i := 9) sc_F_law.nd rfl (by first | exact Or.inl rfl | exact Or.inr rfl)) pgs_nil)) rfl))
    (psi_cons (psi_if (pit_w (pwi_or (pit_cmp (opi_ne rfl (hu64 hr)) (pi_call (takes_of rfl rfl rfl rfl) (G__law_listed.callee hgd (hr.mono (by decide)) T.mg_F__law_listed T.kp_F__law_listed 0 (Nat.le_of_ble_eq_true rfl) (by exact Dfl.nil)) rfl (pai_cons (pi_v 5) pai_nil)) (pi_v 6) (by rfl)) (pwi_or (pit_cmp (opi_ne rfl (hu64 hr)) (pi_call (takes_of rfl rfl rfl rfl) (G__law_listed.callee hgd (hr.mono (by decide)) T.mg_F__law_listed T.kp_F__law_listed 0 (Nat.le_of_ble_eq_true rfl) (by exact Dfl.nil)) rfl (pai_cons (pi_v 8) pai_nil)) (pi_v 9) (by rfl)) (pwi_or1 (pit_cmp (opi_ne rfl (hu64 hr)) (pi_prp (mi := 2) rfl ⟨(lk_cons (G_F_Span_total.propy (i := 53) hgd (hr.mono (by decide)) T.pr_F_Span_total) lk_nil)⟩ (pi_v 8)) (pi_bi (bii_len rfl) rfl T.b_len rfl (pai_cons (pi_v 9) pai_nil)) (by rfl)))))) (psi_one (psi_ret pi_bl)) psi_nil)
    (psi_cons (psi_if (pit_w (pwi_or (pit_not (pit_val (pi_isi rfl (kitc_Span T) rfl T.b_isinstance (pi_v 8) (pe_glob rfl T.mg_Span rfl)))) (pwi_or1 (pit_cmp (opi_ne rfl (hu64 hr)) (pi_btro (mi := 0) (callB_own (takes_of rfl rfl rfl rfl) ⟨(lk_cons (G_F_Span___bool__.slotR (i := 59) (dn := 2) hgd (hr.mono (by decide)) T.sl_F_Span___bool__) lk_nil)⟩) rfl T.b_bool (pi_v 8)) (pi_cmp (opi_ne rfl (hu64 hr)) (pi_v 9) (pi_lst pai_nil) (by rfl)) (by rfl))))) (psi_one (psi_ret pi_bl)) psi_nil)
    (psi_one (psi_par (i := 5) (j := 6) rfl sc_F_law.nd rfl rfl (by decide) rfl rfl (pai_cons (pi_v 8) (pai_cons (pi_v 9) pai_nil)) (by rfl))))))))))))))
    (psi_cons (psi_asg (pi_mkW (k := 5) (takes_of rfl rfl rfl rfl) (G_F_Span___init__.maker hgd (hr.mono (by decide)) rfl T.mk_Span T.mg_Span 0 (Nat.le_of_ble_eq_true rfl) (by exact Dfl.nil)) rfl (pai_cons (pi_tup (pai_cons pi_int (pai_cons pi_int pai_nil))) (pai_cons (pi_tup (pai_cons pi_int (pai_cons pi_int pai_nil))) (pai_cons (pi_tup (pai_cons pi_int (pai_cons pi_int pai_nil))) pai_nil)))) (pgi_one (i := 10) sc_F_law.nd rfl (by first | exact Or.inl rfl | exact Or.inr rfl)))
    (psi_cons (psi_asg (pi_lst (pai_cons (pi_meth (mi := 4) rfl (takes_of rfl rfl rfl rfl) ⟨noat_stepped, (lk_cons (G_F_Span_stepped.way (i := 54) hgd (hr.mono (by decide)) T.me_F_Span_stepped 0 (Nat.le_of_ble_eq_true rfl) (by exact Dfl.nil)) lk_nil)⟩ (pi_v 10) (pai_cons pi_int (pai_cons pi_int (pai_cons pi_int pai_nil)))) (pai_cons (pi_meth (mi := 5) rfl (takes_of rfl rfl rfl rfl) ⟨noat_sighted, (lk_cons (G_F_Span_sighted.way (i := 55) hgd (hr.mono (by decide)) T.me_F_Span_sighted 0 (Nat.le_of_ble_eq_true rfl) (by exact Dfl.nil)) lk_nil)⟩ (pi_v 10) (pai_cons pi_int (pai_cons pi_int (pai_cons pi_int pai_nil)))) (pai_cons (pi_opm (mi := 1) (opi_own (by rfl) rfl (takes_of rfl rfl rfl rfl) ⟨(lk_cons (G_F_Span___and__.slot (i := 60) hgd (hr.mono (by decide)) T.sl_F_Span___and__) lk_nil)⟩ (sfN T)) (pi_v 10) (pi_mkW (k := 5) (takes_of rfl rfl rfl rfl) (G_F_Span___init__.maker hgd (hr.mono (by decide)) rfl T.mk_Span T.mg_Span 0 (Nat.le_of_ble_eq_true rfl) (by exact Dfl.nil)) rfl (pai_cons (pi_tup (pai_cons pi_int (pai_cons pi_int pai_nil))) (pai_cons (pi_tup (pai_cons pi_int (pai_cons pi_int pai_nil))) (pai_cons (pi_tup (pai_cons pi_int (pai_cons pi_int pai_nil))) pai_nil))))) pai_nil)))) (pgi_one (i := 11) sc_F_law.nd rfl (by first | exact Or.inl rfl | exact Or.inr rfl)))
    (psi_one (psi_ret (pi_and (pi_cmp (opi_eq rfl (hu64 hr)) (pi_lc rfl sc_F_law.nd (pii_it rfl (pi_v 11)) (blk_cx (own := [("_law_one", 12)]) (by exact ⟨rfl, by decide +kernel, by decide +kernel, by decide +kernel, by decide +kernel⟩)) (pgc_one fun _ _ _ _ _ => pg_name (i := 12) sc_F_law.nd rfl (by first | exact Or.inl rfl | exact Or.inr rfl)) (fun _ _ _ _ _ => ptsi_one (pit_w (pwi_or (pit_eqo (opi_neo rfl hgd takes0 ⟨(lk_cons (G_F_Span___eq__.eqs (i := 65) hgd (hr.mono (by decide)) T.eq_Span) lk_nil)⟩ (subsN T)) (pi_v 12) (pi_v 10) (by rfl)) (pwi_or1 (pit_cmp opi_ntn (pi_fld (n := 10) rfl (pi_v 12) rfl) pi_non (by rfl)))))) (fun _ _ _ _ _ => (pi_v 12))) (pi_lst pai_nil) (by rfl)) (pi_one (pi_cmp (opi_eqE rfl (hu64 hr)) (pi_meth (mi := 6) rfl (takes_of rfl rfl rfl rfl) ⟨noat_less, (lk_cons (G_F_Span_less.way (i := 56) hgd (hr.mono (by decide)) T.me_F_Span_less 0 (Nat.le_of_ble_eq_true rfl) (by exact Dfl.nil)) lk_nil)⟩ (pi_v 10) (pai_cons (pi_v 10) pai_nil)) (pi_tup pai_nil) (by rfl)))))))))
theorem law_fn (T : Txt K mg a) {fd : FuncData} (F : FunD K "law" "law" (defArgs (top 26)) (defBody (top 26)) (defScope (top 26)) [] [] a.F_law fd) : FnG P w K mg base 9 a.F_law fd ["_law_script"] (spI (EN T) 1 m_F_law) := by
  have G_lesser : Good P w K mg base (EN T) 1 a.F_lesser ["p", "q"] [] 2 m_F_lesser := T.df_F_lesser.good (N := ["p", "q"]) (ps := ["p", "q"]) (o := o_F_lesser) (t := t_F_lesser) sc_F_lesser (by decide) (b_F_lesser T)
  have G_greater : Good P w K mg base (EN T) 1 a.F_greater ["p", "q"] [] 2 m_F_greater := T.df_F_greater.good (N := ["p", "q"]) (ps := ["p", "q"]) (o := o_F_greater) (t := t_F_greater) sc_F_greater (by decide) (b_F_greater T)
  have G_common : Good P w K mg base (EN T) 2 a.F_common ["p", "q"] [] 2 m_F_common := T.df_F_common.good (N := ["p", "q"]) (ps := ["p", "q"]) (o := o_F_common) (t := t_F_common) sc_F_common (by decide) (b_F_common T G_greater G_lesser)
  have G_shifted : Good P w K mg base (EN T) 1 a.F_shifted ["p", "low", "high"] [] 3 m_F_shifted := T.df_F_shifted.good (N := ["p", "low", "high"]) (ps := ["p", "low", "high"]) (o := o_F_shifted) (t := t_F_shifted) sc_F_shifted (by decide) (b_F_shifted T)
  have G_is_integer : Good P w K mg base (EN T) 1 a.F_is_integer ["value"] [] 1 m_F_is_integer := T.df_F_is_integer.good (N := ["value"]) (ps := ["value"]) (o := o_F_is_integer) (t := t_F_is_integer) sc_F_is_integer (by decide) (b_F_is_integer T)
  have G_is_cell : Good P w K mg base (EN T) 2 a.F_is_cell ["value"] [] 1 m_F_is_cell := T.df_F_is_cell.good (N := ["value"]) (ps := ["value"]) (o := o_F_is_cell) (t := t_F_is_cell) sc_F_is_cell (by decide) (b_F_is_cell T G_is_integer)
  have G_F_Span___init__ : GoodN P w K mg base (EN T) 3 a.F_Span___init__ ["self", "belief", "place", "error"] [] 3 5 m_F_Span___init__ := T.df_F_Span___init__.goodN (N := ["self", "belief", "place", "error", "tight", "low", "high"]) (ps := ["self", "belief", "place", "error"]) (n := 3) (c := 5) (o := o_F_Span___init__) (t := t_F_Span___init__) sc_F_Span___init__ rfl (by decide) rfl (b_F_Span___init__ T G_is_cell G_common)
  have G_F_Span___bool__ : Good P w K mg base (EN T) 1 a.F_Span___bool__ ["self"] [] 1 m_F_Span___bool__ := T.df_F_Span___bool__.good (N := ["self"]) (ps := ["self"]) (o := o_F_Span___bool__) (t := t_F_Span___bool__) sc_F_Span___bool__ (by decide) (b_F_Span___bool__ T)
  have G__triangle : Good P w K mg base (EN T) 1 a.F__triangle ["side"] [] 1 m_F__triangle := T.df_F__triangle.good (N := ["side"]) (ps := ["side"]) (o := o_F__triangle) (t := t_F__triangle) sc_F__triangle (by decide) (b_F__triangle T)
  have G_F_Span_total : Good P w K mg base (EN T) 2 a.F_Span_total ["self"] [] 1 m_F_Span_total := T.df_F_Span_total.good (N := ["self", "b_low", "b_high", "t_low", "t_high", "e_low", "e_high", "rectangle"]) (ps := ["self"]) (o := o_F_Span_total) (t := t_F_Span_total) sc_F_Span_total (by decide) (b_F_Span_total T G_F_Span___bool__ G__triangle)
  have G_F_Span_stepped : Good P w K mg base (EN T) 5 a.F_Span_stepped ["self", "by", "low", "high"] [] 4 m_F_Span_stepped := T.df_F_Span_stepped.good (N := ["self", "by", "low", "high"]) (ps := ["self", "by", "low", "high"]) (o := o_F_Span_stepped) (t := t_F_Span_stepped) sc_F_Span_stepped (by decide) (b_F_Span_stepped T G_F_Span___bool__ G_shifted G_F_Span___init__)
  have G_F_Span_sighted : Good P w K mg base (EN T) 5 a.F_Span_sighted ["self", "low", "high", "blur"] [] 4 m_F_Span_sighted := T.df_F_Span_sighted.good (N := ["self", "low", "high", "blur", "place"]) (ps := ["self", "low", "high", "blur"]) (o := o_F_Span_sighted) (t := t_F_Span_sighted) sc_F_Span_sighted (by decide) (b_F_Span_sighted T G_F_Span___bool__ G_common G_F_Span___init__)
  have G_F_Span___and__ : Good P w K mg base (EN T) 5 a.F_Span___and__ ["self", "other"] [] 2 m_F_Span___and__ := T.df_F_Span___and__.good (N := ["self", "other"]) (ps := ["self", "other"]) (o := o_F_Span___and__) (t := t_F_Span___and__) sc_F_Span___and__ (by decide) (b_F_Span___and__ T G_F_Span___bool__ G_common G_F_Span___init__)
  have G__with_range : Good P w K mg base (EN T) 5 a.F__with_range ["ranges", "at", "other"] [] 3 m_F__with_range := T.df_F__with_range.good (N := ["ranges", "at", "other", "replaced"]) (ps := ["ranges", "at", "other"]) (o := o_F__with_range) (t := t_F__with_range) sc_F__with_range (by decide) (b_F__with_range T G_F_Span___init__)
  have G_F_Span_less : Good P w K mg base (EN T) 6 a.F_Span_less ["self", "other"] [] 2 m_F_Span_less := T.df_F_Span_less.good (N := ["self", "other", "pieces", "rest", "k", "low", "high", "piece"]) (ps := ["self", "other"]) (o := o_F_Span_less) (t := t_F_Span_less) sc_F_Span_less (by decide) (b_F_Span_less T G_F_Span___and__ G_F_Span___bool__ G__with_range G_common)
  have G_F_Span_places_at : Good P w K mg base (EN T) 3 a.F_Span_places_at ["self", "number"] [] 2 m_F_Span_places_at := T.df_F_Span_places_at.good (N := ["self", "number"]) (ps := ["self", "number"]) (o := o_F_Span_places_at) (t := t_F_Span_places_at) sc_F_Span_places_at (by decide) (b_F_Span_places_at T G_F_Span___bool__ G_common G_shifted)
  have G_F_Span___eq__ : Good P w K mg base (EN T) 1 a.F_Span___eq__ ["self", "other"] [] 2 m_F_Span___eq__ := T.df_F_Span___eq__.good (N := ["self", "other"]) (ps := ["self", "other"]) (o := o_F_Span___eq__) (t := t_F_Span___eq__) sc_F_Span___eq__ (by decide) (b_F_Span___eq__ T)
  have G__law_feed : Good P w K mg base (EN T) 1 a.F__law_feed ["_law_script", "_law_k"] [] 2 m_F__law_feed := T.df_F__law_feed.good (N := ["_law_script", "_law_k", "_law_great", "_law_seed"]) (ps := ["_law_script", "_law_k"]) (o := o_F__law_feed) (t := t_F__law_feed) sc_F__law_feed (by decide) (b_F__law_feed T)
  have G__law_take : Good P w K mg base (EN T) 1 a.F__law_take ["_law_box", "_law_many"] [] 2 m_F__law_take := T.df_F__law_take.good (N := ["_law_box", "_law_many", "_law_digit", "_law_near"]) (ps := ["_law_box", "_law_many"]) (o := o_F__law_take) (t := t_F__law_take) sc_F__law_take (by decide) (b_F__law_take T)
  have G__law_pick : Good P w K mg base (EN T) 2 a.F__law_pick ["_law_box", "_law_some"] [] 2 m_F__law_pick := T.df_F__law_pick.good (N := ["_law_box", "_law_some"]) (ps := ["_law_box", "_law_some"]) (o := o_F__law_pick) (t := t_F__law_pick) sc_F__law_pick (by decide) (b_F__law_pick T G__law_take)
  have G__law_bounds : Good P w K mg base (EN T) 3 a.F__law_bounds ["_law_box"] [] 1 m_F__law_bounds := T.df_F__law_bounds.good (N := ["_law_box", "_law_found", "_law_part", "_law_low"]) (ps := ["_law_box"]) (o := o_F__law_bounds) (t := t_F__law_bounds) sc_F__law_bounds (by decide) (b_F__law_bounds T G__law_take G__law_pick)
  have G__law_listed : Good P w K mg base (EN T) 4 a.F__law_listed ["_law_span"] [] 1 m_F__law_listed := T.df_F__law_listed.good (N := ["_law_span", "_law_found", "_law_b", "_law_near", "_law_t"]) (ps := ["_law_span"]) (o := o_F__law_listed) (t := t_F__law_listed) sc_F__law_listed (by decide) (b_F__law_listed T G_F_Span_places_at)
  have G__law_all : Good P w K mg base (EN T) 1 a.F__law_all ["_law_bounds_here"] [] 1 m_F__law_all := T.df_F__law_all.good (N := ["_law_bounds_here", "_law_found", "_law_b", "_law_t"]) (ps := ["_law_bounds_here"]) (o := o_F__law_all) (t := t_F__law_all) sc_F__law_all (by decide) (b_F__law_all T)
  have G__law_sorted : Good P w K mg base (EN T) 1 a.F__law_sorted ["_law_pairs"] [] 1 m_F__law_sorted := T.df_F__law_sorted.good (N := ["_law_pairs", "_law_codes", "_law_found", "_law_code", "_law_pair", "_law_one", "_law_two"]) (ps := ["_law_pairs"]) (o := o_F__law_sorted) (t := t_F__law_sorted) sc_F__law_sorted (by decide) (b_F__law_sorted T)
  have G__law_changed : Good P w K mg base (EN T) 6 a.F__law_changed ["_law_box", "_law_made", "_law_pairs"] [] 3 m_F__law_changed := T.df_F__law_changed.good (N := ["_law_box", "_law_made", "_law_pairs", "_law_by", "_law_low", "_law_high", "_law_found", "_law_b", "_law_t", "_law_blur", "_law_s", "_law_e"]) (ps := ["_law_box", "_law_made", "_law_pairs"]) (o := o_F__law_changed) (t := t_F__law_changed) sc_F__law_changed (by decide) (b_F__law_changed T G__law_take G_F_Span_stepped G__law_sorted G_F_Span_sighted)
  exact fnI (N := ["_law_script", "_law_k", "_law_box", "_law_turn", "_law_bounds_here", "_law_made", "_law_pairs", "_law_more", "_law_after", "_law_due", "_law_empty", "_law_some", "_law_one"]) (ps := ["_law_script"]) (o := o_F_law) (t := t_F_law) F sc_F_law (by decide) (b_F_law T G__law_feed G__law_bounds G__law_all G__law_changed G__law_listed G_F_Span_total G_F_Span___bool__ G_F_Span_stepped G_F_Span_sighted G_F_Span___and__ G_F_Span___eq__ G_F_Span_less G_F_Span___init__)
end
/-- what the top has written -/
theorem txt_mk {K : PySem.W.Frag} {h : Heap} {mg : Str → Option Value} {p_F_Span_total c_Span c_InvalidSpan c_SightError F_lesser F_greater F_common F_shifted F_is_integer F_is_cell F_Span___init__ F_Span_total F_Span_stepped F_Span_sighted F_Span_less F_Span_places_at F_Span___bool__ F_Span___and__ F_Span___eq__ F__triangle F__with_range F__law_feed F__law_take F__law_pick F__law_bounds F__law_listed F__law_all F__law_sorted F__law_changed F_law F_InvalidSpan___init__ : Addr} {nm_InvalidSpan qn_InvalidSpan : Str} {N_InvalidSpan : Addr} {bs_InvalidSpan : List Value} {sn_InvalidSpan : List Str} {sb_InvalidSpan : List Value} {ab_InvalidSpan : Bool} {co_InvalidSpan : Option Bool} {dd_InvalidSpan : Option Addr} {m0_InvalidSpan m1_InvalidSpan m2_InvalidSpan m3_InvalidSpan m5_InvalidSpan : Option Value} {rr_F_Span_total : List Value} {oc_F_lesser kV_F_lesser dc_F_lesser pm_F_lesser cd_F_lesser ct_F_lesser oc_F_greater kV_F_greater dc_F_greater pm_F_greater cd_F_greater ct_F_greater oc_F_common kV_F_common dc_F_common pm_F_common cd_F_common ct_F_common oc_F_shifted kV_F_shifted dc_F_shifted pm_F_shifted cd_F_shifted ct_F_shifted oc_F_is_integer kV_F_is_integer dc_F_is_integer pm_F_is_integer cd_F_is_integer ct_F_is_integer oc_F_is_cell kV_F_is_cell dc_F_is_cell pm_F_is_cell cd_F_is_cell ct_F_is_cell oc_F_Span___init__ kV_F_Span___init__ dc_F_Span___init__ pm_F_Span___init__ cd_F_Span___init__ ct_F_Span___init__ oc_F_Span_total kV_F_Span_total dc_F_Span_total pm_F_Span_total cd_F_Span_total ct_F_Span_total oc_F_Span_stepped kV_F_Span_stepped dc_F_Span_stepped pm_F_Span_stepped cd_F_Span_stepped ct_F_Span_stepped oc_F_Span_sighted kV_F_Span_sighted dc_F_Span_sighted pm_F_Span_sighted cd_F_Span_sighted ct_F_Span_sighted oc_F_Span_less kV_F_Span_less dc_F_Span_less pm_F_Span_less cd_F_Span_less ct_F_Span_less oc_F_Span_places_at kV_F_Span_places_at dc_F_Span_places_at pm_F_Span_places_at cd_F_Span_places_at ct_F_Span_places_at oc_F_Span___bool__ kV_F_Span___bool__ dc_F_Span___bool__ pm_F_Span___bool__ cd_F_Span___bool__ ct_F_Span___bool__ oc_F_Span___and__ kV_F_Span___and__ dc_F_Span___and__ pm_F_Span___and__ cd_F_Span___and__ ct_F_Span___and__ oc_F_Span___eq__ kV_F_Span___eq__ dc_F_Span___eq__ pm_F_Span___eq__ cd_F_Span___eq__ ct_F_Span___eq__ oc_F__triangle kV_F__triangle dc_F__triangle pm_F__triangle cd_F__triangle ct_F__triangle oc_F__with_range kV_F__with_range dc_F__with_range pm_F__with_range cd_F__with_range ct_F__with_range oc_F__law_feed kV_F__law_feed dc_F__law_feed pm_F__law_feed cd_F__law_feed ct_F__law_feed oc_F__law_take kV_F__law_take dc_F__law_take pm_F__law_take cd_F__law_take ct_F__law_take oc_F__law_pick kV_F__law_pick dc_F__law_pick pm_F__law_pick cd_F__law_pick ct_F__law_pick oc_F__law_bounds kV_F__law_bounds dc_F__law_bounds pm_F__law_bounds cd_F__law_bounds ct_F__law_bounds oc_F__law_listed kV_F__law_listed dc_F__law_listed pm_F__law_listed cd_F__law_listed ct_F__law_listed oc_F__law_all kV_F__law_all dc_F__law_all pm_F__law_all cd_F__law_all ct_F__law_all oc_F__law_sorted kV_F__law_sorted dc_F__law_sorted pm_F__law_sorted cd_F__law_sorted ct_F__law_sorted oc_F__law_changed kV_F__law_changed dc_F__law_changed pm_F__law_changed cd_F__law_changed ct_F__law_changed oc_F_law kV_F_law dc_F_law pm_F_law cd_F_law ct_F_law oc_F_InvalidSpan___init__ kV_F_InvalidSpan___init__ dc_F_InvalidSpan___init__ pm_F_InvalidSpan___init__ cd_F_InvalidSpan___init__ ct_F_InvalidSpan___init__ : Value} {od_F_lesser an_F_lesser od_F_greater an_F_greater od_F_common an_F_common od_F_shifted an_F_shifted od_F_is_integer an_F_is_integer od_F_is_cell an_F_is_cell od_F_Span___init__ an_F_Span___init__ od_F_Span_total an_F_Span_total od_F_Span_stepped an_F_Span_stepped od_F_Span_sighted an_F_Span_sighted od_F_Span_less an_F_Span_less od_F_Span_places_at an_F_Span_places_at od_F_Span___bool__ an_F_Span___bool__ od_F_Span___and__ an_F_Span___and__ od_F_Span___eq__ an_F_Span___eq__ od_F__triangle an_F__triangle od_F__with_range an_F__with_range od_F__law_feed an_F__law_feed od_F__law_take an_F__law_take od_F__law_pick an_F__law_pick od_F__law_bounds an_F__law_bounds od_F__law_listed an_F__law_listed od_F__law_all an_F__law_all od_F__law_sorted an_F__law_sorted od_F__law_changed an_F__law_changed od_F_law an_F_law od_F_InvalidSpan___init__ an_F_InvalidSpan___init__ : Option Addr} {sl_F_lesser sl_F_greater sl_F_common sl_F_shifted sl_F_is_integer sl_F_is_cell sl_F_Span___init__ sl_F_Span_total sl_F_Span_stepped sl_F_Span_sighted sl_F_Span_less sl_F_Span_places_at sl_F_Span___bool__ sl_F_Span___and__ sl_F_Span___eq__ sl_F__triangle sl_F__with_range sl_F__law_feed sl_F__law_take sl_F__law_pick sl_F__law_bounds sl_F__law_listed sl_F__law_all sl_F__law_sorted sl_F__law_changed sl_F_law sl_F_InvalidSpan___init__ : Array (Option Value)} (X : K.In h) (G : h.Ns mainGlobals mg)
    (h_ogc : PySem.W.specialIn K (.builtin "object.__class__") "__get__" = some (some (.builtin "getset_descriptor.__get__")))
    (h_otk : PySem.W.takesIn K (.builtin "object.__class__") = some true)
    (n_Span : PySem.W.nsIn K mainGlobals "Span" = some (some (.ref c_Span)))
    (pg_Span : PySem.W.plainGet K c_Span Str.empty = true)
    (hd_Span : PySem.W.hasDictIn K c_Span = true)
    (po_Span : PySem.W.plainOver K c_Span = true)
    (sa_Span : PySem.W.findIn K (.ref c_Span) "__setattr__" = some (some (.builtin "object.__setattr__")))
    (mk_Span : PySem.W.makesIn K c_Span = true)
    (kc_Span : PySem.W.keepIn K (.ref c_Span) = true)
    (gc_Span : PySem.W.findIn K (.ref c_Span) "__class__" = some (some (.builtin "object.__class__")))
    (mr_Span : PySem.W.mroIn K c_Span (.type "object") = some true)
    (sf_Span : PySem.W.selfFirst K c_Span = true)
    (in_Span : PySem.W.findIn K (.ref c_Span) "__init__" = some (some (.ref F_Span___init__)))
    (if_Span : PySem.W.isFn K (.ref F_Span___init__) = true)
    (ef_Span : PySem.W.findIn K (.ref c_Span) "__eq__" = some (some (.ref F_Span___eq__)))
    (eg_Span : PySem.W.isFn K (.ref F_Span___eq__) = true)
    (en_Span : PySem.W.findIn K (.ref c_Span) "__ne__" = some (some (.builtin "object.__ne__")))
    (e0_Span : PySem.W.mroIn K c_Span (.type "NoneType") = some false)
    (e1_Span : PySem.W.mroIn K c_Span (.type "str") = some false)
    (e2_Span : PySem.W.mroIn K c_Span (.type "tuple") = some false)
    (tc_Span : PySem.W.typeIn K (.ref c_Span) = some (.type "type"))
    (su_Span_Span : PySem.W.mroIn K c_Span (.ref c_Span) = some true)
    (kt_Span_int : PySem.W.mroIn K c_Span (.type "int") = some false)
    (kt_Span_bool : PySem.W.mroIn K c_Span (.type "bool") = some false)
    (kt_Span_tuple : PySem.W.mroIn K c_Span (.type "tuple") = some false)
    (na_Span_belief : PySem.W.findIn K (.ref c_Span) "belief" = some none)
    (na_Span_place : PySem.W.findIn K (.ref c_Span) "place" = some none)
    (na_Span_error : PySem.W.findIn K (.ref c_Span) "error" = some none)
    (n_InvalidSpan : PySem.W.nsIn K mainGlobals "InvalidSpan" = some (some (.ref c_InvalidSpan)))
    (su_xl_InvalidSpan : K.lookup c_InvalidSpan = some (excClassObj nm_InvalidSpan qn_InvalidSpan c_InvalidSpan N_InvalidSpan bs_InvalidSpan [.ref c_SightError, .type "ValueError", .type "Exception", .type "BaseException", .type "object"] true sn_InvalidSpan sb_InvalidSpan ab_InvalidSpan co_InvalidSpan dd_InvalidSpan m0_InvalidSpan m1_InvalidSpan m2_InvalidSpan m3_InvalidSpan m5_InvalidSpan "ValueError.__new__"))
    (sa_InvalidSpan : PySem.W.findIn K (.ref c_InvalidSpan) "__setattr__" = some (some (.builtin "object.__setattr__")))
    (ex_InvalidSpan : PySem.W.subIn K (.ref c_InvalidSpan) (.type "BaseException") = some true)
    (tc_InvalidSpan : PySem.W.typeIn K (.ref c_InvalidSpan) = some (.type "type"))
    (kc_InvalidSpan : PySem.W.keepIn K (.ref c_InvalidSpan) = true)
    (ga_InvalidSpan : PySem.W.findIn K (.ref c_InvalidSpan) "__getattribute__" = some (some (.builtin "BaseException.__getattribute__")))
    (gg_InvalidSpan : PySem.W.findIn K (.ref c_InvalidSpan) "__getattr__" = some none)
    (hd_InvalidSpan : PySem.W.hasDictIn K c_InvalidSpan = true)
    (no_InvalidSpan : PySem.W.findIn K (.ref c_InvalidSpan) "word" = some none)
    (ii_InvalidSpan : PySem.W.findIn K (.ref c_InvalidSpan) "__init__" = some (some (.ref F_InvalidSpan___init__)))
    (ti_InvalidSpan : PySem.W.typeIn K (.ref F_InvalidSpan___init__) = some (.type "function"))
    (gc_InvalidSpan : PySem.W.findIn K (.ref c_InvalidSpan) "__class__" = some (some (.builtin "object.__class__")))
    (mr_InvalidSpan : PySem.W.mroIn K c_InvalidSpan (.type "object") = some true)
    (n_SightError : PySem.W.nsIn K mainGlobals "SightError" = some (some (.ref c_SightError)))
    (n_F_lesser : PySem.W.nsIn K mainGlobals "lesser" = some (some (.ref F_lesser)))
    (l_F_lesser : K.lookup F_lesser = some ⟨oc_F_lesser, od_F_lesser, .func (PySem.W.fnOf "lesser" "lesser" (defArgs (top 1)) (defBody (top 1)) (defScope (top 1)) .none kV_F_lesser dc_F_lesser pm_F_lesser an_F_lesser cd_F_lesser ct_F_lesser), sl_F_lesser⟩)
    (co_F_lesser : PySem.W.codeIn K cd_F_lesser "lesser" = true)
    (kp_F_lesser : PySem.W.keepIn K (.ref F_lesser) = true)
    (n_F_greater : PySem.W.nsIn K mainGlobals "greater" = some (some (.ref F_greater)))
    (l_F_greater : K.lookup F_greater = some ⟨oc_F_greater, od_F_greater, .func (PySem.W.fnOf "greater" "greater" (defArgs (top 2)) (defBody (top 2)) (defScope (top 2)) .none kV_F_greater dc_F_greater pm_F_greater an_F_greater cd_F_greater ct_F_greater), sl_F_greater⟩)
    (co_F_greater : PySem.W.codeIn K cd_F_greater "greater" = true)
    (kp_F_greater : PySem.W.keepIn K (.ref F_greater) = true)
    (n_F_common : PySem.W.nsIn K mainGlobals "common" = some (some (.ref F_common)))
    (l_F_common : K.lookup F_common = some ⟨oc_F_common, od_F_common, .func (PySem.W.fnOf "common" "common" (defArgs (top 3)) (defBody (top 3)) (defScope (top 3)) .none kV_F_common dc_F_common pm_F_common an_F_common cd_F_common ct_F_common), sl_F_common⟩)
    (co_F_common : PySem.W.codeIn K cd_F_common "common" = true)
    (kp_F_common : PySem.W.keepIn K (.ref F_common) = true)
    (n_F_shifted : PySem.W.nsIn K mainGlobals "shifted" = some (some (.ref F_shifted)))
    (l_F_shifted : K.lookup F_shifted = some ⟨oc_F_shifted, od_F_shifted, .func (PySem.W.fnOf "shifted" "shifted" (defArgs (top 5)) (defBody (top 5)) (defScope (top 5)) .none kV_F_shifted dc_F_shifted pm_F_shifted an_F_shifted cd_F_shifted ct_F_shifted), sl_F_shifted⟩)
    (co_F_shifted : PySem.W.codeIn K cd_F_shifted "shifted" = true)
    (kp_F_shifted : PySem.W.keepIn K (.ref F_shifted) = true)
    (n_F_is_integer : PySem.W.nsIn K mainGlobals "is_integer" = some (some (.ref F_is_integer)))
    (l_F_is_integer : K.lookup F_is_integer = some ⟨oc_F_is_integer, od_F_is_integer, .func (PySem.W.fnOf "is_integer" "is_integer" (defArgs (top 7)) (defBody (top 7)) (defScope (top 7)) .none kV_F_is_integer dc_F_is_integer pm_F_is_integer an_F_is_integer cd_F_is_integer ct_F_is_integer), sl_F_is_integer⟩)
    (co_F_is_integer : PySem.W.codeIn K cd_F_is_integer "is_integer" = true)
    (kp_F_is_integer : PySem.W.keepIn K (.ref F_is_integer) = true)
    (n_F_is_cell : PySem.W.nsIn K mainGlobals "is_cell" = some (some (.ref F_is_cell)))
    (l_F_is_cell : K.lookup F_is_cell = some ⟨oc_F_is_cell, od_F_is_cell, .func (PySem.W.fnOf "is_cell" "is_cell" (defArgs (top 8)) (defBody (top 8)) (defScope (top 8)) .none kV_F_is_cell dc_F_is_cell pm_F_is_cell an_F_is_cell cd_F_is_cell ct_F_is_cell), sl_F_is_cell⟩)
    (co_F_is_cell : PySem.W.codeIn K cd_F_is_cell "is_cell" = true)
    (kp_F_is_cell : PySem.W.keepIn K (.ref F_is_cell) = true)
    (l_F_Span___init__ : K.lookup F_Span___init__ = some ⟨oc_F_Span___init__, od_F_Span___init__, .func (PySem.W.fnOf "__init__" "Span.__init__" (defArgs (inClass (top 13) 0)) (defBody (inClass (top 13) 0)) (defScope (inClass (top 13) 0)) .none kV_F_Span___init__ dc_F_Span___init__ pm_F_Span___init__ an_F_Span___init__ cd_F_Span___init__ ct_F_Span___init__), sl_F_Span___init__⟩)
    (co_F_Span___init__ : PySem.W.codeIn K cd_F_Span___init__ "Span.__init__" = true)
    (kp_F_Span___init__ : PySem.W.keepIn K (.ref F_Span___init__) = true)
    (fi_F_Span_total : PySem.W.findIn K (.ref c_Span) "total" = some (some (.ref p_F_Span_total)))
    (pg_F_Span_total : PySem.W.specialIn K (.ref p_F_Span_total) "__get__" = some (some (.builtin "property.__get__")))
    (pt_F_Span_total : PySem.W.takesIn K (.ref p_F_Span_total) = some true)
    (px_F_Span_total : PySem.W.recIn K p_F_Span_total "property" = some (.ref F_Span_total :: rr_F_Span_total))
    (l_F_Span_total : K.lookup F_Span_total = some ⟨oc_F_Span_total, od_F_Span_total, .func (PySem.W.fnOf "total" "Span.total" (defArgs (inClass (top 13) 1)) (defBody (inClass (top 13) 1)) (defScope (inClass (top 13) 1)) .none kV_F_Span_total dc_F_Span_total pm_F_Span_total an_F_Span_total cd_F_Span_total ct_F_Span_total), sl_F_Span_total⟩)
    (co_F_Span_total : PySem.W.codeIn K cd_F_Span_total "Span.total" = true)
    (kp_F_Span_total : PySem.W.keepIn K (.ref F_Span_total) = true)
    (fi_F_Span_stepped : PySem.W.findIn K (.ref c_Span) "stepped" = some (some (.ref F_Span_stepped)))
    (ty_F_Span_stepped : PySem.W.typeIn K (.ref F_Span_stepped) = some (.type "function"))
    (l_F_Span_stepped : K.lookup F_Span_stepped = some ⟨oc_F_Span_stepped, od_F_Span_stepped, .func (PySem.W.fnOf "stepped" "Span.stepped" (defArgs (inClass (top 13) 2)) (defBody (inClass (top 13) 2)) (defScope (inClass (top 13) 2)) .none kV_F_Span_stepped dc_F_Span_stepped pm_F_Span_stepped an_F_Span_stepped cd_F_Span_stepped ct_F_Span_stepped), sl_F_Span_stepped⟩)
    (co_F_Span_stepped : PySem.W.codeIn K cd_F_Span_stepped "Span.stepped" = true)
    (kp_F_Span_stepped : PySem.W.keepIn K (.ref F_Span_stepped) = true)
    (fi_F_Span_sighted : PySem.W.findIn K (.ref c_Span) "sighted" = some (some (.ref F_Span_sighted)))
    (ty_F_Span_sighted : PySem.W.typeIn K (.ref F_Span_sighted) = some (.type "function"))
    (l_F_Span_sighted : K.lookup F_Span_sighted = some ⟨oc_F_Span_sighted, od_F_Span_sighted, .func (PySem.W.fnOf "sighted" "Span.sighted" (defArgs (inClass (top 13) 3)) (defBody (inClass (top 13) 3)) (defScope (inClass (top 13) 3)) .none kV_F_Span_sighted dc_F_Span_sighted pm_F_Span_sighted an_F_Span_sighted cd_F_Span_sighted ct_F_Span_sighted), sl_F_Span_sighted⟩)
    (co_F_Span_sighted : PySem.W.codeIn K cd_F_Span_sighted "Span.sighted" = true)
    (kp_F_Span_sighted : PySem.W.keepIn K (.ref F_Span_sighted) = true)
    (fi_F_Span_less : PySem.W.findIn K (.ref c_Span) "less" = some (some (.ref F_Span_less)))
    (ty_F_Span_less : PySem.W.typeIn K (.ref F_Span_less) = some (.type "function"))
    (l_F_Span_less : K.lookup F_Span_less = some ⟨oc_F_Span_less, od_F_Span_less, .func (PySem.W.fnOf "less" "Span.less" (defArgs (inClass (top 13) 4)) (defBody (inClass (top 13) 4)) (defScope (inClass (top 13) 4)) .none kV_F_Span_less dc_F_Span_less pm_F_Span_less an_F_Span_less cd_F_Span_less ct_F_Span_less), sl_F_Span_less⟩)
    (co_F_Span_less : PySem.W.codeIn K cd_F_Span_less "Span.less" = true)
    (kp_F_Span_less : PySem.W.keepIn K (.ref F_Span_less) = true)
    (fi_F_Span_places_at : PySem.W.findIn K (.ref c_Span) "places_at" = some (some (.ref F_Span_places_at)))
    (ty_F_Span_places_at : PySem.W.typeIn K (.ref F_Span_places_at) = some (.type "function"))
    (l_F_Span_places_at : K.lookup F_Span_places_at = some ⟨oc_F_Span_places_at, od_F_Span_places_at, .func (PySem.W.fnOf "places_at" "Span.places_at" (defArgs (inClass (top 13) 5)) (defBody (inClass (top 13) 5)) (defScope (inClass (top 13) 5)) .none kV_F_Span_places_at dc_F_Span_places_at pm_F_Span_places_at an_F_Span_places_at cd_F_Span_places_at ct_F_Span_places_at), sl_F_Span_places_at⟩)
    (co_F_Span_places_at : PySem.W.codeIn K cd_F_Span_places_at "Span.places_at" = true)
    (kp_F_Span_places_at : PySem.W.keepIn K (.ref F_Span_places_at) = true)
    (fi_F_Span___bool__ : PySem.W.findIn K (.ref c_Span) "__bool__" = some (some (.ref F_Span___bool__)))
    (ty_F_Span___bool__ : PySem.W.typeIn K (.ref F_Span___bool__) = some (.type "function"))
    (l_F_Span___bool__ : K.lookup F_Span___bool__ = some ⟨oc_F_Span___bool__, od_F_Span___bool__, .func (PySem.W.fnOf "__bool__" "Span.__bool__" (defArgs (inClass (top 13) 7)) (defBody (inClass (top 13) 7)) (defScope (inClass (top 13) 7)) .none kV_F_Span___bool__ dc_F_Span___bool__ pm_F_Span___bool__ an_F_Span___bool__ cd_F_Span___bool__ ct_F_Span___bool__), sl_F_Span___bool__⟩)
    (co_F_Span___bool__ : PySem.W.codeIn K cd_F_Span___bool__ "Span.__bool__" = true)
    (kp_F_Span___bool__ : PySem.W.keepIn K (.ref F_Span___bool__) = true)
    (fi_F_Span___and__ : PySem.W.findIn K (.ref c_Span) "__and__" = some (some (.ref F_Span___and__)))
    (ty_F_Span___and__ : PySem.W.typeIn K (.ref F_Span___and__) = some (.type "function"))
    (l_F_Span___and__ : K.lookup F_Span___and__ = some ⟨oc_F_Span___and__, od_F_Span___and__, .func (PySem.W.fnOf "__and__" "Span.__and__" (defArgs (inClass (top 13) 8)) (defBody (inClass (top 13) 8)) (defScope (inClass (top 13) 8)) .none kV_F_Span___and__ dc_F_Span___and__ pm_F_Span___and__ an_F_Span___and__ cd_F_Span___and__ ct_F_Span___and__), sl_F_Span___and__⟩)
    (co_F_Span___and__ : PySem.W.codeIn K cd_F_Span___and__ "Span.__and__" = true)
    (kp_F_Span___and__ : PySem.W.keepIn K (.ref F_Span___and__) = true)
    (fi_F_Span___eq__ : PySem.W.findIn K (.ref c_Span) "__eq__" = some (some (.ref F_Span___eq__)))
    (ty_F_Span___eq__ : PySem.W.typeIn K (.ref F_Span___eq__) = some (.type "function"))
    (l_F_Span___eq__ : K.lookup F_Span___eq__ = some ⟨oc_F_Span___eq__, od_F_Span___eq__, .func (PySem.W.fnOf "__eq__" "Span.__eq__" (defArgs (inClass (top 13) 13)) (defBody (inClass (top 13) 13)) (defScope (inClass (top 13) 13)) .none kV_F_Span___eq__ dc_F_Span___eq__ pm_F_Span___eq__ an_F_Span___eq__ cd_F_Span___eq__ ct_F_Span___eq__), sl_F_Span___eq__⟩)
    (co_F_Span___eq__ : PySem.W.codeIn K cd_F_Span___eq__ "Span.__eq__" = true)
    (kp_F_Span___eq__ : PySem.W.keepIn K (.ref F_Span___eq__) = true)
    (n_F__triangle : PySem.W.nsIn K mainGlobals "_triangle" = some (some (.ref F__triangle)))
    (l_F__triangle : K.lookup F__triangle = some ⟨oc_F__triangle, od_F__triangle, .func (PySem.W.fnOf "_triangle" "_triangle" (defArgs (top 15)) (defBody (top 15)) (defScope (top 15)) .none kV_F__triangle dc_F__triangle pm_F__triangle an_F__triangle cd_F__triangle ct_F__triangle), sl_F__triangle⟩)
    (co_F__triangle : PySem.W.codeIn K cd_F__triangle "_triangle" = true)
    (kp_F__triangle : PySem.W.keepIn K (.ref F__triangle) = true)
    (n_F__with_range : PySem.W.nsIn K mainGlobals "_with_range" = some (some (.ref F__with_range)))
    (l_F__with_range : K.lookup F__with_range = some ⟨oc_F__with_range, od_F__with_range, .func (PySem.W.fnOf "_with_range" "_with_range" (defArgs (top 16)) (defBody (top 16)) (defScope (top 16)) .none kV_F__with_range dc_F__with_range pm_F__with_range an_F__with_range cd_F__with_range ct_F__with_range), sl_F__with_range⟩)
    (co_F__with_range : PySem.W.codeIn K cd_F__with_range "_with_range" = true)
    (kp_F__with_range : PySem.W.keepIn K (.ref F__with_range) = true)
    (n_F__law_feed : PySem.W.nsIn K mainGlobals "_law_feed" = some (some (.ref F__law_feed)))
    (l_F__law_feed : K.lookup F__law_feed = some ⟨oc_F__law_feed, od_F__law_feed, .func (PySem.W.fnOf "_law_feed" "_law_feed" (defArgs (top 18)) (defBody (top 18)) (defScope (top 18)) .none kV_F__law_feed dc_F__law_feed pm_F__law_feed an_F__law_feed cd_F__law_feed ct_F__law_feed), sl_F__law_feed⟩)
    (co_F__law_feed : PySem.W.codeIn K cd_F__law_feed "_law_feed" = true)
    (kp_F__law_feed : PySem.W.keepIn K (.ref F__law_feed) = true)
    (n_F__law_take : PySem.W.nsIn K mainGlobals "_law_take" = some (some (.ref F__law_take)))
    (l_F__law_take : K.lookup F__law_take = some ⟨oc_F__law_take, od_F__law_take, .func (PySem.W.fnOf "_law_take" "_law_take" (defArgs (top 19)) (defBody (top 19)) (defScope (top 19)) .none kV_F__law_take dc_F__law_take pm_F__law_take an_F__law_take cd_F__law_take ct_F__law_take), sl_F__law_take⟩)
    (co_F__law_take : PySem.W.codeIn K cd_F__law_take "_law_take" = true)
    (kp_F__law_take : PySem.W.keepIn K (.ref F__law_take) = true)
    (n_F__law_pick : PySem.W.nsIn K mainGlobals "_law_pick" = some (some (.ref F__law_pick)))
    (l_F__law_pick : K.lookup F__law_pick = some ⟨oc_F__law_pick, od_F__law_pick, .func (PySem.W.fnOf "_law_pick" "_law_pick" (defArgs (top 20)) (defBody (top 20)) (defScope (top 20)) .none kV_F__law_pick dc_F__law_pick pm_F__law_pick an_F__law_pick cd_F__law_pick ct_F__law_pick), sl_F__law_pick⟩)
    (co_F__law_pick : PySem.W.codeIn K cd_F__law_pick "_law_pick" = true)
    (kp_F__law_pick : PySem.W.keepIn K (.ref F__law_pick) = true)
    (n_F__law_bounds : PySem.W.nsIn K mainGlobals "_law_bounds" = some (some (.ref F__law_bounds)))
    (l_F__law_bounds : K.lookup F__law_bounds = some ⟨oc_F__law_bounds, od_F__law_bounds, .func (PySem.W.fnOf "_law_bounds" "_law_bounds" (defArgs (top 21)) (defBody (top 21)) (defScope (top 21)) .none kV_F__law_bounds dc_F__law_bounds pm_F__law_bounds an_F__law_bounds cd_F__law_bounds ct_F__law_bounds), sl_F__law_bounds⟩)
    (co_F__law_bounds : PySem.W.codeIn K cd_F__law_bounds "_law_bounds" = true)
    (kp_F__law_bounds : PySem.W.keepIn K (.ref F__law_bounds) = true)
    (n_F__law_listed : PySem.W.nsIn K mainGlobals "_law_listed" = some (some (.ref F__law_listed)))
    (l_F__law_listed : K.lookup F__law_listed = some ⟨oc_F__law_listed, od_F__law_listed, .func (PySem.W.fnOf "_law_listed" "_law_listed" (defArgs (top 22)) (defBody (top 22)) (defScope (top 22)) .none kV_F__law_listed dc_F__law_listed pm_F__law_listed an_F__law_listed cd_F__law_listed ct_F__law_listed), sl_F__law_listed⟩)
    (co_F__law_listed : PySem.W.codeIn K cd_F__law_listed "_law_listed" = true)
    (kp_F__law_listed : PySem.W.keepIn K (.ref F__law_listed) = true)
    (n_F__law_all : PySem.W.nsIn K mainGlobals "_law_all" = some (some (.ref F__law_all)))
    (l_F__law_all : K.lookup F__law_all = some ⟨oc_F__law_all, od_F__law_all, .func (PySem.W.fnOf "_law_all" "_law_all" (defArgs (top 23)) (defBody (top 23)) (defScope (top 23)) .none kV_F__law_all dc_F__law_all pm_F__law_all an_F__law_all cd_F__law_all ct_F__law_all), sl_F__law_all⟩)
    (co_F__law_all : PySem.W.codeIn K cd_F__law_all "_law_all" = true)
    (kp_F__law_all : PySem.W.keepIn K (.ref F__law_all) = true)
    (n_F__law_sorted : PySem.W.nsIn K mainGlobals "_law_sorted" = some (some (.ref F__law_sorted)))
    (l_F__law_sorted : K.lookup F__law_sorted = some ⟨oc_F__law_sorted, od_F__law_sorted, .func (PySem.W.fnOf "_law_sorted" "_law_sorted" (defArgs (top 24)) (defBody (top 24)) (defScope (top 24)) .none kV_F__law_sorted dc_F__law_sorted pm_F__law_sorted an_F__law_sorted cd_F__law_sorted ct_F__law_sorted), sl_F__law_sorted⟩)
    (co_F__law_sorted : PySem.W.codeIn K cd_F__law_sorted "_law_sorted" = true)
    (kp_F__law_sorted : PySem.W.keepIn K (.ref F__law_sorted) = true)
    (n_F__law_changed : PySem.W.nsIn K mainGlobals "_law_changed" = some (some (.ref F__law_changed)))
    (l_F__law_changed : K.lookup F__law_changed = some ⟨oc_F__law_changed, od_F__law_changed, .func (PySem.W.fnOf "_law_changed" "_law_changed" (defArgs (top 25)) (defBody (top 25)) (defScope (top 25)) .none kV_F__law_changed dc_F__law_changed pm_F__law_changed an_F__law_changed cd_F__law_changed ct_F__law_changed), sl_F__law_changed⟩)
    (co_F__law_changed : PySem.W.codeIn K cd_F__law_changed "_law_changed" = true)
    (kp_F__law_changed : PySem.W.keepIn K (.ref F__law_changed) = true)
    (n_F_law : PySem.W.nsIn K mainGlobals "law" = some (some (.ref F_law)))
    (l_F_law : K.lookup F_law = some ⟨oc_F_law, od_F_law, .func (PySem.W.fnOf "law" "law" (defArgs (top 26)) (defBody (top 26)) (defScope (top 26)) .none kV_F_law dc_F_law pm_F_law an_F_law cd_F_law ct_F_law), sl_F_law⟩)
    (co_F_law : PySem.W.codeIn K cd_F_law "law" = true)
    (kp_F_law : PySem.W.keepIn K (.ref F_law) = true)
    (l_F_InvalidSpan___init__ : K.lookup F_InvalidSpan___init__ = some ⟨oc_F_InvalidSpan___init__, od_F_InvalidSpan___init__, .func (PySem.W.fnOf "__init__" "InvalidSpan.__init__" (defArgs (inClass (top 11) 0)) (defBody (inClass (top 11) 0)) (defScope (inClass (top 11) 0)) .none kV_F_InvalidSpan___init__ dc_F_InvalidSpan___init__ pm_F_InvalidSpan___init__ an_F_InvalidSpan___init__ cd_F_InvalidSpan___init__ ct_F_InvalidSpan___init__), sl_F_InvalidSpan___init__⟩)
    (co_F_InvalidSpan___init__ : PySem.W.codeIn K cd_F_InvalidSpan___init__ "InvalidSpan.__init__" = true)
    (kp_F_InvalidSpan___init__ : PySem.W.keepIn K (.ref F_InvalidSpan___init__) = true)
    (z_isinstance : PySem.W.nsIn K mainGlobals "isinstance" = some none)
    (z_int : PySem.W.nsIn K mainGlobals "int" = some none)
    (z_bool : PySem.W.nsIn K mainGlobals "bool" = some none)
    (z_tuple : PySem.W.nsIn K mainGlobals "tuple" = some none)
    (z_len : PySem.W.nsIn K mainGlobals "len" = some none)
    (z_any : PySem.W.nsIn K mainGlobals "any" = some none)
    (z_enumerate : PySem.W.nsIn K mainGlobals "enumerate" = some none)
    (z_list : PySem.W.nsIn K mainGlobals "list" = some none)
    (z_abs : PySem.W.nsIn K mainGlobals "abs" = some none)
    (z_range : PySem.W.nsIn K mainGlobals "range" = some none)
    (z_sorted : PySem.W.nsIn K mainGlobals "sorted" = some none)
    (z_max : PySem.W.nsIn K mainGlobals "max" = some none)
    (z_min : PySem.W.nsIn K mainGlobals "min" = some none) :
    Txt K mg ⟨p_F_Span_total, c_Span, c_InvalidSpan, c_SightError, F_lesser, F_greater, F_common, F_shifted, F_is_integer, F_is_cell, F_Span___init__, F_Span_total, F_Span_stepped, F_Span_sighted, F_Span_less, F_Span_places_at, F_Span___bool__, F_Span___and__, F_Span___eq__, F__triangle, F__with_range, F__law_feed, F__law_take, F__law_pick, F__law_bounds, F__law_listed, F__law_all, F__law_sorted, F__law_changed, F_law, F_InvalidSpan___init__⟩ := by
  have D_F_lesser : Def K F_lesser "lesser" "lesser" (top 1) ["p", "q"] [] := by
    have FD : FunD K "lesser" "lesser" (defArgs (top 1)) (defBody (top 1)) (defScope (top 1)) [] [] F_lesser _ := ⟨⟨_, _, _, _, _, _, _, _, _, _, rfl, l_F_lesser, co_F_lesser, .inl ⟨rfl, rfl⟩, .inl rfl⟩, kp_F_lesser⟩
    exact ⟨_, FD, fun j _ => ⟨[], by cases j <;> exact .nil, FD.bindsN fun _ _ _ _ _ _ us hl => match us, hl with | [_, _], _ => rfl⟩⟩
  have D_F_greater : Def K F_greater "greater" "greater" (top 2) ["p", "q"] [] := by
    have FD : FunD K "greater" "greater" (defArgs (top 2)) (defBody (top 2)) (defScope (top 2)) [] [] F_greater _ := ⟨⟨_, _, _, _, _, _, _, _, _, _, rfl, l_F_greater, co_F_greater, .inl ⟨rfl, rfl⟩, .inl rfl⟩, kp_F_greater⟩
    exact ⟨_, FD, fun j _ => ⟨[], by cases j <;> exact .nil, FD.bindsN fun _ _ _ _ _ _ us hl => match us, hl with | [_, _], _ => rfl⟩⟩
  have D_F_common : Def K F_common "common" "common" (top 3) ["p", "q"] [] := by
    have FD : FunD K "common" "common" (defArgs (top 3)) (defBody (top 3)) (defScope (top 3)) [] [] F_common _ := ⟨⟨_, _, _, _, _, _, _, _, _, _, rfl, l_F_common, co_F_common, .inl ⟨rfl, rfl⟩, .inl rfl⟩, kp_F_common⟩
    exact ⟨_, FD, fun j _ => ⟨[], by cases j <;> exact .nil, FD.bindsN fun _ _ _ _ _ _ us hl => match us, hl with | [_, _], _ => rfl⟩⟩
  have D_F_shifted : Def K F_shifted "shifted" "shifted" (top 5) ["p", "low", "high"] [] := by
    have FD : FunD K "shifted" "shifted" (defArgs (top 5)) (defBody (top 5)) (defScope (top 5)) [] [] F_shifted _ := ⟨⟨_, _, _, _, _, _, _, _, _, _, rfl, l_F_shifted, co_F_shifted, .inl ⟨rfl, rfl⟩, .inl rfl⟩, kp_F_shifted⟩
    exact ⟨_, FD, fun j _ => ⟨[], by cases j <;> exact .nil, FD.bindsN fun _ _ _ _ _ _ us hl => match us, hl with | [_, _, _], _ => rfl⟩⟩
  have D_F_is_integer : Def K F_is_integer "is_integer" "is_integer" (top 7) ["value"] [] := by
    have FD : FunD K "is_integer" "is_integer" (defArgs (top 7)) (defBody (top 7)) (defScope (top 7)) [] [] F_is_integer _ := ⟨⟨_, _, _, _, _, _, _, _, _, _, rfl, l_F_is_integer, co_F_is_integer, .inl ⟨rfl, rfl⟩, .inl rfl⟩, kp_F_is_integer⟩
    exact ⟨_, FD, fun j _ => ⟨[], by cases j <;> exact .nil, FD.bindsN fun _ _ _ _ _ _ us hl => match us, hl with | [_], _ => rfl⟩⟩
  have D_F_is_cell : Def K F_is_cell "is_cell" "is_cell" (top 8) ["value"] [] := by
    have FD : FunD K "is_cell" "is_cell" (defArgs (top 8)) (defBody (top 8)) (defScope (top 8)) [] [] F_is_cell _ := ⟨⟨_, _, _, _, _, _, _, _, _, _, rfl, l_F_is_cell, co_F_is_cell, .inl ⟨rfl, rfl⟩, .inl rfl⟩, kp_F_is_cell⟩
    exact ⟨_, FD, fun j _ => ⟨[], by cases j <;> exact .nil, FD.bindsN fun _ _ _ _ _ _ us hl => match us, hl with | [_], _ => rfl⟩⟩
  have D_F_Span___init__ : Def K F_Span___init__ "__init__" "Span.__init__" (inClass (top 13) 0) ["self", "belief", "place", "error"] [] := by
    have FD : FunD K "__init__" "Span.__init__" (defArgs (inClass (top 13) 0)) (defBody (inClass (top 13) 0)) (defScope (inClass (top 13) 0)) [] [] F_Span___init__ _ := ⟨⟨_, _, _, _, _, _, _, _, _, _, rfl, l_F_Span___init__, co_F_Span___init__, .inl ⟨rfl, rfl⟩, .inl rfl⟩, kp_F_Span___init__⟩
    exact ⟨_, FD, fun j _ => ⟨[], by cases j <;> exact .nil, FD.bindsN fun _ _ _ _ _ _ us hl => match us, hl with | [_, _, _, _], _ => rfl⟩⟩
  have D_F_Span_total : Def K F_Span_total "total" "Span.total" (inClass (top 13) 1) ["self"] [] := by
    have FD : FunD K "total" "Span.total" (defArgs (inClass (top 13) 1)) (defBody (inClass (top 13) 1)) (defScope (inClass (top 13) 1)) [] [] F_Span_total _ := ⟨⟨_, _, _, _, _, _, _, _, _, _, rfl, l_F_Span_total, co_F_Span_total, .inl ⟨rfl, rfl⟩, .inl rfl⟩, kp_F_Span_total⟩
    exact ⟨_, FD, fun j _ => ⟨[], by cases j <;> exact .nil, FD.bindsN fun _ _ _ _ _ _ us hl => match us, hl with | [_], _ => rfl⟩⟩
  have D_F_Span_stepped : Def K F_Span_stepped "stepped" "Span.stepped" (inClass (top 13) 2) ["self", "by", "low", "high"] [] := by
    have FD : FunD K "stepped" "Span.stepped" (defArgs (inClass (top 13) 2)) (defBody (inClass (top 13) 2)) (defScope (inClass (top 13) 2)) [] [] F_Span_stepped _ := ⟨⟨_, _, _, _, _, _, _, _, _, _, rfl, l_F_Span_stepped, co_F_Span_stepped, .inl ⟨rfl, rfl⟩, .inl rfl⟩, kp_F_Span_stepped⟩
    exact ⟨_, FD, fun j _ => ⟨[], by cases j <;> exact .nil, FD.bindsN fun _ _ _ _ _ _ us hl => match us, hl with | [_, _, _, _], _ => rfl⟩⟩
  have D_F_Span_sighted : Def K F_Span_sighted "sighted" "Span.sighted" (inClass (top 13) 3) ["self", "low", "high", "blur"] [] := by
    have FD : FunD K "sighted" "Span.sighted" (defArgs (inClass (top 13) 3)) (defBody (inClass (top 13) 3)) (defScope (inClass (top 13) 3)) [] [] F_Span_sighted _ := ⟨⟨_, _, _, _, _, _, _, _, _, _, rfl, l_F_Span_sighted, co_F_Span_sighted, .inl ⟨rfl, rfl⟩, .inl rfl⟩, kp_F_Span_sighted⟩
    exact ⟨_, FD, fun j _ => ⟨[], by cases j <;> exact .nil, FD.bindsN fun _ _ _ _ _ _ us hl => match us, hl with | [_, _, _, _], _ => rfl⟩⟩
  have D_F_Span_less : Def K F_Span_less "less" "Span.less" (inClass (top 13) 4) ["self", "other"] [] := by
    have FD : FunD K "less" "Span.less" (defArgs (inClass (top 13) 4)) (defBody (inClass (top 13) 4)) (defScope (inClass (top 13) 4)) [] [] F_Span_less _ := ⟨⟨_, _, _, _, _, _, _, _, _, _, rfl, l_F_Span_less, co_F_Span_less, .inl ⟨rfl, rfl⟩, .inl rfl⟩, kp_F_Span_less⟩
    exact ⟨_, FD, fun j _ => ⟨[], by cases j <;> exact .nil, FD.bindsN fun _ _ _ _ _ _ us hl => match us, hl with | [_, _], _ => rfl⟩⟩
  have D_F_Span_places_at : Def K F_Span_places_at "places_at" "Span.places_at" (inClass (top 13) 5) ["self", "number"] [] := by
    have FD : FunD K "places_at" "Span.places_at" (defArgs (inClass (top 13) 5)) (defBody (inClass (top 13) 5)) (defScope (inClass (top 13) 5)) [] [] F_Span_places_at _ := ⟨⟨_, _, _, _, _, _, _, _, _, _, rfl, l_F_Span_places_at, co_F_Span_places_at, .inl ⟨rfl, rfl⟩, .inl rfl⟩, kp_F_Span_places_at⟩
    exact ⟨_, FD, fun j _ => ⟨[], by cases j <;> exact .nil, FD.bindsN fun _ _ _ _ _ _ us hl => match us, hl with | [_, _], _ => rfl⟩⟩
  have D_F_Span___bool__ : Def K F_Span___bool__ "__bool__" "Span.__bool__" (inClass (top 13) 7) ["self"] [] := by
    have FD : FunD K "__bool__" "Span.__bool__" (defArgs (inClass (top 13) 7)) (defBody (inClass (top 13) 7)) (defScope (inClass (top 13) 7)) [] [] F_Span___bool__ _ := ⟨⟨_, _, _, _, _, _, _, _, _, _, rfl, l_F_Span___bool__, co_F_Span___bool__, .inl ⟨rfl, rfl⟩, .inl rfl⟩, kp_F_Span___bool__⟩
    exact ⟨_, FD, fun j _ => ⟨[], by cases j <;> exact .nil, FD.bindsN fun _ _ _ _ _ _ us hl => match us, hl with | [_], _ => rfl⟩⟩
  have D_F_Span___and__ : Def K F_Span___and__ "__and__" "Span.__and__" (inClass (top 13) 8) ["self", "other"] [] := by
    have FD : FunD K "__and__" "Span.__and__" (defArgs (inClass (top 13) 8)) (defBody (inClass (top 13) 8)) (defScope (inClass (top 13) 8)) [] [] F_Span___and__ _ := ⟨⟨_, _, _, _, _, _, _, _, _, _, rfl, l_F_Span___and__, co_F_Span___and__, .inl ⟨rfl, rfl⟩, .inl rfl⟩, kp_F_Span___and__⟩
    exact ⟨_, FD, fun j _ => ⟨[], by cases j <;> exact .nil, FD.bindsN fun _ _ _ _ _ _ us hl => match us, hl with | [_, _], _ => rfl⟩⟩
  have D_F_Span___eq__ : Def K F_Span___eq__ "__eq__" "Span.__eq__" (inClass (top 13) 13) ["self", "other"] [] := by
    have FD : FunD K "__eq__" "Span.__eq__" (defArgs (inClass (top 13) 13)) (defBody (inClass (top 13) 13)) (defScope (inClass (top 13) 13)) [] [] F_Span___eq__ _ := ⟨⟨_, _, _, _, _, _, _, _, _, _, rfl, l_F_Span___eq__, co_F_Span___eq__, .inl ⟨rfl, rfl⟩, .inl rfl⟩, kp_F_Span___eq__⟩
    exact ⟨_, FD, fun j _ => ⟨[], by cases j <;> exact .nil, FD.bindsN fun _ _ _ _ _ _ us hl => match us, hl with | [_, _], _ => rfl⟩⟩
  have D_F__triangle : Def K F__triangle "_triangle" "_triangle" (top 15) ["side"] [] := by
    have FD : FunD K "_triangle" "_triangle" (defArgs (top 15)) (defBody (top 15)) (defScope (top 15)) [] [] F__triangle _ := ⟨⟨_, _, _, _, _, _, _, _, _, _, rfl, l_F__triangle, co_F__triangle, .inl ⟨rfl, rfl⟩, .inl rfl⟩, kp_F__triangle⟩
    exact ⟨_, FD, fun j _ => ⟨[], by cases j <;> exact .nil, FD.bindsN fun _ _ _ _ _ _ us hl => match us, hl with | [_], _ => rfl⟩⟩
  have D_F__with_range : Def K F__with_range "_with_range" "_with_range" (top 16) ["ranges", "at", "other"] [] := by
    have FD : FunD K "_with_range" "_with_range" (defArgs (top 16)) (defBody (top 16)) (defScope (top 16)) [] [] F__with_range _ := ⟨⟨_, _, _, _, _, _, _, _, _, _, rfl, l_F__with_range, co_F__with_range, .inl ⟨rfl, rfl⟩, .inl rfl⟩, kp_F__with_range⟩
    exact ⟨_, FD, fun j _ => ⟨[], by cases j <;> exact .nil, FD.bindsN fun _ _ _ _ _ _ us hl => match us, hl with | [_, _, _], _ => rfl⟩⟩
  have D_F__law_feed : Def K F__law_feed "_law_feed" "_law_feed" (top 18) ["_law_script", "_law_k"] [] := by
    have FD : FunD K "_law_feed" "_law_feed" (defArgs (top 18)) (defBody (top 18)) (defScope (top 18)) [] [] F__law_feed _ := ⟨⟨_, _, _, _, _, _, _, _, _, _, rfl, l_F__law_feed, co_F__law_feed, .inl ⟨rfl, rfl⟩, .inl rfl⟩, kp_F__law_feed⟩
    exact ⟨_, FD, fun j _ => ⟨[], by cases j <;> exact .nil, FD.bindsN fun _ _ _ _ _ _ us hl => match us, hl with | [_, _], _ => rfl⟩⟩
  have D_F__law_take : Def K F__law_take "_law_take" "_law_take" (top 19) ["_law_box", "_law_many"] [] := by
    have FD : FunD K "_law_take" "_law_take" (defArgs (top 19)) (defBody (top 19)) (defScope (top 19)) [] [] F__law_take _ := ⟨⟨_, _, _, _, _, _, _, _, _, _, rfl, l_F__law_take, co_F__law_take, .inl ⟨rfl, rfl⟩, .inl rfl⟩, kp_F__law_take⟩
    exact ⟨_, FD, fun j _ => ⟨[], by cases j <;> exact .nil, FD.bindsN fun _ _ _ _ _ _ us hl => match us, hl with | [_, _], _ => rfl⟩⟩
  have D_F__law_pick : Def K F__law_pick "_law_pick" "_law_pick" (top 20) ["_law_box", "_law_some"] [] := by
    have FD : FunD K "_law_pick" "_law_pick" (defArgs (top 20)) (defBody (top 20)) (defScope (top 20)) [] [] F__law_pick _ := ⟨⟨_, _, _, _, _, _, _, _, _, _, rfl, l_F__law_pick, co_F__law_pick, .inl ⟨rfl, rfl⟩, .inl rfl⟩, kp_F__law_pick⟩
    exact ⟨_, FD, fun j _ => ⟨[], by cases j <;> exact .nil, FD.bindsN fun _ _ _ _ _ _ us hl => match us, hl with | [_, _], _ => rfl⟩⟩
  have D_F__law_bounds : Def K F__law_bounds "_law_bounds" "_law_bounds" (top 21) ["_law_box"] [] := by
    have FD : FunD K "_law_bounds" "_law_bounds" (defArgs (top 21)) (defBody (top 21)) (defScope (top 21)) [] [] F__law_bounds _ := ⟨⟨_, _, _, _, _, _, _, _, _, _, rfl, l_F__law_bounds, co_F__law_bounds, .inl ⟨rfl, rfl⟩, .inl rfl⟩, kp_F__law_bounds⟩
    exact ⟨_, FD, fun j _ => ⟨[], by cases j <;> exact .nil, FD.bindsN fun _ _ _ _ _ _ us hl => match us, hl with | [_], _ => rfl⟩⟩
  have D_F__law_listed : Def K F__law_listed "_law_listed" "_law_listed" (top 22) ["_law_span"] [] := by
    have FD : FunD K "_law_listed" "_law_listed" (defArgs (top 22)) (defBody (top 22)) (defScope (top 22)) [] [] F__law_listed _ := ⟨⟨_, _, _, _, _, _, _, _, _, _, rfl, l_F__law_listed, co_F__law_listed, .inl ⟨rfl, rfl⟩, .inl rfl⟩, kp_F__law_listed⟩
    exact ⟨_, FD, fun j _ => ⟨[], by cases j <;> exact .nil, FD.bindsN fun _ _ _ _ _ _ us hl => match us, hl with | [_], _ => rfl⟩⟩
  have D_F__law_all : Def K F__law_all "_law_all" "_law_all" (top 23) ["_law_bounds_here"] [] := by
    have FD : FunD K "_law_all" "_law_all" (defArgs (top 23)) (defBody (top 23)) (defScope (top 23)) [] [] F__law_all _ := ⟨⟨_, _, _, _, _, _, _, _, _, _, rfl, l_F__law_all, co_F__law_all, .inl ⟨rfl, rfl⟩, .inl rfl⟩, kp_F__law_all⟩
    exact ⟨_, FD, fun j _ => ⟨[], by cases j <;> exact .nil, FD.bindsN fun _ _ _ _ _ _ us hl => match us, hl with | [_], _ => rfl⟩⟩
  have D_F__law_sorted : Def K F__law_sorted "_law_sorted" "_law_sorted" (top 24) ["_law_pairs"] [] := by
    have FD : FunD K "_law_sorted" "_law_sorted" (defArgs (top 24)) (defBody (top 24)) (defScope (top 24)) [] [] F__law_sorted _ := ⟨⟨_, _, _, _, _, _, _, _, _, _, rfl, l_F__law_sorted, co_F__law_sorted, .inl ⟨rfl, rfl⟩, .inl rfl⟩, kp_F__law_sorted⟩
    exact ⟨_, FD, fun j _ => ⟨[], by cases j <;> exact .nil, FD.bindsN fun _ _ _ _ _ _ us hl => match us, hl with | [_], _ => rfl⟩⟩
  have D_F__law_changed : Def K F__law_changed "_law_changed" "_law_changed" (top 25) ["_law_box", "_law_made", "_law_pairs"] [] := by
    have FD : FunD K "_law_changed" "_law_changed" (defArgs (top 25)) (defBody (top 25)) (defScope (top 25)) [] [] F__law_changed _ := ⟨⟨_, _, _, _, _, _, _, _, _, _, rfl, l_F__law_changed, co_F__law_changed, .inl ⟨rfl, rfl⟩, .inl rfl⟩, kp_F__law_changed⟩
    exact ⟨_, FD, fun j _ => ⟨[], by cases j <;> exact .nil, FD.bindsN fun _ _ _ _ _ _ us hl => match us, hl with | [_, _, _], _ => rfl⟩⟩
  have D_F_law : Def K F_law "law" "law" (top 26) ["_law_script"] [] := by
    have FD : FunD K "law" "law" (defArgs (top 26)) (defBody (top 26)) (defScope (top 26)) [] [] F_law _ := ⟨⟨_, _, _, _, _, _, _, _, _, _, rfl, l_F_law, co_F_law, .inl ⟨rfl, rfl⟩, .inl rfl⟩, kp_F_law⟩
    exact ⟨_, FD, fun j _ => ⟨[], by cases j <;> exact .nil, FD.bindsN fun _ _ _ _ _ _ us hl => match us, hl with | [_], _ => rfl⟩⟩
  have D_F_InvalidSpan___init__ : Def K F_InvalidSpan___init__ "__init__" "InvalidSpan.__init__" (inClass (top 11) 0) ["self", "word"] [] := by
    have FD : FunD K "__init__" "InvalidSpan.__init__" (defArgs (inClass (top 11) 0)) (defBody (inClass (top 11) 0)) (defScope (inClass (top 11) 0)) [] [] F_InvalidSpan___init__ _ := ⟨⟨_, _, _, _, _, _, _, _, _, _, rfl, l_F_InvalidSpan___init__, co_F_InvalidSpan___init__, .inl ⟨rfl, rfl⟩, .inl rfl⟩, kp_F_InvalidSpan___init__⟩
    exact ⟨_, FD, fun j _ => ⟨[], by cases j <;> exact .nil, FD.bindsN fun _ _ _ _ _ _ us hl => match us, hl with | [_, _], _ => rfl⟩⟩
  exact ⟨h_ogc,
    h_otk,
    ⟨⟨pg_Span, hd_Span, po_Span, sa_Span⟩, gc_Span, mr_Span⟩,
    PySem.W.mg_of X G n_Span,
    ⟨mk_Span, in_Span, if_Span, kc_Span⟩,
    sf_Span,
    ⟨ef_Span, eg_Span, en_Span, e0_Span, e1_Span, e2_Span⟩,
    tc_Span,
    su_Span_Span,
    kit_mro rfl kt_Span_int,
    kit_mro rfl kt_Span_bool,
    kit_mro rfl kt_Span_tuple,
    na_Span_belief,
    na_Span_place,
    na_Span_error,
    PySem.W.mg_of X G n_InvalidSpan,
    ⟨⟨⟨_, _, _, _, _, _, _, _, _, _, _, _, _, _, _, su_xl_InvalidSpan, by first | rfl | decide +kernel⟩, sa_InvalidSpan, ex_InvalidSpan, tc_InvalidSpan, kc_InvalidSpan⟩, ga_InvalidSpan, gg_InvalidSpan, hd_InvalidSpan, no_InvalidSpan, ii_InvalidSpan, ti_InvalidSpan, gc_InvalidSpan, mr_InvalidSpan⟩,
    PySem.W.mg_of X G n_SightError,
    D_F_lesser,
    PySem.W.mg_of X G n_F_lesser,
    kp_F_lesser,
    D_F_greater,
    PySem.W.mg_of X G n_F_greater,
    kp_F_greater,
    D_F_common,
    PySem.W.mg_of X G n_F_common,
    kp_F_common,
    D_F_shifted,
    PySem.W.mg_of X G n_F_shifted,
    kp_F_shifted,
    D_F_is_integer,
    PySem.W.mg_of X G n_F_is_integer,
    kp_F_is_integer,
    D_F_is_cell,
    PySem.W.mg_of X G n_F_is_cell,
    kp_F_is_cell,
    D_F_Span___init__,
    D_F_Span_total,
    ⟨fi_F_Span_total, pg_F_Span_total, pt_F_Span_total, ⟨_, px_F_Span_total⟩⟩,
    D_F_Span_stepped,
    ⟨fi_F_Span_stepped, ty_F_Span_stepped⟩,
    ⟨fi_F_Span_stepped, isFn_of ty_F_Span_stepped, kp_F_Span_stepped⟩,
    D_F_Span_sighted,
    ⟨fi_F_Span_sighted, ty_F_Span_sighted⟩,
    ⟨fi_F_Span_sighted, isFn_of ty_F_Span_sighted, kp_F_Span_sighted⟩,
    D_F_Span_less,
    ⟨fi_F_Span_less, ty_F_Span_less⟩,
    ⟨fi_F_Span_less, isFn_of ty_F_Span_less, kp_F_Span_less⟩,
    D_F_Span_places_at,
    ⟨fi_F_Span_places_at, ty_F_Span_places_at⟩,
    ⟨fi_F_Span_places_at, isFn_of ty_F_Span_places_at, kp_F_Span_places_at⟩,
    D_F_Span___bool__,
    ⟨fi_F_Span___bool__, ty_F_Span___bool__⟩,
    D_F_Span___and__,
    ⟨fi_F_Span___and__, ty_F_Span___and__⟩,
    D_F_Span___eq__,
    ⟨fi_F_Span___eq__, ty_F_Span___eq__⟩,
    D_F__triangle,
    PySem.W.mg_of X G n_F__triangle,
    kp_F__triangle,
    D_F__with_range,
    PySem.W.mg_of X G n_F__with_range,
    kp_F__with_range,
    D_F__law_feed,
    PySem.W.mg_of X G n_F__law_feed,
    kp_F__law_feed,
    D_F__law_take,
    PySem.W.mg_of X G n_F__law_take,
    kp_F__law_take,
    D_F__law_pick,
    PySem.W.mg_of X G n_F__law_pick,
    kp_F__law_pick,
    D_F__law_bounds,
    PySem.W.mg_of X G n_F__law_bounds,
    kp_F__law_bounds,
    D_F__law_listed,
    PySem.W.mg_of X G n_F__law_listed,
    kp_F__law_listed,
    D_F__law_all,
    PySem.W.mg_of X G n_F__law_all,
    kp_F__law_all,
    D_F__law_sorted,
    PySem.W.mg_of X G n_F__law_sorted,
    kp_F__law_sorted,
    D_F__law_changed,
    PySem.W.mg_of X G n_F__law_changed,
    kp_F__law_changed,
    D_F_law,
    PySem.W.mg_of X G n_F_law,
    kp_F_law,
    D_F_InvalidSpan___init__,
    PySem.W.mg_none_of X G z_isinstance,
    PySem.W.mg_none_of X G z_int,
    PySem.W.mg_none_of X G z_bool,
    PySem.W.mg_none_of X G z_tuple,
    PySem.W.mg_none_of X G z_len,
    PySem.W.mg_none_of X G z_any,
    PySem.W.mg_none_of X G z_enumerate,
    PySem.W.mg_none_of X G z_list,
    PySem.W.mg_none_of X G z_abs,
    PySem.W.mg_none_of X G z_range,
    PySem.W.mg_none_of X G z_sorted,
    PySem.W.mg_none_of X G z_max,
    PySem.W.mg_none_of X G z_min⟩
end K28
namespace K28
open PySem Pi
section
variable {g : List MO} {E : EC} {Q : D → List MO → Prop} {QI : List (Nat × D) → List MO → Prop} {a b c d p q : Int}
abbrev rg (a b : Int) : D := .tup [.int a, .int b]
theorem lesser_ok (k : Q (.int (min p q)) g) : wpC (m_F_lesser [.int p, .int q] g) E Q := by
  refine wpC_def (w_ret (w_iteE (w_op2 (w_v rfl (w_v rfl (w_of (z := .bl (decide (p ≤ q))) rfl ⟨_, rfl, fun h => ?_, fun h => ?_⟩))))))
  · have h := of_decide_eq_true h
    rw [show min p q = p by omega] at k
    exact w_v rfl k
  · have h := of_decide_eq_false h
    rw [show min p q = q by omega] at k
    exact w_v rfl k
theorem greater_ok (k : Q (.int (max p q)) g) : wpC (m_F_greater [.int p, .int q] g) E Q := by
  refine wpC_def (w_ret (w_iteE (w_op2 (w_v rfl (w_v rfl (w_of (z := .bl (decide (q ≤ p))) rfl ⟨_, rfl, fun h => ?_, fun h => ?_⟩))))))
  · have h := of_decide_eq_true h
    rw [show max p q = p by omega] at k
    exact w_v rfl k
  · have h := of_decide_eq_false h
    rw [show max p q = q by omega] at k
    exact w_v rfl k
theorem common_ok (k : Q (rg (max a c) (min b d)) g) : wpC (m_F_common [rg a b, rg c d] g) E Q := by
  refine wpC_def (w_ret (w_tup (w_cons (w_callE (m := m_F_greater) rfl (w_cons (w_ix (w_v rfl (w_c (w_of rfl (w_cons (w_ix (w_v rfl (w_c (w_of rfl (w_nil (greater_ok ?_))))))))))))))))
  exact w_cons (w_callE (m := m_F_lesser) rfl (w_cons (w_ix (w_v rfl (w_c (w_of rfl (w_cons (w_ix (w_v rfl (w_c (w_of rfl (w_nil (lesser_ok (w_nil ⟨Nat.le_of_ble_eq_true rfl, k⟩))))))))))))))
theorem shifted_ok (k : Q (rg (a + c) (b + d)) g) : wpC (m_F_shifted [rg a b, .int c, .int d] g) E Q := by
  refine wpC_def (w_ret (w_tup (w_cons (w_op2 (w_ix (w_v rfl (w_c (w_of rfl (w_v rfl (w_of rfl (w_cons (w_op2 (w_ix (w_v rfl (w_c (w_of rfl (w_v rfl (w_of rfl (w_nil ⟨Nat.le_of_ble_eq_true rfl, k⟩)))))))))))))))))))
theorem cell_ok (k : Q (.bl true) g) : wpC (m_F_is_cell [rg a b] g) E Q := wpC_eq (g := g) (x := .bl true) rfl k
structure Spn where
  b0 : Int
  b1 : Int
  t0 : Int
  t1 : Int
  e0 : Int
  e1 : Int
def fsS : Option Spn → List (Nat × D)
  | some s => [(10, rg s.b0 s.b1), (11, rg s.t0 s.t1), (12, rg s.e0 s.e1)]
  | none => [(10, .non), (11, .non), (12, .non)]
def tight (s : Spn) : Option Spn :=
  if max s.b0 (s.t0 - s.e1) ≤ min s.b1 (s.t1 - s.e0) ∧ max s.t0 (s.b0 + s.e0) ≤ min s.t1 (s.b1 + s.e1) ∧ max s.e0 (s.t0 - s.b1) ≤ min s.e1 (s.t1 - s.b0) then
    some ⟨max s.b0 (s.t0 - s.e1), min s.b1 (s.t1 - s.e0), max s.t0 (s.b0 + s.e0), min s.t1 (s.b1 + s.e1), max s.e0 (s.t0 - s.b1), min s.e1 (s.t1 - s.b0)⟩
  else none
def gtD : D → Bool
  | .tup [.int x, .int y] => decide (y < x)
  | _ => false
theorem bools_mapF (f : D → Bool) : ∀ ds : List D, bools (ds.map fun d => .bl (f d)) = some (ds.map f)
  | [] => rfl
  | d :: ds => by
    show (bools (ds.map fun d => .bl (f d))).map (f d :: ·) = _
    rw [bools_mapF f ds]
    rfl
theorem any_ok (f : D → Bool) (ds : List D) : biS g .any [.lst (ds.map fun d => .bl (f d))] = some (.bl (ds.any f)) := by
  show (anyB (ds.map fun d => .bl (f d))).map D.bl = _
  unfold anyB
  rw [bools_mapF]
  show some (D.bl ((ds.map f).any id)) = _
  rw [List.any_map]
  rfl
theorem init_ok {s : Spn} (k : QI (fsS (tight s)) g) : wpI (m_F_Span___init__ [rg s.b0 s.b1, rg s.t0 s.t1, rg s.e0 s.e1] g) E QI := by
  obtain ⟨b0, b1, t0, t1, e0, e1⟩ := s
  refine wpI_def (w_ite (w_not (w_callE (m := m_F_is_cell) rfl (w_cons (w_v rfl (w_nil (cell_ok ⟨_, rfl, _, rfl, fun z => (nomatch z), fun _ => ?_⟩)))))))
  refine w_seqN (w_ite (w_not (w_callE (m := m_F_is_cell) rfl (w_cons (w_v rfl (w_nil (cell_ok ⟨_, rfl, _, rfl, fun z => (nomatch z), fun _ => ?_⟩)))))))
  refine w_seqN (w_ite (w_not (w_callE (m := m_F_is_cell) rfl (w_cons (w_v rfl (w_nil (cell_ok ⟨_, rfl, _, rfl, fun z => (nomatch z), fun _ => ?_⟩)))))))
  refine w_seqN (w_asg (w_tup (w_cons (w_callE (m := m_F_common) rfl (w_cons (w_v rfl (w_cons (w_tup (w_cons (w_op2 (w_ix (w_v rfl (w_c (w_of rfl (w_ix (w_v rfl (w_c (w_of rfl (w_of rfl ?_)))))))))))))))))))
  refine w_cons (w_op2 (w_ix (w_v rfl (w_c (w_of rfl (w_ix (w_v rfl (w_c (w_of rfl (w_of rfl (w_nil ⟨Nat.le_of_ble_eq_true rfl, w_nil (common_ok ?_)⟩)))))))))))
  refine w_cons (w_callE (m := m_F_common) rfl (w_cons (w_v rfl (w_cons (w_tup (w_cons (w_op2 (w_ix (w_v rfl (w_c (w_of rfl (w_ix (w_v rfl (w_c (w_of rfl (w_of rfl ?_))))))))))))))))
  refine w_cons (w_op2 (w_ix (w_v rfl (w_c (w_of rfl (w_ix (w_v rfl (w_c (w_of rfl (w_of rfl (w_nil ⟨Nat.le_of_ble_eq_true rfl, w_nil (common_ok ?_)⟩)))))))))))
  refine w_cons (w_callE (m := m_F_common) rfl (w_cons (w_v rfl (w_cons (w_tup (w_cons (w_op2 (w_ix (w_v rfl (w_c (w_of rfl (w_ix (w_v rfl (w_c (w_of rfl (w_of rfl ?_))))))))))))))))
  refine w_cons (w_op2 (w_ix (w_v rfl (w_c (w_of rfl (w_ix (w_v rfl (w_c (w_of rfl (w_of rfl (w_nil ⟨Nat.le_of_ble_eq_true rfl, w_nil (common_ok ?_)⟩)))))))))))
  refine w_nil ⟨Nat.le_of_ble_eq_true rfl, ?_⟩
  refine w_ite (w_bi (w_cons (w_compM (fun d => .bl (gtD d)) (fun g' => g' = g) (w_it (w_v rfl (w_of rfl ⟨Nat.le_of_ble_eq_true rfl, rfl, fun d hd g' hg => ?_, fun g' hg => ?_⟩))))))
  · subst hg
    simp only [List.mem_cons, List.not_mem_nil, or_false] at hd
    rcases hd with rfl | rfl | rfl <;> exact ⟨_, rfl, w_op2 (w_v rfl (w_v rfl (w_of rfl ⟨rfl, rfl⟩)))⟩
  · subst hg
    refine w_nil (w_of (any_ok _ _) ⟨_, rfl, fun h => ?_, fun h => ?_⟩)
    · simp only [List.any_cons, List.any_nil, gtD, Bool.or_false, Bool.or_eq_true, decide_eq_true_eq] at h
      have e : tight ⟨b0, b1, t0, t1, e0, e1⟩ = none := if_neg (fun z => by simp only at z; omega)
      rw [e] at k
      refine w_asg (w_tup (w_cons (w_c (w_cons (w_c (w_cons (w_c (w_nil ⟨Nat.le_of_ble_eq_true rfl, ?_⟩))))))))
      exact w_last (w_setFs (w_v rfl ⟨_, _, _, rfl, rfl, rfl, Nat.le_of_ble_eq_true rfl, w_nilS ⟨_, rfl, k⟩⟩))
    · simp only [List.any_cons, List.any_nil, gtD, Bool.or_false, Bool.or_eq_false_iff, decide_eq_false_iff_not] at h
      have e : tight ⟨b0, b1, t0, t1, e0, e1⟩ = some ⟨max b0 (t0 - e1), min b1 (t1 - e0), max t0 (b0 + e0), min t1 (b1 + e1), max e0 (t0 - b1), min e1 (t1 - b0)⟩ := if_pos (by simp only; omega)
      rw [e] at k
      exact w_seqN (w_last (w_setFs (w_v rfl ⟨_, _, _, rfl, rfl, rfl, Nat.le_of_ble_eq_true rfl, w_nilS ⟨_, rfl, k⟩⟩)))
end
end K28
namespace K28
open PySem Pi
section
variable {g : List MO} {E : EC} {Q : D → List MO → Prop} {QI : List (Nat × D) → List MO → Prop} {a b c d p q : Int}
def insS (s : Option Spn) : D := .ins 5 (fsS s)
theorem bool_ok {s : Option Spn} (k : Q (.bl s.isSome) g) : wpC (m_F_Span___bool__ [insS s] g) E Q := by
  cases s with
  | none => exact wpC_def (w_ret (w_op2 (w_fld (w_v rfl (w_of (z := .non) rfl (w_c (w_of (z := .bl false) rfl k)))))))
  | some x => exact wpC_def (w_ret (w_op2 (w_fld (w_v rfl (w_of (z := rg x.b0 x.b1) rfl (w_c (w_of (z := .bl true) rfl k)))))))
theorem tro_ok {o : O} {t : T} {st : S} {EX : EX} {QQ : D → S → Prop} (ho : ∀ sp g, own1 o 0 (insS sp) g = m_F_Span___bool__ [insS sp] g) (h : wp (ev o t st) EX fun x s' => ∃ sp, x = insS sp ∧ QQ (.bl sp.isSome) s') : wp (ev o (.tro 0 t) st) EX QQ :=
  w_tro (wp_mono h fun x s' ⟨sp, e, k⟩ => by subst e; rw [ho]; exact bool_ok ⟨_, rfl, k⟩)
theorem sm_log {i : Int} (h : -100000000000000000000000000000000 < i) (h2 : i < 100000000000000000000000000000000) : i.natAbs.log2 < 200 := by
  by_cases z : i.natAbs = 0
  · rw [z]; decide
  · rw [Nat.log2_lt z]
    have : i.natAbs < 100000000000000000000000000000000 := by omega
    exact Nat.lt_of_lt_of_le this (by decide)
def Sm (i : Int) : Prop := -10000000000000000000000000000000 < i ∧ i < 10000000000000000000000000000000
theorem mul_ok {i j : Int} (h1 : -100000000000000000000000000000000 < i) (h2 : i < 100000000000000000000000000000000) (h3 : -100000000000000000000000000000000 < j) (h4 : j < 100000000000000000000000000000000) : op2S g .mulW (.int i) (.int j) = some (.int (i * j)) := by
  show (bif decide (i.natAbs.log2 + j.natAbs.log2 < 1000000) then some (D.int (i * j)) else none) = _
  have := sm_log h1 h2
  have := sm_log h3 h4
  rw [decide_eq_true (by omega)]
  rfl
def tri (s : Int) : Int := s * (s + 1) / 2
theorem tri_ok {s : Int} (h : -50000000000000000000000000000000 < s) (h2 : s < 50000000000000000000000000000000) (k : Q (.int (tri s)) g) : wpC (m_F__triangle [.int s] g) E Q := by
  exact wpC_def (w_ret (w_op2 (w_op2 (w_v rfl (w_op2 (w_v rfl (w_c (w_of rfl (w_of (mul_ok (by omega) (by omega) (by omega) (by omega)) (w_c (w_of (z := .int (tri s)) rfl k)))))))))))
structure Bd (x : Spn) : Prop where
  b0 : Sm x.b0
  b1 : Sm x.b1
  t0 : Sm x.t0
  t1 : Sm x.t1
  e0 : Sm x.e0
  e1 : Sm x.e1
def tot : Option Spn → Int
  | none => 0
  | some s => (s.b1 - s.b0 + 1) * (s.t1 - s.t0 + 1) - tri (s.e0 - s.t0 + s.b1) - tri (s.t1 - s.b0 - s.e1)
theorem total_ok {s : Option Spn} (hb : ∀ x, s = some x → Bd x) (k : Q (.int (tot s)) g) : wpC (m_F_Span_total [insS s] g) E Q := by
  cases s with
  | none => exact wpC_def (w_ite (w_not (tro_ok (fun _ _ => rfl) (w_v rfl ⟨none, rfl, _, rfl, _, rfl, fun _ => w_retS (w_c k), fun z => (nomatch z)⟩))))
  | some x =>
    obtain ⟨⟨q1, q2⟩, ⟨q3, q4⟩, ⟨q5, q6⟩, ⟨q7, q8⟩, ⟨q9, q10⟩, ⟨q11, q12⟩⟩ := hb x rfl
    refine wpC_def (w_ite (w_not (tro_ok (fun _ _ => rfl) (w_v rfl ⟨some x, rfl, _, rfl, _, rfl, fun z => (nomatch z), fun _ => ?_⟩))))
    refine w_seqN (w_asgN (w_tup (w_cons (w_fld (w_v rfl (w_of (z := rg x.b0 x.b1) rfl (w_cons (w_fld (w_v rfl (w_of (z := rg x.t0 x.t1) rfl (w_cons (w_fld (w_v rfl (w_of (z := rg x.e0 x.e1) rfl (w_nil ⟨Nat.le_of_ble_eq_true rfl, _, rfl, ?_⟩)))))))))))))))
    refine w_asg (w_op2 (w_op2 (w_op2 (w_v rfl (w_v rfl (w_of rfl (w_c (w_of rfl (w_op2 (w_op2 (w_v rfl (w_v rfl (w_of rfl (w_c (w_of rfl (w_of (mul_ok (by omega) (by omega) (by omega) (by omega)) ?_))))))))))))))))
    refine w_ret (w_op2 (w_op2 (w_v rfl (w_callE (m := m_F__triangle) rfl (w_cons (w_op2 (w_op2 (w_v rfl (w_v rfl (w_of rfl (w_v rfl (w_of rfl (w_nil (tri_ok (by omega) (by omega) (w_of rfl ?_)))))))))))))))
    exact w_callE (m := m_F__triangle) rfl (w_cons (w_op2 (w_op2 (w_v rfl (w_v rfl (w_of rfl (w_v rfl (w_of rfl (w_nil (tri_ok (by omega) (by omega) (w_of rfl k)))))))))))
def stp (s : Option Spn) (by_ lo hi : Int) : Option Spn := match s with
  | none => none
  | some x => tight ⟨x.b0 + by_, x.b1 + by_, x.t0 + (by_ + lo), x.t1 + (by_ + hi), x.e0 + lo, x.e1 + hi⟩
theorem stepped_ok {s : Option Spn} {by_ lo hi : Int} (k : Q (insS (stp s by_ lo hi)) g) : wpC (m_F_Span_stepped [insS s, .int by_, .int lo, .int hi] g) E Q := by
  cases s with
  | none => exact wpC_def (w_ite (w_not (tro_ok (fun _ _ => rfl) (w_v rfl ⟨none, rfl, _, rfl, _, rfl, fun _ => w_retS (w_v rfl k), fun z => (nomatch z)⟩))))
  | some x =>
    refine wpC_def (w_ite (w_not (tro_ok (fun _ _ => rfl) (w_v rfl ⟨some x, rfl, _, rfl, _, rfl, fun z => (nomatch z), fun _ => ?_⟩))))
    refine w_seqN (w_ret (w_mkE (m := m_F_Span___init__) rfl (w_cons (w_callE (m := m_F_shifted) rfl (w_cons (w_fld (w_v rfl (w_of (z := rg x.b0 x.b1) rfl (w_cons (w_v rfl (w_cons (w_v rfl (w_nil (shifted_ok ?_))))))))))))))
    refine w_cons (w_callE (m := m_F_shifted) rfl (w_cons (w_fld (w_v rfl (w_of (z := rg x.t0 x.t1) rfl (w_cons (w_op2 (w_v rfl (w_v rfl (w_of rfl (w_cons (w_op2 (w_v rfl (w_v rfl (w_of rfl (w_nil (shifted_ok ?_)))))))))))))))))
    refine w_cons (w_callE (m := m_F_shifted) rfl (w_cons (w_fld (w_v rfl (w_of (z := rg x.e0 x.e1) rfl (w_cons (w_v rfl (w_cons (w_v rfl (w_nil (shifted_ok (w_nil ?_))))))))))))
    exact init_ok (s := ⟨x.b0 + by_, x.b1 + by_, x.t0 + (by_ + lo), x.t1 + (by_ + hi), x.e0 + lo, x.e1 + hi⟩) k
def sgt (s : Option Spn) (lo hi bl : Int) : Option Spn := match s with
  | none => none
  | some x => tight ⟨max x.t0 lo - bl, min x.t1 hi + bl, max x.t0 lo, min x.t1 hi, -bl, bl⟩
theorem sighted_ok {s : Option Spn} {lo hi bl : Int} (k : Q (insS (sgt s lo hi bl)) g) : wpC (m_F_Span_sighted [insS s, .int lo, .int hi, .int bl] g) E Q := by
  cases s with
  | none => exact wpC_def (w_ite (w_not (tro_ok (fun _ _ => rfl) (w_v rfl ⟨none, rfl, _, rfl, _, rfl, fun _ => w_retS (w_v rfl k), fun z => (nomatch z)⟩))))
  | some x =>
    refine wpC_def (w_ite (w_not (tro_ok (fun _ _ => rfl) (w_v rfl ⟨some x, rfl, _, rfl, _, rfl, fun z => (nomatch z), fun _ => ?_⟩))))
    refine w_seqN (w_asg (w_callE (m := m_F_common) rfl (w_cons (w_fld (w_v rfl (w_of (z := rg x.t0 x.t1) rfl (w_cons (w_tup (w_cons (w_v rfl (w_cons (w_v rfl (w_nil ⟨Nat.le_of_ble_eq_true rfl, w_nil (common_ok ?_)⟩)))))))))))))
    refine w_ret (w_mkE (m := m_F_Span___init__) rfl (w_cons (w_tup (w_cons (w_op2 (w_ix (w_v rfl (w_c (w_of rfl (w_v rfl (w_of rfl ?_)))))))))))
    refine w_cons (w_op2 (w_ix (w_v rfl (w_c (w_of rfl (w_v rfl (w_of rfl (w_nil ⟨Nat.le_of_ble_eq_true rfl, ?_⟩))))))))
    refine w_cons (w_v rfl (w_cons (w_tup (w_cons (w_neg (w_v rfl ⟨_, rfl, w_cons (w_v rfl (w_nil ⟨Nat.le_of_ble_eq_true rfl, w_nil ?_⟩))⟩))))))
    exact init_ok (s := ⟨max x.t0 lo - bl, min x.t1 hi + bl, max x.t0 lo, min x.t1 hi, -bl, bl⟩) k
theorem places_out {x : Spn} {n : Int} (h : x.b1 < n) (k : Q .non g) : wpC (m_F_Span_places_at [insS (some x), .int n] g) E Q := by
  refine wpC_def (w_ite (w_or (w_not (tro_ok (fun _ _ => rfl) (w_v rfl ⟨some x, rfl, _, rfl, _, rfl, fun z => (nomatch z), fun _ => ?_⟩)))))
  refine w_or (w_op2 (w_v rfl (w_ix (w_fld (w_v rfl (w_of (z := rg x.b0 x.b1) rfl (w_c (w_of (z := .int x.b0) rfl (w_of (z := .bl (decide (n < x.b0))) rfl ⟨_, rfl, fun _ => ⟨_, rfl, fun _ => w_retS (w_c k), fun z => (nomatch z)⟩, fun _ => ?_⟩)))))))))
  refine w_op2 (w_v rfl (w_ix (w_fld (w_v rfl (w_of (z := rg x.b0 x.b1) rfl (w_c (w_of (z := .int x.b1) rfl (w_of (z := .bl (decide (x.b1 < n))) rfl ⟨_, rfl, fun _ => w_retS (w_c k), fun z => absurd h (of_decide_eq_false z)⟩))))))))
theorem places_in {x : Spn} {n : Int} (h0 : x.b0 ≤ n) (h1 : n ≤ x.b1) (k : Q (rg (max x.t0 (x.e0 + n)) (min x.t1 (x.e1 + n))) g) : wpC (m_F_Span_places_at [insS (some x), .int n] g) E Q := by
  refine wpC_def (w_ite (w_or (w_not (tro_ok (fun _ _ => rfl) (w_v rfl ⟨some x, rfl, _, rfl, _, rfl, fun z => (nomatch z), fun _ => ?_⟩)))))
  refine w_or (w_op2 (w_v rfl (w_ix (w_fld (w_v rfl (w_of (z := rg x.b0 x.b1) rfl (w_c (w_of (z := .int x.b0) rfl (w_of (z := .bl (decide (n < x.b0))) rfl ⟨_, rfl, fun z => absurd (of_decide_eq_true z) (by omega), fun _ => ?_⟩)))))))))
  refine w_op2 (w_v rfl (w_ix (w_fld (w_v rfl (w_of (z := rg x.b0 x.b1) rfl (w_c (w_of (z := .int x.b1) rfl (w_of (z := .bl (decide (x.b1 < n))) rfl ⟨_, rfl, fun z => absurd (of_decide_eq_true z) (by omega), fun _ => ?_⟩))))))))
  refine w_seqN (w_ret (w_callE (m := m_F_common) rfl (w_cons (w_fld (w_v rfl (w_of (z := rg x.t0 x.t1) rfl (w_cons (w_callE (m := m_F_shifted) rfl (w_cons (w_fld (w_v rfl (w_of (z := rg x.e0 x.e1) rfl (w_cons (w_v rfl (w_cons (w_v rfl (w_nil (shifted_ok (w_nil (common_ok k))))))))))))))))))))
end
end K28
namespace K28
open PySem Pi
section
variable {g : List MO} {E : EC} {Q : D → List MO → Prop} {QI : List (Nat × D) → List MO → Prop} {a b c d p q : Int}
theorem bn_t {b : Bool} (h : (!b) = true) : b = false := by cases b <;> first | rfl | cases h
theorem bn_f {b : Bool} (h : (!b) = false) : b = true := by cases b <;> first | rfl | cases h
/-- x <= y <= z of ints, at a state where the three are read -/
theorem ch_ok {o : O} {ta tb tc : T} {st : S} {EX : EX} {QQ : D → S → Prop} {x y z : Int} (ha : ∀ (K : D → S → Prop), K (.int x) st → wp (ev o ta st) EX K) (hb : ∀ (K : D → S → Prop), K (.int y) st → wp (ev o tb st) EX K) (hc : ∀ (K : D → S → Prop), K (.int z) st → wp (ev o tc st) EX K)
    (k : QQ (.bl (decide (x ≤ y ∧ y ≤ z))) st) : wp (ev o (.ch .le .le ta tb tc) st) EX QQ := by
  refine w_ch (ha _ (hb _ ⟨decide (x ≤ y), rfl, fun h => ?_, fun h => ?_⟩))
  · have h := of_decide_eq_true h
    refine hc _ (w_of (z := .bl (decide (y ≤ z))) rfl ?_)
    rw [show decide (x ≤ y ∧ y ≤ z) = decide (y ≤ z) by simp [h]] at k
    exact k
  · have h := of_decide_eq_false h
    rw [show decide (x ≤ y ∧ y ≤ z) = false by simp [h]] at k
    exact k
def int2 : Option Spn → Option Spn → Option Spn
  | none, _ => none
  | some _, none => none
  | some x, some y => tight ⟨max x.b0 y.b0, min x.b1 y.b1, max x.t0 y.t0, min x.t1 y.t1, max x.e0 y.e0, min x.e1 y.e1⟩
theorem and_ok {s u : Option Spn} (k : Q (insS (int2 s u)) g) : wpC (m_F_Span___and__ [insS s, insS u] g) E Q := by
  refine wpC_def (w_ite (w_not (w_isi (w_v rfl ⟨insS u, rfl, _, rfl, _, rfl, fun z => (nomatch z), fun _ => ?_⟩))))
  cases s with
  | none => exact w_seqN (w_ite (w_not (tro_ok (fun _ _ => rfl) (w_v rfl ⟨none, rfl, _, rfl, _, rfl, fun _ => w_retS (w_v rfl k), fun z => (nomatch z)⟩))))
  | some x =>
    refine w_seqN (w_ite (w_not (tro_ok (fun _ _ => rfl) (w_v rfl ⟨some x, rfl, _, rfl, _, rfl, fun z => (nomatch z), fun _ => ?_⟩))))
    cases u with
    | none => exact w_seqN (w_ite (w_not (tro_ok (fun _ _ => rfl) (w_v rfl ⟨none, rfl, _, rfl, _, rfl, fun _ => w_retS (w_v rfl k), fun z => (nomatch z)⟩))))
    | some y =>
      refine w_seqN (w_ite (w_not (tro_ok (fun _ _ => rfl) (w_v rfl ⟨some y, rfl, _, rfl, _, rfl, fun z => (nomatch z), fun _ => ?_⟩))))
      refine w_seqN (w_ret (w_mkE (m := m_F_Span___init__) rfl (w_cons (w_callE (m := m_F_common) rfl (w_cons (w_fld (w_v rfl (w_of (z := rg x.b0 x.b1) rfl (w_cons (w_fld (w_v rfl (w_of (z := rg y.b0 y.b1) rfl (w_nil (common_ok ?_))))))))))))))
      refine w_cons (w_callE (m := m_F_common) rfl (w_cons (w_fld (w_v rfl (w_of (z := rg x.t0 x.t1) rfl (w_cons (w_fld (w_v rfl (w_of (z := rg y.t0 y.t1) rfl (w_nil (common_ok ?_)))))))))))
      refine w_cons (w_callE (m := m_F_common) rfl (w_cons (w_fld (w_v rfl (w_of (z := rg x.e0 x.e1) rfl (w_cons (w_fld (w_v rfl (w_of (z := rg y.e0 y.e1) rfl (w_nil (common_ok (w_nil ?_))))))))))))
      exact init_ok (s := ⟨max x.b0 y.b0, min x.b1 y.b1, max x.t0 y.t0, min x.t1 y.t1, max x.e0 y.e0, min x.e1 y.e1⟩) k
/-- all of p within q -/
def inR (a b c d : Int) : Bool := decide (c ≤ a) && decide (b ≤ d)
def leS : Option Spn → Option Spn → Bool
  | none, _ => true
  | some _, none => false
  | some x, some y => inR x.b0 x.b1 y.b0 y.b1 && (inR x.t0 x.t1 y.t0 y.t1 && inR x.e0 x.e1 y.e0 y.e1)
theorem with_ok {v r : D} {L : List D} {k : Nat} {x : Spn} (hv : view g v = .lst L) (h3 : L.length = 3) (hk : L2.ixN L.length (k : Int) = some k) (hL : L.set k r = [rg x.b0 x.b1, rg x.t0 x.t1, rg x.e0 x.e1]) (q : Q (insS (tight x)) g) : wpC (m_F__with_range [v, .int k, r] g) E Q := by
  have e1 : biS g .list [v] = some (.lst L) := by
    show (seqD (view g v)).map D.lst = _
    rw [hv]
    rfl
  refine wpC_def (w_mkf (w_evP (w_bi (w_cons (w_v rfl (w_nil (w_of e1 (w_ko (by rw [h3]; exact Nat.le_of_ble_eq_true rfl) ?_))))))))
  refine w_seto (w_v rfl ⟨rfl, w_v rfl ⟨L, k, k, rfl, rfl, hk, ?_⟩⟩)
  rw [hL]
  exact w_ret (w_mkE (m := m_F_Span___init__) rfl (w_cons (w_ixo (w_c ⟨_, rfl, w_of (z := rg x.b0 x.b1) rfl (w_cons (w_ixo (w_c ⟨_, rfl, w_of (z := rg x.t0 x.t1) rfl (w_cons (w_ixo (w_c ⟨_, rfl, w_of (z := rg x.e0 x.e1) rfl (w_nil (init_ok (s := x) q))⟩)))⟩)))⟩))))
end
end K28
namespace K28
open PySem Pi
section
variable {g : List MO} {E : EC} {Q : D → List MO → Prop} {QI : List (Nat × D) → List MO → Prop} {a b c d p q : Int}
theorem view_ref {n : Nat} {L : List D} (h : g[n]? = some (.lst L)) : view g (.ref n) = .lst L := by
  show (match g[n]? with
    | some (.lst ds) => D.lst ds
    | _ => .ref n) = _
  rw [h]
abbrev tBodyL : TS := (.seq (.app 2 (.call 68 (.cons (.v 3) (.cons (.v 4) (.cons (.tup (.cons (.ix (.ix (.v 3) (.v 4)) (.c (.int 0))) (.cons (.op2 .sub (.v 5) (.c (.int 1))) .nil))) .nil))) [])) (.seq (.app 2 (.call 68 (.cons (.v 3) (.cons (.v 4) (.cons (.tup (.cons (.op2 .add (.v 6) (.c (.int 1))) (.cons (.ix (.ix (.v 3) (.v 4)) (.c (.int 1))) .nil))) .nil))) [])) (.setr (.v 3) (.v 4) (.call 49 (.cons (.ix (.v 3) (.v 4)) (.cons (.tup (.cons (.v 5) (.cons (.v 6) .nil))) .nil)) []))))
theorem turnP {k n : Nat} {ps L : List D} {c0 c1 l h : Int} {x1 x2 : Spn} {sl ot a7 : SV} {EX : EX} {K : F → S → Prop} (hv : g[n]? = some (.lst L)) (h3 : L.length = 3) (hk : L2.ixN L.length (k : Int) = some k) (hix : ixS (.lst L) (.int k) = some (rg c0 c1))
    (h1 : L.set k (rg c0 (l - 1)) = [rg x1.b0 x1.b1, rg x1.t0 x1.t1, rg x1.e0 x1.e1]) (h2 : L.set k (rg (h + 1) c1) = [rg x2.b0 x2.b1, rg x2.t0 x2.t1, rg x2.e0 x2.e1]) (hp : ps.length ≤ 10)
    (q : ∀ g', g' = g.set n (.lst (L.set k (rg (max c0 l) (min c1 h)))) → K .nx ⟨[sl, ot, .own (ps ++ [insS (tight x1)] ++ [insS (tight x2)]), .v (.ref n), .v (.int k), .v (.int l), .v (.int h), a7], g'⟩) :
    wp (evS o_F_Span_less tBodyL ⟨[sl, ot, .own ps, .v (.ref n), .v (.int k), .v (.int l), .v (.int h), a7], g⟩) EX K := by
  have vw : view g (.ref n) = .lst L := view_ref hv
  have vx : ixS (view g (.ref n)) (.int k) = some (rg c0 c1) := by rw [vw]; exact hix
  refine w_app rfl (w_callE (m := m_F__with_range) rfl (w_cons (w_v rfl (w_cons (w_v rfl (w_cons (w_tup (w_cons (w_ix (w_ix (w_v rfl (w_v rfl (w_of vx (w_c (w_of (z := .int c0) rfl (w_cons (w_op2 (w_v rfl (w_c (w_of (z := .int (l - 1)) rfl (w_nil ⟨Nat.le_of_ble_eq_true rfl, w_nil (with_ok vw h3 hk h1 ?_)⟩)))))))))))))))))))))
  refine ⟨ps, rfl, by unfold big; omega, ?_⟩
  refine w_app rfl (w_callE (m := m_F__with_range) rfl (w_cons (w_v rfl (w_cons (w_v rfl (w_cons (w_tup (w_cons (w_op2 (w_v rfl (w_c (w_of (z := .int (h + 1)) rfl (w_cons (w_ix (w_ix (w_v rfl (w_v rfl (w_of vx (w_c (w_of (z := .int c1) rfl (w_nil ⟨Nat.le_of_ble_eq_true rfl, w_nil (with_ok vw h3 hk h2 ?_)⟩)))))))))))))))))))))
  refine ⟨_, rfl, by simp; unfold big; omega, ?_⟩
  refine w_last (w_setr (w_callE (m := m_F_common) rfl (w_cons (w_ix (w_v rfl (w_v rfl (w_of vx (w_cons (w_tup (w_cons (w_v rfl (w_cons (w_v rfl (w_nil ⟨Nat.le_of_ble_eq_true rfl, w_nil (common_ok ?_)⟩))))))))))))))
  exact w_v rfl (w_v rfl ⟨n, k, L, k, rfl, rfl, hv, hk, w_nilS (q _ rfl)⟩)
def neD : D → Bool
  | .ins _ ((_, .tup _) :: _) => true
  | _ => false
theorem neD_ins (s : Option Spn) : neD (insS s) = s.isSome := by cases s <;> rfl
def pcs (x y : Spn) : List (Option Spn) :=
  [tight ⟨x.b0, y.b0 - 1, x.t0, x.t1, x.e0, x.e1⟩, tight ⟨y.b1 + 1, x.b1, x.t0, x.t1, x.e0, x.e1⟩,
   tight ⟨max x.b0 y.b0, min x.b1 y.b1, x.t0, y.t0 - 1, x.e0, x.e1⟩, tight ⟨max x.b0 y.b0, min x.b1 y.b1, y.t1 + 1, x.t1, x.e0, x.e1⟩,
   tight ⟨max x.b0 y.b0, min x.b1 y.b1, max x.t0 y.t0, min x.t1 y.t1, x.e0, y.e0 - 1⟩, tight ⟨max x.b0 y.b0, min x.b1 y.b1, max x.t0 y.t0, min x.t1 y.t1, y.e1 + 1, x.e1⟩]
theorem and_eq {s u : Option Spn} : own2 o_F_Span_less 1 (insS s) (insS u) g = m_F_Span___and__ [insS s, insS u] g := rfl
theorem less_ok {x y : Spn} (hi : (int2 (some x) (some y)).isSome = true) (k : ∀ g', (∃ m, g' = g ++ [m]) → Q (.tup (((pcs x y).map insS).filter neD)) g') : wpC (m_F_Span_less [insS (some x), insS (some y)] g) E Q := by
  refine wpC_def (w_ite (w_not (tro_ok (fun _ _ => rfl) (w_opm (w_v rfl (w_v rfl ?_))))))
  rw [and_eq]
  refine and_ok ⟨_, rfl, _, rfl, _, rfl, fun z => ?_, fun _ => ?_⟩
  · rw [hi] at z; cases z
  refine w_seqN (w_mko (w_nil ⟨Nat.le_of_ble_eq_true rfl, ?_⟩))
  refine w_asg (w_mkr (w_cons (w_fld (w_v rfl (w_of (z := rg x.b0 x.b1) rfl (w_cons (w_fld (w_v rfl (w_of (z := rg x.t0 x.t1) rfl (w_cons (w_fld (w_v rfl (w_of (z := rg x.e0 x.e1) rfl (w_nil ⟨Nat.le_of_ble_eq_true rfl, ?_⟩))))))))))))))
  refine w_forL (w_enmT (w_tup (w_cons (w_fld (w_v rfl (w_of (z := rg y.b0 y.b1) rfl (w_cons (w_fld (w_v rfl (w_of (z := rg y.t0 y.t1) rfl (w_cons (w_fld (w_v rfl (w_of (z := rg y.e0 y.e1) rfl (w_nil ⟨Nat.le_of_ble_eq_true rfl, w_of (z := [.tup [.int 0, rg y.b0 y.b1], .tup [.int 1, rg y.t0 y.t1], .tup [.int 2, rg y.e0 y.e1]]) rfl ?_⟩)))))))))))))))
  have g0 : (g ++ [.lst [rg x.b0 x.b1, rg x.t0 x.t1, rg x.e0 x.e1]])[g.length]? = some (MO.lst [rg x.b0 x.b1, rg x.t0 x.t1, rg x.e0 x.e1]) := by simp
  refine wL_cons ⟨_, rfl, ?_⟩
  refine turnP (k := 0) (n := g.length) (x1 := ⟨x.b0, y.b0 - 1, x.t0, x.t1, x.e0, x.e1⟩) (x2 := ⟨y.b1 + 1, x.b1, x.t0, x.t1, x.e0, x.e1⟩) g0 rfl rfl rfl rfl rfl (Nat.zero_le _) ?_
  intro g1 e1
  have e1 : g1 = g ++ [.lst [rg (max x.b0 y.b0) (min x.b1 y.b1), rg x.t0 x.t1, rg x.e0 x.e1]] := by rw [e1]; simp
  have g2 : g1[g.length]? = some (MO.lst [rg (max x.b0 y.b0) (min x.b1 y.b1), rg x.t0 x.t1, rg x.e0 x.e1]) := by rw [e1]; simp
  refine wL_cons ⟨_, rfl, ?_⟩
  refine turnP (k := 1) (n := g.length) (x1 := ⟨max x.b0 y.b0, min x.b1 y.b1, x.t0, y.t0 - 1, x.e0, x.e1⟩) (x2 := ⟨max x.b0 y.b0, min x.b1 y.b1, y.t1 + 1, x.t1, x.e0, x.e1⟩) g2 rfl rfl rfl rfl rfl (Nat.le_of_ble_eq_true rfl) ?_
  intro g3 e3
  have e3 : g3 = g ++ [.lst [rg (max x.b0 y.b0) (min x.b1 y.b1), rg (max x.t0 y.t0) (min x.t1 y.t1), rg x.e0 x.e1]] := by rw [e3, e1]; simp
  have g4 : g3[g.length]? = some (MO.lst [rg (max x.b0 y.b0) (min x.b1 y.b1), rg (max x.t0 y.t0) (min x.t1 y.t1), rg x.e0 x.e1]) := by rw [e3]; simp
  refine wL_cons ⟨_, rfl, ?_⟩
  refine turnP (k := 2) (n := g.length) (x1 := ⟨max x.b0 y.b0, min x.b1 y.b1, max x.t0 y.t0, min x.t1 y.t1, x.e0, y.e0 - 1⟩) (x2 := ⟨max x.b0 y.b0, min x.b1 y.b1, max x.t0 y.t0, min x.t1 y.t1, y.e1 + 1, x.e1⟩) g4 rfl rfl rfl rfl rfl (Nat.le_of_ble_eq_true rfl) ?_
  intro g5 e5
  have e5 : ∃ m, g5 = g ++ [m] := ⟨.lst [rg (max x.b0 y.b0) (min x.b1 y.b1), rg (max x.t0 y.t0) (min x.t1 y.t1), rg (max x.e0 y.e0) (min x.e1 y.e1)], by rw [e5, e3]; simp⟩
  refine wL_nil (w_frz rfl (w_ret (w_bi (w_cons (w_compF neD (fun g' => g' = g5) (w_it (w_v rfl (w_of (z := (pcs x y).map insS) rfl ⟨Nat.le_of_ble_eq_true rfl, rfl, fun d hd g' hg => ?_, fun g' hg => ?_⟩))))))))
  · subst hg
    obtain ⟨s, _, rfl⟩ := List.mem_map.mp hd
    refine ⟨_, rfl, tro_ok (fun _ _ => rfl) (w_v rfl ⟨s, rfl, ?_⟩)⟩
    rw [neD_ins]
    exact ⟨rfl, fun _ => w_v rfl ⟨rfl, rfl⟩, rfl⟩
  · subst hg
    exact w_nil (w_of (z := .tup (((pcs x y).map insS).filter neD)) rfl (k _ e5))
/-! the law's own draws -/
def Bx (n : Nat) (g : List MO) : Prop := ∃ x y z : Int, g[n]? = some (.lst [.int x, .int y, .int z])
theorem take_ok {n : Nat} {k : Int} (hb : Bx n g) (h0 : 0 < k) (h1 : k < 100000000000000000000000000000000) (q : ∀ x g', 0 ≤ x → x < k → Bx n g' → g'.length = g.length → Q (.int x) g') : wpC (m_F__law_take [.ref n, .int k] g) E Q := by
  obtain ⟨x, y, z, hg⟩ := hb
  have hn : n < g.length := (List.getElem?_eq_some_iff.mp hg).1
  have vx : ∀ j w, ixS (.lst [.int x, .int y, .int z]) j = some w → ixS (view g (.ref n)) j = some w := fun j w h => by
    have : view g (.ref n) = .lst [.int x, .int y, .int z] := view_ref hg
    rw [this]; exact h
  refine wpC_def (w_ite (w_op2 (w_ix (w_v rfl (w_c (w_of (vx (.int 0) (.int x) rfl) (w_c (w_of (z := .bl (decide (0 < x))) rfl ⟨_, rfl, fun _ => ?_, fun _ => ?_⟩))))))))
  · have e1 : op2S g .mod (.int x) (.int k) = some (.int (x % k)) := by
      show (bif decide (0 < k) then some (D.int (x % k)) else none) = _
      rw [decide_eq_true h0]; rfl
    have e2 : op2S g .fdivW (.int x) (.int k) = some (.int (x / k)) := by
      show (bif decide (0 < k) && decide (k.natAbs.log2 < 9000) then some (D.int (x / k)) else none) = _
      have := sm_log (i := k) (by omega) h1
      rw [decide_eq_true h0, decide_eq_true (by omega)]; rfl
    refine w_seqS (w_asg (w_op2 (w_bi (w_cons (w_ix (w_v rfl (w_c (w_of (vx (.int 0) (.int x) rfl) (w_nil (w_of rfl (w_v rfl (w_of e1 ?_))))))))))))
    refine w_seqS (w_setr (w_op2 (w_ix (w_v rfl (w_c (w_of (vx (.int 0) (.int x) rfl) (w_v rfl (w_of e2 (w_v rfl (w_c ⟨n, 0, _, 0, rfl, rfl, hg, rfl, ?_⟩))))))))))
    refine w_retS (w_v rfl (q _ _ (Int.emod_nonneg _ (by omega)) (Int.emod_lt_of_pos _ h0) ⟨x / k, y, z, ?_⟩ (by simp)))
    simp [hn]
  · refine w_seqN (w_setr (w_op2 (w_ix (w_v rfl (w_c (w_of (vx (.int 2) (.int z) rfl) (w_c (w_of rfl (w_v rfl (w_c ⟨n, 2, _, 2, rfl, rfl, hg, rfl, ?_⟩))))))))))
    have hg2 : (g.set n (.lst ([D.int x, D.int y, D.int z].set 2 (.int (z + 1)))))[n]? = some (.lst [.int x, .int y, .int (z + 1)]) := by simp [hn]
    have vx2 : ∀ j w, ixS (.lst [.int x, .int y, .int (z + 1)]) j = some w → ixS (view (g.set n (.lst ([D.int x, D.int y, D.int z].set 2 (.int (z + 1))))) (.ref n)) j = some w := fun j w h => by
      have : view (g.set n (.lst ([D.int x, D.int y, D.int z].set 2 (.int (z + 1))))) (.ref n) = .lst [.int x, .int y, .int (z + 1)] := view_ref hg2
      rw [this]; exact h
    refine w_asg (w_op2 (w_bi (w_cons (w_op2 (w_op2 (w_ix (w_v rfl (w_c (w_of (vx2 (.int 1) (.int y) rfl) (w_op2 (w_c (w_ix (w_v rfl (w_c (w_of (vx2 (.int 2) (.int (z + 1)) rfl) (w_of rfl (w_of rfl (w_c (w_of rfl (w_nil (w_of rfl (w_c (w_of rfl ?_)))))))))))))))))))))))
    have hg3 : ∀ w : Int, ((g.set n (.lst ([D.int x, D.int y, D.int z].set 2 (.int (z + 1))))).set n (.lst ([D.int x, D.int y, D.int (z + 1)].set 1 (.int w))))[n]? = some (.lst [.int x, .int w, .int (z + 1)]) := fun w => by simp [hn]
    have vx3 : ∀ w : Int, ixS (view ((g.set n (.lst ([D.int x, D.int y, D.int z].set 2 (.int (z + 1))))).set n (.lst ([D.int x, D.int y, D.int (z + 1)].set 1 (.int w)))) (.ref n)) (.int 1) = some (.int w) := fun w => by
      rw [view_ref (hg3 w)]; rfl
    refine w_setr (w_op2 (w_op2 (w_bi (w_cons (w_op2 (w_op2 (w_v rfl (w_c (w_of rfl (w_c (w_of rfl (w_nil (w_of rfl (w_c (w_of rfl (w_c (w_of rfl (w_v rfl (w_c ⟨n, 1, _, 1, rfl, rfl, hg2, rfl, ?_⟩)))))))))))))))))))
    have e1 : ∀ m : Int, op2S g .mod (.int m) (.int k) = some (.int (m % k)) := fun m => by
      show (bif decide (0 < k) then some (D.int (m % k)) else none) = _
      rw [decide_eq_true h0]; rfl
    refine w_ret (w_op2 (w_bi (w_cons (w_op2 (w_op2 (w_op2 (w_v rfl (w_c (w_of rfl (w_ix (w_v rfl (w_c (w_of (vx3 _) (w_of rfl (w_c (w_of rfl (w_nil (w_of rfl (w_v rfl (w_of (e1 _) ?_))))))))))))))))))))
    exact q _ _ (Int.emod_nonneg _ (by omega)) (Int.emod_lt_of_pos _ h0) ⟨x, _, z + 1, hg3 _⟩ (by simp)
end
end K28
namespace K28
open PySem Pi
/-- a pair is in a span -/
def Mm : Option Spn → Int → Int → Prop
  | none, _, _ => False
  | some x, b, t => x.b0 ≤ b ∧ b ≤ x.b1 ∧ x.t0 ≤ t ∧ t ≤ x.t1 ∧ x.e0 ≤ t - b ∧ t - b ≤ x.e1
/-- bounds that are met -/
def Tt : Option Spn → Prop
  | none => True
  | some x => x.b0 ≤ x.b1 ∧ x.t0 ≤ x.t1 ∧ x.e0 ≤ x.e1 ∧ x.t0 - x.e1 ≤ x.b0 ∧ x.b1 ≤ x.t1 - x.e0 ∧ x.b0 + x.e0 ≤ x.t0 ∧ x.t1 ≤ x.b1 + x.e1 ∧ x.t0 - x.b1 ≤ x.e0 ∧ x.e1 ≤ x.t1 - x.b0
theorem tight_tt (s : Spn) : Tt (tight s) := by
  unfold tight
  split
  · show _ ∧ _
    simp only
    omega
  · exact True.intro
theorem tight_mm {s : Spn} {b t : Int} : Mm (tight s) b t ↔ s.b0 ≤ b ∧ b ≤ s.b1 ∧ s.t0 ≤ t ∧ t ≤ s.t1 ∧ s.e0 ≤ t - b ∧ t - b ≤ s.e1 := by
  unfold tight
  split
  · show (_ ∧ _) ↔ _
    simp only
    omega
  · rename_i h
    constructor
    · intro z; exact z.elim
    · intro z; exact absurd (by omega) h
theorem bounds {x y : Spn} (hx : Tt (some x)) (h : ∀ b t, Mm (some x) b t → Mm (some y) b t) : y.b0 ≤ x.b0 ∧ x.b1 ≤ y.b1 ∧ y.t0 ≤ x.t0 ∧ x.t1 ≤ y.t1 ∧ y.e0 ≤ x.e0 ∧ x.e1 ≤ y.e1 := by
  have hx : x.b0 ≤ x.b1 ∧ x.t0 ≤ x.t1 ∧ x.e0 ≤ x.e1 ∧ x.t0 - x.e1 ≤ x.b0 ∧ x.b1 ≤ x.t1 - x.e0 ∧ x.b0 + x.e0 ≤ x.t0 ∧ x.t1 ≤ x.b1 + x.e1 ∧ x.t0 - x.b1 ≤ x.e0 ∧ x.e1 ≤ x.t1 - x.b0 := hx
  have w : ∀ b t, (x.b0 ≤ b ∧ b ≤ x.b1 ∧ x.t0 ≤ t ∧ t ≤ x.t1 ∧ x.e0 ≤ t - b ∧ t - b ≤ x.e1) → y.b0 ≤ b ∧ b ≤ y.b1 ∧ y.t0 ≤ t ∧ t ≤ y.t1 ∧ y.e0 ≤ t - b ∧ t - b ≤ y.e1 := h
  have w1 := w x.b0 (max x.t0 (x.b0 + x.e0)) (by omega)
  have w2 := w x.b1 (min x.t1 (x.b1 + x.e1)) (by omega)
  have w3 := w (min x.b1 (x.t0 - x.e0)) x.t0 (by omega)
  have w4 := w (max x.b0 (x.t1 - x.e1)) x.t1 (by omega)
  have w5 := w (max x.b0 (x.t0 - x.e0)) (max x.b0 (x.t0 - x.e0) + x.e0) (by omega)
  have w6 := w (min x.b1 (x.t1 - x.e1)) (min x.b1 (x.t1 - x.e1) + x.e1) (by omega)
  omega
theorem some_mem {x : Spn} (hx : Tt (some x)) : ∃ b t, Mm (some x) b t := by
  have hx : x.b0 ≤ x.b1 ∧ x.t0 ≤ x.t1 ∧ x.e0 ≤ x.e1 ∧ x.t0 - x.e1 ≤ x.b0 ∧ x.b1 ≤ x.t1 - x.e0 ∧ x.b0 + x.e0 ≤ x.t0 ∧ x.t1 ≤ x.b1 + x.e1 ∧ x.t0 - x.b1 ≤ x.e0 ∧ x.e1 ≤ x.t1 - x.b0 := hx
  exact ⟨x.b0, max x.t0 (x.b0 + x.e0), show _ ∧ _ from by omega⟩
theorem leS_iff {s u : Option Spn} (hs : Tt s) : leS s u = true ↔ ∀ b t, Mm s b t → Mm u b t := by
  cases s with
  | none => exact ⟨fun _ b t z => z.elim, fun _ => rfl⟩
  | some x =>
    cases u with
    | none =>
      obtain ⟨b, t, h⟩ := some_mem hs
      exact ⟨fun z => (nomatch z), fun z => (z b t h).elim⟩
    | some y =>
      constructor
      · intro h b t hm
        have h : (inR x.b0 x.b1 y.b0 y.b1 && (inR x.t0 x.t1 y.t0 y.t1 && inR x.e0 x.e1 y.e0 y.e1)) = true := h
        simp only [inR, Bool.and_eq_true, decide_eq_true_eq] at h
        have hm : x.b0 ≤ b ∧ b ≤ x.b1 ∧ x.t0 ≤ t ∧ t ≤ x.t1 ∧ x.e0 ≤ t - b ∧ t - b ≤ x.e1 := hm
        show _ ∧ _
        omega
      · intro h
        have := bounds hs h
        show (inR x.b0 x.b1 y.b0 y.b1 && (inR x.t0 x.t1 y.t0 y.t1 && inR x.e0 x.e1 y.e0 y.e1)) = true
        simp only [inR, Bool.and_eq_true, decide_eq_true_eq]
        omega
theorem ext {s u : Option Spn} (hs : Tt s) (hu : Tt u) (h : ∀ b t, Mm s b t ↔ Mm u b t) : s = u := by
  cases s with
  | none =>
    cases u with
    | none => rfl
    | some y =>
      obtain ⟨b, t, hm⟩ := some_mem hu
      exact ((h b t).mpr hm).elim
  | some x =>
    cases u with
    | none =>
      obtain ⟨b, t, hm⟩ := some_mem hs
      exact ((h b t).mp hm).elim
    | some y =>
      have h1 := bounds hs fun b t => (h b t).mp
      have h2 := bounds hu fun b t => (h b t).mpr
      obtain ⟨b0, b1, t0, t1, e0, e1⟩ := x
      obtain ⟨b0', b1', t0', t1', e0', e1'⟩ := y
      simp only at h1 h2
      simp only [Option.some.injEq, Spn.mk.injEq]
      omega
theorem int2_tt {s u : Option Spn} : Tt (int2 s u) := by
  cases s with
  | none => exact True.intro
  | some x => cases u with
    | none => exact True.intro
    | some y => exact tight_tt _
theorem int2_mm {s u : Option Spn} {b t : Int} : Mm (int2 s u) b t ↔ Mm s b t ∧ Mm u b t := by
  cases s with
  | none => exact ⟨fun z => z.elim, fun z => z.1⟩
  | some x => cases u with
    | none => exact ⟨fun z => z.elim, fun z => z.2⟩
    | some y =>
      refine Iff.trans tight_mm ?_
      show _ ↔ (_ ∧ _) ∧ (_ ∧ _)
      simp only
      omega
theorem stp_tt {s : Option Spn} {p q r : Int} : Tt (stp s p q r) := by
  cases s with
  | none => exact True.intro
  | some x => exact tight_tt _
theorem sgt_tt {s : Option Spn} {p q r : Int} : Tt (sgt s p q r) := by
  cases s with
  | none => exact True.intro
  | some x => exact tight_tt _
theorem stp_some {x : Spn} {p q r : Int} (hx : Tt (some x)) (h : q ≤ r) : stp (some x) p q r = some ⟨x.b0 + p, x.b1 + p, x.t0 + (p + q), x.t1 + (p + r), x.e0 + q, x.e1 + r⟩ := by
  have hx : x.b0 ≤ x.b1 ∧ x.t0 ≤ x.t1 ∧ x.e0 ≤ x.e1 ∧ x.t0 - x.e1 ≤ x.b0 ∧ x.b1 ≤ x.t1 - x.e0 ∧ x.b0 + x.e0 ≤ x.t0 ∧ x.t1 ≤ x.b1 + x.e1 ∧ x.t0 - x.b1 ≤ x.e0 ∧ x.e1 ≤ x.t1 - x.b0 := hx
  refine ext stp_tt ?_ fun b t => ?_
  · show _ ∧ _
    simp only
    omega
  · refine Iff.trans tight_mm ?_
    exact Iff.rfl
/-! the law's rules -/
variable {p q r : Option Spn} {y lo hi bl a c : Int}
theorem c1 (hp : Tt p) (h0 : lo ≤ 0) (h1 : 0 ≤ hi) : stp (stp p y lo hi) 1 (0 - 1) 2 = stp p (y + 1) (lo - 1) (hi + 2) := by
  cases p with
  | none => rfl
  | some x =>
    have := stp_tt (s := some x) (p := y) (q := lo) (r := hi)
    rw [stp_some hp (by omega)] at this ⊢
    rw [stp_some this (by omega), stp_some hp (by omega)]
    simp only [Option.some.injEq, Spn.mk.injEq]
    omega
theorem c2 (hp : Tt p) : stp (stp p y 0 0) (0 - y) 0 0 = p := by
  cases p with
  | none => rfl
  | some x =>
    have := stp_tt (s := some x) (p := y) (q := 0) (r := 0)
    rw [stp_some hp (by omega)] at this ⊢
    rw [stp_some this (by omega)]
    obtain ⟨b0, b1, t0, t1, e0, e1⟩ := x
    simp only [Option.some.injEq, Spn.mk.injEq]
    omega
theorem c2b (hp : Tt p) (h0 : lo ≤ 0) (h1 : 0 ≤ hi) : leS p (stp p 0 lo hi) = true := by
  rw [leS_iff hp]
  intro b t hm
  cases p with
  | none => exact hm.elim
  | some x =>
    have hm : x.b0 ≤ b ∧ b ≤ x.b1 ∧ x.t0 ≤ t ∧ t ≤ x.t1 ∧ x.e0 ≤ t - b ∧ t - b ≤ x.e1 := hm
    rw [stp_some hp (by omega)]
    show _ ∧ _
    simp only
    omega
theorem stp_mono (hp : Tt p) (hq : Tt q) (h : lo ≤ hi) (hle : ∀ b t, Mm p b t → Mm q b t) : ∀ b t, Mm (stp p y lo hi) b t → Mm (stp q y lo hi) b t := by
  intro b t hm
  cases p with
  | none => exact hm.elim
  | some x =>
    cases q with
    | none =>
      obtain ⟨b, t, hm⟩ := some_mem hp
      exact (hle b t hm).elim
    | some z =>
      have := bounds hp hle
      rw [stp_some hp h] at hm
      rw [stp_some hq h]
      have hm : _ ∧ _ := hm
      show _ ∧ _
      simp only at hm ⊢
      omega
theorem c3 (hp : Tt p) (hq : Tt q) (h : lo ≤ hi) : leS (stp (int2 p q) y lo hi) (int2 (stp p y lo hi) (stp q y lo hi)) = true := by
  rw [leS_iff stp_tt]
  intro b t hm
  rw [int2_mm]
  exact ⟨stp_mono int2_tt hp h (fun b t z => (int2_mm.mp z).1) b t hm, stp_mono int2_tt hq h (fun b t z => (int2_mm.mp z).2) b t hm⟩
theorem sgt_mm {x : Spn} {b t : Int} : Mm (sgt (some x) lo hi bl) b t ↔ max x.t0 lo - bl ≤ b ∧ b ≤ min x.t1 hi + bl ∧ max x.t0 lo ≤ t ∧ t ≤ min x.t1 hi ∧ -bl ≤ t - b ∧ t - b ≤ bl := tight_mm
theorem c5 (hp : Tt p) : sgt p lo hi bl = sgt (stp p 0 0 0) lo hi bl := by
  cases p with
  | none => rfl
  | some x =>
    rw [stp_some hp (by omega)]
    obtain ⟨b0, b1, t0, t1, e0, e1⟩ := x
    simp only [Int.add_zero]
theorem c6 (hb : 0 ≤ bl) : leS (sgt p lo hi bl) (sgt p (lo - 1) hi (bl + 1)) = true := by
  rw [leS_iff sgt_tt]
  intro b t hm
  cases p with
  | none => exact hm.elim
  | some x =>
    rw [sgt_mm] at hm ⊢
    omega
theorem c4 (hb : 0 ≤ bl) : sgt (sgt p lo hi bl) lo hi 0 = sgt p lo hi 0 := by
  cases p with
  | none => rfl
  | some x =>
    refine ext sgt_tt sgt_tt fun b t => ?_
    by_cases h : max x.t0 lo ≤ min x.t1 hi
    · have e : sgt (some x) lo hi bl = some ⟨max x.t0 lo - bl, min x.t1 hi + bl, max x.t0 lo, min x.t1 hi, -bl, bl⟩ := by
        refine ext sgt_tt ?_ fun b t => sgt_mm
        show _ ∧ _
        simp only
        omega
      rw [e, sgt_mm, sgt_mm]
      simp only
      omega
    · have e : sgt (some x) lo hi bl = none := by
        refine ext sgt_tt True.intro fun b t => ?_
        rw [sgt_mm]
        exact ⟨fun z => absurd (by omega) h, fun z => z.elim⟩
      rw [e, sgt_mm]
      exact ⟨fun z => z.elim, fun z => absurd (by omega) h⟩
theorem c7a : int2 (int2 p q) r = int2 p (int2 q r) := ext int2_tt int2_tt fun b t => by
  rw [int2_mm, int2_mm, int2_mm, int2_mm]
  exact and_assoc
theorem c7b (hp : Tt p) : int2 p p = p := ext int2_tt hp fun b t => by
  rw [int2_mm]
  exact and_self_iff
theorem c7c (hp : Tt p) : leS p q = true ↔ int2 p q = p := by
  rw [leS_iff hp]
  constructor
  · intro h
    refine ext int2_tt hp fun b t => ?_
    rw [int2_mm]
    exact ⟨fun z => z.1, fun z => ⟨z, h b t z⟩⟩
  · intro h b t hm
    rw [← h, int2_mm] at hm
    exact hm.2
end K28
namespace K28
open PySem Pi
theorem tri_s (k : Int) : tri (k + 1) = tri k + (k + 1) := by
  show (k + 1) * (k + 1 + 1) / 2 = k * (k + 1) / 2 + (k + 1)
  rw [show (k + 1) * (k + 1 + 1) = k * (k + 1) + (k + 1) * 2 from by rw [Int.mul_comm k, ← Int.mul_add, show k + 1 + 1 = k + 2 from by omega], Int.add_mul_ediv_right _ _ (by decide)]
theorem tri_0 : tri 0 = 0 := rfl
/-- a sum over a window -/
def sm (f : Int → Int) (lo : Int) : Nat → Int
  | 0 => 0
  | n + 1 => sm f lo n + f (lo + n)
theorem sm_add {f h : Int → Int} {lo : Int} : ∀ n, sm (fun b => f b + h b) lo n = sm f lo n + sm h lo n
  | 0 => rfl
  | n + 1 => by
    show sm (fun b => f b + h b) lo n + (f _ + h _) = (sm f lo n + f _) + (sm h lo n + h _)
    rw [sm_add n]
    omega
theorem sm_congr {f h : Int → Int} {lo : Int} : ∀ {n : Nat}, (∀ b, lo ≤ b → b < lo + n → f b = h b) → sm f lo n = sm h lo n
  | 0, _ => rfl
  | n + 1, w => by
    show sm f lo n + f _ = sm h lo n + h _
    rw [sm_congr (n := n) fun b h1 h2 => w b h1 (by omega), w (lo + n) (by omega) (by omega)]
theorem sm_z {lo : Int} {f : Int → Int} : ∀ {n : Nat}, (∀ b, lo ≤ b → b < lo + n → f b = 0) → sm f lo n = 0
  | 0, _ => rfl
  | n + 1, w => by
    show sm f lo n + f _ = 0
    rw [sm_z (n := n) fun b h1 h2 => w b h1 (by omega), w (lo + n) (by omega) (by omega)]
    rfl
theorem sm_split {f : Int → Int} {lo : Int} {n : Nat} : ∀ m : Nat, sm f lo (n + m) = sm f lo n + sm f (lo + n) m
  | 0 => by
    show sm f lo n = sm f lo n + 0
    omega
  | m + 1 => by
    show sm f lo (n + m) + f (lo + ((n + m : Nat) : Int)) = sm f lo n + (sm f (lo + n) m + f (lo + n + m))
    rw [sm_split m, show lo + ((n + m : Nat) : Int) = lo + n + m from by omega]
    omega
theorem sm_dn {s lo : Int} (h : lo ≤ s) : ∀ n : Nat, sm (fun b => max 0 (s - b)) lo n = tri (s - lo) - tri (max 0 (s - lo - n))
  | 0 => by
    show 0 = _
    rw [show max 0 (s - lo - ((0 : Nat) : Int)) = s - lo from by omega]
    omega
  | n + 1 => by
    show sm (fun b => max 0 (s - b)) lo n + max 0 (s - (lo + n)) = _
    rw [sm_dn h n]
    by_cases z : 0 < s - lo - n
    · have e := tri_s (s - lo - n - 1)
      rw [show s - lo - n - 1 + 1 = s - lo - n from by omega] at e
      rw [show max 0 (s - lo - n) = s - lo - n from by omega, show max 0 (s - lo - ((n + 1 : Nat) : Int)) = s - lo - n - 1 from by omega, e]
      omega
    · rw [show max 0 (s - lo - n) = 0 from by omega, show max 0 (s - lo - ((n + 1 : Nat) : Int)) = 0 from by omega]
      omega
theorem sm_up {c lo : Int} (h : lo ≤ c) : ∀ n : Nat, sm (fun b => max 0 (b - c)) lo n = tri (max 0 (lo + n - 1 - c))
  | 0 => by
    show 0 = _
    rw [show max 0 (lo + ((0 : Nat) : Int) - 1 - c) = 0 from by omega]
    rfl
  | n + 1 => by
    show sm (fun b => max 0 (b - c)) lo n + max 0 (lo + n - c) = _
    rw [sm_up h n]
    by_cases z : 0 < lo + n - c
    · have e := tri_s (lo + n - c - 1)
      rw [show lo + n - c - 1 + 1 = lo + n - c from by omega] at e
      rw [show max 0 (lo + n - 1 - c) = lo + n - c - 1 from by omega, show max 0 (lo + ((n + 1 : Nat) : Int) - 1 - c) = lo + n - c from by omega, e]
      omega
    · rw [show max 0 (lo + n - 1 - c) = 0 from by omega, show max 0 (lo + ((n + 1 : Nat) : Int) - 1 - c) = 0 from by omega]
      show tri 0 + _ = tri 0
      omega
theorem sm_c {k lo : Int} : ∀ n : Nat, sm (fun _ => k) lo n = n * k
  | 0 => by
    show (0 : Int) = ((0 : Nat) : Int) * k
    rw [Int.natCast_zero, Int.zero_mul]
  | n + 1 => by
    show sm (fun _ => k) lo n + k = ((n + 1 : Nat) : Int) * k
    rw [sm_c n, Int.natCast_succ, Int.add_mul, Int.one_mul]
/-- how many places pair with a birth -/
def rw_ (x : Spn) (b : Int) : Int := if x.b0 ≤ b ∧ b ≤ x.b1 then max 0 (min x.t1 (b + x.e1) - max x.t0 (b + x.e0) + 1) else 0
def cb : Option Spn → Int → Int
  | none, _ => 0
  | some x, b => rw_ x b
theorem cb_tight (s : Spn) (b : Int) : cb (tight s) b = rw_ s b := by
  unfold tight
  split
  · show rw_ _ b = _
    unfold rw_
    simp only
    split <;> split <;> omega
  · show 0 = rw_ s b
    unfold rw_
    split <;> omega
theorem tot_core {x : Spn} (hx : Tt (some x)) : tot (some x) = sm (cb (some x)) x.b0 (x.b1 - x.b0 + 1).toNat := by
  have hx : x.b0 ≤ x.b1 ∧ x.t0 ≤ x.t1 ∧ x.e0 ≤ x.e1 ∧ x.t0 - x.e1 ≤ x.b0 ∧ x.b1 ≤ x.t1 - x.e0 ∧ x.b0 + x.e0 ≤ x.t0 ∧ x.t1 ≤ x.b1 + x.e1 ∧ x.t0 - x.b1 ≤ x.e0 ∧ x.e1 ≤ x.t1 - x.b0 := hx
  have key : sm (fun _ => x.t1 - x.t0 + 1) x.b0 (x.b1 - x.b0 + 1).toNat = sm (cb (some x)) x.b0 (x.b1 - x.b0 + 1).toNat + (sm (fun b => max 0 ((x.t1 - x.e1) - b)) x.b0 (x.b1 - x.b0 + 1).toNat + sm (fun b => max 0 (b - (x.t0 - x.e0))) x.b0 (x.b1 - x.b0 + 1).toNat) := by
    rw [← sm_add, ← sm_add]
    refine sm_congr fun b h1 h2 => ?_
    show _ = rw_ x b + _
    unfold rw_
    rw [if_pos (by omega)]
    omega
  rw [sm_c, sm_dn (by omega), sm_up (by omega)] at key
  rw [show ((x.b1 - x.b0 + 1).toNat : Int) = x.b1 - x.b0 + 1 from by omega] at key
  rw [show max 0 (x.t1 - x.e1 - x.b0 - (x.b1 - x.b0 + 1)) = 0 from by omega, show max 0 (x.b0 + (x.b1 - x.b0 + 1) - 1 - (x.t0 - x.e0)) = x.e0 - x.t0 + x.b1 from by omega, show x.t1 - x.e1 - x.b0 = x.t1 - x.b0 - x.e1 from by omega, tri_0] at key
  show (x.b1 - x.b0 + 1) * (x.t1 - x.t0 + 1) - tri (x.e0 - x.t0 + x.b1) - tri (x.t1 - x.b0 - x.e1) = _
  omega
theorem cb_out {x : Spn} {b : Int} (h : b < x.b0 ∨ x.b1 < b) : cb (some x) b = 0 := if_neg (by omega)
/-- a total is the sum over any window that holds the births -/
theorem tot_win {s : Option Spn} (hs : Tt s) {lo : Int} {n : Nat} (h : ∀ x, s = some x → lo ≤ x.b0 ∧ x.b1 < lo + n) : tot s = sm (cb s) lo n := by
  cases s with
  | none => exact (sm_z fun b _ _ => rfl).symm
  | some x =>
    have h := h x rfl
    have hb : x.b0 ≤ x.b1 := hs.1
    rw [tot_core hs]
    obtain ⟨a, ha⟩ : ∃ a : Nat, x.b0 = lo + a := ⟨(x.b0 - lo).toNat, by omega⟩
    obtain ⟨m, hm⟩ : ∃ m : Nat, m = (x.b1 - x.b0 + 1).toNat := ⟨_, rfl⟩
    obtain ⟨z, hz⟩ : ∃ z : Nat, n = a + (m + z) := ⟨n - a - m, by omega⟩
    rw [hz, sm_split (m + z), sm_split z, ← hm, ha, sm_z (n := a) fun b _ _ => cb_out (by omega), sm_z (n := z) fun b _ _ => cb_out (by omega)]
    omega
end K28
namespace K28
open PySem Pi
variable {g : List MO} {E : EC} {Q : D → List MO → Prop}
def eqR (a b c d : Int) : Bool := decide (a = c) && decide (b = d)
theorem eq_rg {a b c d : Int} : op2S g .eq (rg a b) (rg c d) = some (.bl (eqR a b c d)) := by
  have e : PyData.eqv (.tuple [.int a, .int b]) (.tuple [.int c, .int d]) = eqR a b c d := by
    simp [PyData.eqv, PyData.eqvAll, eqR, Bool.beq_eq_decide_eq]
  show (bif true && true then some (PyData.eqv (.tuple [.int a, .int b]) (.tuple [.int c, .int d])) else none).map D.bl = _
  rw [e]
  rfl
theorem eq_nn : op2S g .eq .non .non = some (.bl true) := rfl
theorem eq_nr {c d : Int} : op2S g .eq .non (rg c d) = some (.bl false) := rfl
theorem eq_rn {c d : Int} : op2S g .eq (rg c d) .non = some (.bl false) := rfl
def eqS : Option Spn → Option Spn → Bool
  | none, none => true
  | some x, some y => eqR x.b0 x.b1 y.b0 y.b1 && (eqR x.t0 x.t1 y.t0 y.t1 && eqR x.e0 x.e1 y.e0 y.e1)
  | _, _ => false
theorem eqS_iff {s u : Option Spn} : eqS s u = true ↔ s = u := by
  cases s with
  | none => cases u with
    | none => exact ⟨fun _ => rfl, fun _ => rfl⟩
    | some y => exact ⟨fun z => (nomatch z), fun z => (nomatch z)⟩
  | some x => cases u with
    | none => exact ⟨fun z => (nomatch z), fun z => (nomatch z)⟩
    | some y =>
      obtain ⟨a, b, c, d, e, f⟩ := x
      obtain ⟨a', b', c', d', e', f'⟩ := y
      simp only [eqS, eqR, Bool.and_eq_true, decide_eq_true_eq, Option.some.injEq, Spn.mk.injEq]
      constructor <;> intro h <;> simp_all
theorem eq_ok {s u : Option Spn} (k : Q (.bl (eqS s u)) g) : wpC (m_F_Span___eq__ [insS s, insS u] g) E Q := by
  refine wpC_def (w_ite (w_not (w_isi (w_v rfl ⟨insS u, rfl, _, rfl, _, rfl, fun z => (nomatch z), fun _ => ?_⟩))))
  refine w_seqN (w_ret ?_)
  cases s with
  | none => cases u with
    | none => exact w_and (w_op2 (w_fld (w_v rfl (w_of (z := .non) rfl (w_fld (w_v rfl (w_of (z := .non) rfl (w_of eq_nn ⟨_, rfl, fun _ => w_and (w_op2 (w_fld (w_v rfl (w_of (z := .non) rfl (w_fld (w_v rfl (w_of (z := .non) rfl (w_of eq_nn ⟨_, rfl, fun _ => w_op2 (w_fld (w_v rfl (w_of (z := .non) rfl (w_fld (w_v rfl (w_of (z := .non) rfl (w_of eq_nn k))))))), fun z => (nomatch z)⟩)))))))), fun z => (nomatch z)⟩))))))))
    | some y => exact w_and (w_op2 (w_fld (w_v rfl (w_of (z := .non) rfl (w_fld (w_v rfl (w_of (z := rg y.b0 y.b1) rfl (w_of eq_nr ⟨_, rfl, fun z => (nomatch z), fun _ => k⟩))))))))
  | some x => cases u with
    | none => exact w_and (w_op2 (w_fld (w_v rfl (w_of (z := rg x.b0 x.b1) rfl (w_fld (w_v rfl (w_of (z := .non) rfl (w_of eq_rn ⟨_, rfl, fun z => (nomatch z), fun _ => k⟩))))))))
    | some y =>
      refine w_and (w_op2 (w_fld (w_v rfl (w_of (z := rg x.b0 x.b1) rfl (w_fld (w_v rfl (w_of (z := rg y.b0 y.b1) rfl (w_of eq_rg ⟨_, rfl, fun h => ?_, fun h => ?_⟩))))))))
      · refine w_and (w_op2 (w_fld (w_v rfl (w_of (z := rg x.t0 x.t1) rfl (w_fld (w_v rfl (w_of (z := rg y.t0 y.t1) rfl (w_of eq_rg ⟨_, rfl, fun h2 => ?_, fun h2 => ?_⟩))))))))
        · rw [show eqS (some x) (some y) = eqR x.e0 x.e1 y.e0 y.e1 by show (eqR x.b0 x.b1 y.b0 y.b1 && (eqR x.t0 x.t1 y.t0 y.t1 && eqR x.e0 x.e1 y.e0 y.e1)) = _; rw [h, h2]; rfl] at k
          exact w_op2 (w_fld (w_v rfl (w_of (z := rg x.e0 x.e1) rfl (w_fld (w_v rfl (w_of (z := rg y.e0 y.e1) rfl (w_of eq_rg k)))))))
        · rw [show eqS (some x) (some y) = false by show (eqR x.b0 x.b1 y.b0 y.b1 && (eqR x.t0 x.t1 y.t0 y.t1 && eqR x.e0 x.e1 y.e0 y.e1)) = _; rw [h, h2]; rfl] at k
          exact k
      · rw [show eqS (some x) (some y) = false by show (eqR x.b0 x.b1 y.b0 y.b1 && (eqR x.t0 x.t1 y.t0 y.t1 && eqR x.e0 x.e1 y.e0 y.e1)) = _; rw [h]; rfl] at k
        exact k
/-- less, where nothing is met -/
theorem less_none {s u : Option Spn} (hi : int2 s u = none) (k : Q (.tup (if s.isSome then [insS s] else [])) g) : wpC (m_F_Span_less [insS s, insS u] g) E Q := by
  refine wpC_def (w_ite (w_not (tro_ok (fun _ _ => rfl) (w_opm (w_v rfl (w_v rfl ?_))))))
  have e : own2 o_F_Span_less 1 (insS s) (insS u) g = m_F_Span___and__ [insS s, insS u] g := rfl
  rw [e]
  refine and_ok ⟨_, rfl, _, rfl, _, rfl, fun _ => ?_, fun z => ?_⟩
  · cases s with
    | none => exact w_retS (w_iteE (tro_ok (fun _ _ => rfl) (w_v rfl ⟨none, rfl, _, rfl, fun z => (nomatch z), fun _ => w_tup (w_nil ⟨Nat.le_of_ble_eq_true rfl, k⟩)⟩)))
    | some x => exact w_retS (w_iteE (tro_ok (fun _ _ => rfl) (w_v rfl ⟨some x, rfl, _, rfl, fun _ => w_tup (w_cons (w_v rfl (w_nil ⟨Nat.le_of_ble_eq_true rfl, k⟩))), fun z => (nomatch z)⟩)))
  · rw [hi] at z
    cases z
section
theorem pcs_tt {x y : Spn} : ∀ s ∈ pcs x y, Tt s := by
  intro s hs
  unfold pcs at hs
  simp only [List.mem_cons, List.mem_nil_iff, or_false] at hs
  rcases hs with rfl | rfl | rfl | rfl | rfl | rfl <;> exact tight_tt _
/-- what less gives -/
def lessL (s u : Option Spn) : List (Option Spn) := match s, u with
  | some x, some y => if (int2 (some x) (some y)).isSome then (pcs x y).filter Option.isSome else [some x]
  | some x, none => [some x]
  | none, _ => []
theorem filter_neD : ∀ L : List (Option Spn), (L.map insS).filter neD = (L.filter Option.isSome).map insS
  | [] => rfl
  | s :: L => by
    rw [List.map_cons, List.filter_cons, List.filter_cons, neD_ins, filter_neD L]
    cases s.isSome <;> rfl
theorem lessL_len {s u : Option Spn} : (lessL s u).length ≤ 6 := by
  cases s with
  | none => exact Nat.zero_le _
  | some x => cases u with
    | none => exact Nat.le_of_ble_eq_true rfl
    | some y =>
      show List.length (if (int2 (some x) (some y)).isSome then (pcs x y).filter Option.isSome else [some x]) ≤ 6
      split
      · exact List.length_filter_le _ (pcs x y)
      · exact Nat.le_of_ble_eq_true rfl
end
section
variable {g : List MO} {E : EC} {Q : D → List MO → Prop}
/-- what lay in the heap still lies there -/
def Gx (g g' : List MO) : Prop := ∃ r, g' = g ++ r
theorem lessA_ok {s u : Option Spn} (k : ∀ g', Gx g g' → Q (.tup ((lessL s u).map insS)) g') : wpC (m_F_Span_less [insS s, insS u] g) E Q := by
  have k0 := k g ⟨[], by simp⟩
  cases s with
  | none => exact less_none rfl k0
  | some x => cases u with
    | none => exact less_none rfl k0
    | some y =>
      cases h : (int2 (some x) (some y)).isSome with
      | true =>
        refine less_ok h fun g' ⟨m, e⟩ => ?_
        rw [filter_neD]
        have := k g' ⟨[m], e⟩
        rw [show lessL (some x) (some y) = (pcs x y).filter Option.isSome by show (if (int2 (some x) (some y)).isSome then (pcs x y).filter Option.isSome else [some x]) = _; rw [h]; rfl] at this
        exact this
      | false =>
        rw [show lessL (some x) (some y) = [some x] by show (if (int2 (some x) (some y)).isSome then (pcs x y).filter Option.isSome else [some x]) = _; rw [h]; rfl] at k0
        rw [Option.isSome_eq_false_iff, Option.isNone_iff_eq_none] at h
        exact less_none h k0
end
section
variable {o : O} {st : S} {t a b c ta tb tc : T} {s u : Option Spn} {f mi : Nat} {m : List D → List MO → Pi.C} {g : List MO} {p q r : Int}
theorem own2_eq (ho : o.meth 5 mi = some f) (hm : o.call f = m) : own2 o mi (insS s) (insS u) g = m [insS s, insS u] g := by
  subst hm
  show (match o.meth 5 mi with
    | some f => o.call f [insS s, insS u] g
    | none => .no) = _
  rw [ho]
theorem own1_eq (ho : o.meth 5 mi = some f) (hm : o.call f = m) : own1 o mi (insS s) g = m [insS s] g := by
  subst hm
  show (match o.meth 5 mi with
    | some f => o.call f [insS s] g
    | none => .no) = _
  rw [ho]
theorem eqo_eq (ho : o.eqm 5 = some f) (hm : o.call f = m) : eqoC o (insS s) (insS u) g = m [insS s, insS u] g := by
  subst hm
  show (match o.eqm 5 with
    | some f => o.call f [insS s, insS u] g
    | none => .no) = _
  rw [ho]
theorem rd_and (ho : o.meth 5 1 = some f) (hm : o.call f = m_F_Span___and__) (ha : Rd o st a (insS s)) (hb : Rd o st b (insS u)) : Rd o st (.opm 1 a b) (insS (int2 s u)) := fun _ _ k =>
  w_opm (ha _ _ (hb _ _ (by rw [own2_eq ho hm]; exact and_ok k)))
theorem rd_eqo {n : Bool} (ho : o.eqm 5 = some f) (hm : o.call f = m_F_Span___eq__) (ha : Rd o st a (insS s)) (hb : Rd o st b (insS u)) : Rd o st (.eqo n a b) (.bl (notB n (eqS s u))) := fun _ _ k =>
  w_eqo (ha _ _ (hb _ _ (by rw [eqo_eq ho hm]; exact eq_ok ⟨_, rfl, k⟩)))
theorem eqS_self (s : Option Spn) : eqS s s = true := eqS_iff.mpr rfl
/-- a test of two spans that are one fails -/
theorem rd_neo (ho : o.eqm 5 = some f) (hm : o.call f = m_F_Span___eq__) (ha : Rd o st a (insS s)) (hb : Rd o st b (insS u)) (h : s = u) : Rd o st (.eqo true a b) (.bl false) := by
  subst h
  have := rd_eqo (n := true) ho hm ha hb
  rw [eqS_self] at this
  exact this
theorem w_methS {s : Option Spn} {EX' : EX} {KK : D → S → Prop} (ho : o.meth 5 mi = some f) (hm : o.call f = m) (ha : Rd o st ta (insS s)) (h : wp (evA o tb st) EX' fun ds s1 => wpC (m (insS s :: ds) s1.g) (fun c fs g => EX' c fs ⟨s1.l, g⟩) fun d g => KK d ⟨s1.l, g⟩) : wp (ev o (.meth mi ta tb []) st) EX' KK := by
  subst hm
  exact w_meth (ha _ _ ⟨5, f, rfl, ho, wp_mono h fun ds s1 q => by rw [List.append_nil]; exact q⟩)
theorem rd_stp (ho : o.meth 5 4 = some f) (hm : o.call f = m_F_Span_stepped) (h : Rd o st t (insS s)) (ha : Rd o st ta (.int p)) (hb : Rd o st tb (.int q)) (hc : Rd o st tc (.int r)) : Rd o st (.meth 4 t (.cons ta (.cons tb (.cons tc .nil))) []) (insS (stp s p q r)) := fun _ _ k =>
  w_methS ho hm h (w_cons (ha _ _ (w_cons (hb _ _ (w_cons (hc _ _ (w_nil (stepped_ok k))))))))
theorem rd_sgt (ho : o.meth 5 5 = some f) (hm : o.call f = m_F_Span_sighted) (h : Rd o st t (insS s)) (ha : Rd o st ta (.int p)) (hb : Rd o st tb (.int q)) (hc : Rd o st tc (.int r)) : Rd o st (.meth 5 t (.cons ta (.cons tb (.cons tc .nil))) []) (insS (sgt s p q r)) := fun _ _ k =>
  w_methS ho hm h (w_cons (ha _ _ (w_cons (hb _ _ (w_cons (hc _ _ (w_nil (sighted_ok k))))))))
theorem rd_tot (ho : o.meth 5 2 = some f) (hm : o.call f = m_F_Span_total) (ha : Rd o st t (insS s)) (hb : ∀ x, s = some x → Bd x) : Rd o st (.prp 2 t) (.int (tot s)) := fun _ _ k =>
  w_prp (ha _ _ (by rw [own1_eq ho hm]; exact total_ok hb k))
end
end K28
/-! rows of pairs, ascending -/
namespace K28
open PySem Pi
abbrev IP := Int × Int
def ltP (p q : IP) : Prop := p.1 < q.1 ∨ (p.1 = q.1 ∧ p.2 < q.2)
/-- two ascending lists with the same members are one -/
theorem asc_ext {α : Type} {lt : α → α → Prop} (ir : ∀ a, ¬ lt a a) (tr : ∀ a b c, lt a b → lt b c → lt a c) : ∀ {a b : List α}, a.Pairwise lt → b.Pairwise lt → (∀ x, x ∈ a ↔ x ∈ b) → a = b
  | [], [], _, _, _ => rfl
  | [], y :: b, _, _, h => absurd ((h y).mpr List.mem_cons_self) (by simp)
  | x :: a, [], _, _, h => absurd ((h x).mp List.mem_cons_self) (by simp)
  | x :: a, y :: b, ha, hb, h => by
    have h1 := List.pairwise_cons.mp ha
    have h2 := List.pairwise_cons.mp hb
    have e : x = y := by
      rcases List.mem_cons.mp ((h x).mp List.mem_cons_self) with e | hx
      · exact e
      · rcases List.mem_cons.mp ((h y).mpr List.mem_cons_self) with e | hy
        · exact e.symm
        · exact absurd (tr _ _ _ (h1.1 y hy) (h2.1 x hx)) (ir x)
    subst e
    rw [asc_ext ir tr h1.2 h2.2 fun z => ?_]
    constructor
    · intro hz
      rcases List.mem_cons.mp ((h z).mp (List.mem_cons_of_mem _ hz)) with e | q
      · subst e; exact absurd (h1.1 _ hz) (ir _)
      · exact q
    · intro hz
      rcases List.mem_cons.mp ((h z).mpr (List.mem_cons_of_mem _ hz)) with e | q
      · subst e; exact absurd (h2.1 _ hz) (ir _)
      · exact q
theorem ltP_ir (p : IP) : ¬ ltP p p := fun h => by unfold ltP at h; omega
theorem ltP_tr (p q r : IP) (h1 : ltP p q) (h2 : ltP q r) : ltP p r := by unfold ltP at *; omega
/-- the whole numbers from lo, so many -/
def iv (lo : Int) (n : Nat) : List Int := (List.range n).map fun k => lo + (k : Nat)
theorem mem_iv {lo : Int} {n : Nat} {x : Int} : x ∈ iv lo n ↔ lo ≤ x ∧ x < lo + n := by
  unfold iv
  rw [List.mem_map]
  constructor
  · rintro ⟨k, hk, rfl⟩
    have := List.mem_range.mp hk
    omega
  · rintro ⟨h1, h2⟩
    exact ⟨(x - lo).toNat, List.mem_range.mpr (by omega), by omega⟩
theorem iv_asc {lo : Int} {n : Nat} : (iv lo n).Pairwise (· < ·) := by
  unfold iv
  rw [List.pairwise_map]
  refine List.Pairwise.imp ?_ (List.pairwise_lt_range (n := n))
  intro a b h
  omega
theorem iv_len {lo : Int} {n : Nat} : (iv lo n).length = n := by unfold iv; simp
def fm (xs : List Int) (f : Int → List Int) : List IP := xs.flatMap fun b => (f b).map fun t => (b, t)
theorem mem_fm {xs : List Int} {f : Int → List Int} {p : IP} : p ∈ fm xs f ↔ p.1 ∈ xs ∧ p.2 ∈ f p.1 := by
  obtain ⟨b, t⟩ := p
  unfold fm
  rw [List.mem_flatMap]
  constructor
  · rintro ⟨c, h1, h2⟩
    obtain ⟨u, h3, e⟩ := List.mem_map.mp h2
    cases e
    exact ⟨h1, h3⟩
  · rintro ⟨h1, h2⟩
    exact ⟨b, h1, List.mem_map.mpr ⟨t, h2, rfl⟩⟩
theorem fm_asc {f : Int → List Int} (hf : ∀ b, (f b).Pairwise (· < ·)) : ∀ {xs : List Int}, xs.Pairwise (· < ·) → (fm xs f).Pairwise ltP
  | [], _ => .nil
  | b :: xs, h => by
    have h1 := List.pairwise_cons.mp h
    show (((f b).map fun t => (b, t)) ++ fm xs f).Pairwise ltP
    refine List.pairwise_append.mpr ⟨?_, fm_asc hf h1.2, fun p hp q hq => ?_⟩
    · rw [List.pairwise_map]
      exact (hf b).imp fun h => .inr ⟨rfl, h⟩
    · obtain ⟨t, _, rfl⟩ := List.mem_map.mp hp
      exact .inl (h1.1 _ (mem_fm.mp hq).1)
theorem fm_len {f : Int → List Int} {m : Nat} : ∀ {xs : List Int}, (∀ b ∈ xs, (f b).length ≤ m) → (fm xs f).length ≤ xs.length * m
  | [], _ => Nat.zero_le _
  | b :: xs, h => by
    show (((f b).map fun t => (b, t)) ++ fm xs f).length ≤ _
    rw [List.length_append, List.length_map, List.length_cons, Nat.succ_mul]
    have h1 := h b List.mem_cons_self
    have h2 := fm_len (xs := xs) (f := f) (m := m) fun c hc => h c (List.mem_cons_of_mem _ hc)
    omega
/-- as the bounds tell it -/
def allP (x : Spn) : List IP := fm (iv x.b0 (x.b1 + 1 - x.b0).toNat) fun b => (iv x.t0 (x.t1 + 1 - x.t0).toNat).filter fun t => decide (x.e0 ≤ t - b ∧ t - b ≤ x.e1)
theorem mem_allP {x : Spn} {p : IP} : p ∈ allP x ↔ x.b0 ≤ p.1 ∧ p.1 ≤ x.b1 ∧ x.t0 ≤ p.2 ∧ p.2 ≤ x.t1 ∧ x.e0 ≤ p.2 - p.1 ∧ p.2 - p.1 ≤ x.e1 := by
  unfold allP
  rw [mem_fm, List.mem_filter, mem_iv, mem_iv, decide_eq_true_eq]
  omega
theorem allP_asc {x : Spn} : (allP x).Pairwise ltP := fm_asc (fun b => iv_asc.filter _) iv_asc
/-- as the span tells it -/
def lisP : Option Spn → List IP
  | none => []
  | some x => fm (iv x.b0 (x.b1 + 1 - x.b0).toNat) fun b => iv (max x.t0 (x.e0 + b)) (min x.t1 (x.e1 + b) + 1 - max x.t0 (x.e0 + b)).toNat
theorem mem_lisP {s : Option Spn} {p : IP} : p ∈ lisP s ↔ Mm s p.1 p.2 := by
  cases s with
  | none => exact ⟨fun h => (nomatch h), fun h => h.elim⟩
  | some x =>
    show p ∈ fm _ _ ↔ _
    rw [mem_fm, mem_iv, mem_iv]
    show _ ↔ x.b0 ≤ p.1 ∧ p.1 ≤ x.b1 ∧ x.t0 ≤ p.2 ∧ p.2 ≤ x.t1 ∧ x.e0 ≤ p.2 - p.1 ∧ p.2 - p.1 ≤ x.e1
    omega
theorem lisP_asc {s : Option Spn} : (lisP s).Pairwise ltP := by
  cases s with
  | none => exact .nil
  | some x => exact fm_asc (fun b => iv_asc) iv_asc
theorem asc_nodup {a : List IP} (h : a.Pairwise ltP) : a.Nodup := h.imp fun {p q} h z => by subst z; exact ltP_ir _ h
theorem lis_tight (x : Spn) : lisP (tight x) = allP x := asc_ext ltP_ir ltP_tr lisP_asc allP_asc fun p => by rw [mem_lisP, mem_allP, tight_mm]
/-! small numbers -/
structure SmN (N : Int) (x : Spn) : Prop where
  b0 : -N ≤ x.b0 ∧ x.b0 ≤ N
  b1 : -N ≤ x.b1 ∧ x.b1 ≤ N
  t0 : -N ≤ x.t0 ∧ x.t0 ≤ N
  t1 : -N ≤ x.t1 ∧ x.t1 ≤ N
  e0 : -N ≤ x.e0 ∧ x.e0 ≤ N
  e1 : -N ≤ x.e1 ∧ x.e1 ≤ N
def So (N : Int) (s : Option Spn) : Prop := ∀ x, s = some x → SmN N x
theorem so_sub {N : Int} {s : Option Spn} {y : Spn} (hs : Tt s) (h : ∀ b t, Mm s b t → Mm (some y) b t) (hy : SmN N y) : So N s := by
  intro x e
  subst e
  have w := bounds hs h
  obtain ⟨⟨q1, q2⟩, ⟨q3, q4⟩, ⟨q5, q6⟩, ⟨q7, q8⟩, ⟨q9, q10⟩, ⟨q11, q12⟩⟩ := hy
  have hx : x.b0 ≤ x.b1 ∧ x.t0 ≤ x.t1 ∧ x.e0 ≤ x.e1 ∧ _ := hs
  exact ⟨⟨by omega, by omega⟩, ⟨by omega, by omega⟩, ⟨by omega, by omega⟩, ⟨by omega, by omega⟩, ⟨by omega, by omega⟩, ⟨by omega, by omega⟩⟩
theorem so_tight {N : Int} {x : Spn} (h : SmN N x) : So N (tight x) := so_sub (tight_tt x) (fun b t z => tight_mm.mp z) h
theorem so_mono {N : Int} {s u : Option Spn} (hs : Tt s) (h : ∀ b t, Mm s b t → Mm u b t) (hu : So N u) : So N s := by
  cases u with
  | none =>
    cases s with
    | none => intro x e; cases e
    | some x =>
      obtain ⟨b, t, hm⟩ := some_mem hs
      exact (h b t hm).elim
  | some y => exact so_sub hs h (hu y rfl)
theorem allP_len {N : Int} {x : Spn} (hN : N ≤ 60) (h : SmN N x) : (allP x).length ≤ 14641 := by
  obtain ⟨⟨q1, q2⟩, ⟨q3, q4⟩, ⟨q5, q6⟩, ⟨q7, q8⟩, ⟨q9, q10⟩, ⟨q11, q12⟩⟩ := h
  refine Nat.le_trans (fm_len (m := 121) fun b hb => Nat.le_trans (List.length_filter_le _ _) ?_) ?_
  · rw [iv_len]; omega
  · rw [iv_len]
    have : (x.b1 + 1 - x.b0).toNat ≤ 121 := by omega
    exact Nat.mul_le_mul_right 121 this
theorem lisP_len {N : Int} {s : Option Spn} (hN : N ≤ 60) (h : So N s) : (lisP s).length ≤ 14641 := by
  cases s with
  | none => exact Nat.zero_le _
  | some x =>
    obtain ⟨⟨q1, q2⟩, ⟨q3, q4⟩, ⟨q5, q6⟩, ⟨q7, q8⟩, ⟨q9, q10⟩, ⟨q11, q12⟩⟩ := h x rfl
    refine Nat.le_trans (fm_len (m := 121) fun b hb => ?_) ?_
    · rw [iv_len]; omega
    · rw [iv_len]
      have : (x.b1 + 1 - x.b0).toNat ≤ 121 := by omega
      exact Nat.mul_le_mul_right 121 this
/-! what less gives -/
theorem pcs_iff {x y : Spn} {b t : Int} (hi : (int2 (some x) (some y)).isSome = true) : (∃ p ∈ pcs x y, Mm p b t) ↔ Mm (some x) b t ∧ ¬ Mm (some y) b t := by
  obtain ⟨w, hw⟩ := Option.isSome_iff_exists.mp hi
  obtain ⟨b', t', hm⟩ := some_mem (x := w) (by rw [← hw]; exact int2_tt)
  rw [← hw, int2_mm] at hm
  have hm : (x.b0 ≤ b' ∧ b' ≤ x.b1 ∧ x.t0 ≤ t' ∧ t' ≤ x.t1 ∧ x.e0 ≤ t' - b' ∧ t' - b' ≤ x.e1) ∧ (y.b0 ≤ b' ∧ b' ≤ y.b1 ∧ y.t0 ≤ t' ∧ t' ≤ y.t1 ∧ y.e0 ≤ t' - b' ∧ t' - b' ≤ y.e1) := hm
  simp only [pcs, List.mem_cons, List.not_mem_nil, or_false, exists_eq_or_imp, exists_eq_left, tight_mm]
  show _ ↔ (_ ∧ _) ∧ ¬ (_ ∧ _)
  omega
theorem pcs_dis {x y : Spn} (hy : Tt (some y)) : (pcs x y).Pairwise fun p q => ∀ b t, Mm p b t → Mm q b t → False := by
  simp only [pcs, List.pairwise_cons, List.mem_cons, List.not_mem_nil, or_false, forall_eq_or_imp, forall_eq, tight_mm, false_imp_iff, List.Pairwise.nil, and_true, implies_true]
  have hy : y.b0 ≤ y.b1 ∧ y.t0 ≤ y.t1 ∧ y.e0 ≤ y.e1 ∧ y.t0 - y.e1 ≤ y.b0 ∧ y.b1 ≤ y.t1 - y.e0 ∧ y.b0 + y.e0 ≤ y.t0 ∧ y.t1 ≤ y.b1 + y.e1 ∧ y.t0 - y.b1 ≤ y.e0 ∧ y.e1 ≤ y.t1 - y.b0 := hy
  refine ⟨⟨?_, ?_, ?_, ?_, ?_⟩, ⟨?_, ?_, ?_, ?_⟩, ⟨?_, ?_, ?_⟩, ⟨?_, ?_⟩, ?_⟩ <;> (intro b t; omega)
theorem lessL_iff {s u : Option Spn} {b t : Int} : (∃ p ∈ lessL s u, Mm p b t) ↔ Mm s b t ∧ ¬ Mm u b t := by
  cases s with
  | none => exact ⟨fun ⟨p, hp, _⟩ => (nomatch hp), fun h => h.1.elim⟩
  | some x => cases u with
    | none =>
      show (∃ p ∈ [some x], Mm p b t) ↔ _
      simp only [List.mem_singleton, exists_eq_left]
      exact ⟨fun h => ⟨h, fun z => z⟩, fun h => h.1⟩
    | some y =>
      show (∃ p ∈ (if (int2 (some x) (some y)).isSome then (pcs x y).filter Option.isSome else [some x]), Mm p b t) ↔ _
      cases h : (int2 (some x) (some y)).isSome with
      | true =>
        rw [if_pos rfl, ← pcs_iff h]
        constructor
        · rintro ⟨p, hp, hm⟩; exact ⟨p, (List.mem_filter.mp hp).1, hm⟩
        · rintro ⟨p, hp, hm⟩
          refine ⟨p, List.mem_filter.mpr ⟨hp, ?_⟩, hm⟩
          cases p with
          | none => exact hm.elim
          | some _ => rfl
      | false =>
        rw [Option.isSome_eq_false_iff, Option.isNone_iff_eq_none] at h
        simp only [Bool.false_eq_true, if_false, List.mem_singleton, exists_eq_left]
        refine ⟨fun hm => ⟨hm, fun z => ?_⟩, fun z => z.1⟩
        have : Mm (int2 (some x) (some y)) b t := int2_mm.mpr ⟨hm, z⟩
        rw [h] at this
        exact this
theorem lessL_some {s u : Option Spn} : ∀ p ∈ lessL s u, p.isSome = true := by
  intro p hp
  cases s with
  | none => cases hp
  | some x => cases u with
    | none => cases List.mem_singleton.mp hp; rfl
    | some y =>
      have hp : p ∈ (if (int2 (some x) (some y)).isSome then (pcs x y).filter Option.isSome else [some x]) := hp
      split at hp
      · exact (List.mem_filter.mp hp).2
      · cases List.mem_singleton.mp hp; rfl
theorem lessL_tt {s u : Option Spn} (hs : Tt s) : ∀ p ∈ lessL s u, Tt p := by
  intro p hp
  cases s with
  | none => cases hp
  | some x => cases u with
    | none => cases List.mem_singleton.mp hp; exact hs
    | some y =>
      have hp : p ∈ (if (int2 (some x) (some y)).isSome then (pcs x y).filter Option.isSome else [some x]) := hp
      split at hp
      · exact pcs_tt p (List.mem_filter.mp hp).1
      · cases List.mem_singleton.mp hp; exact hs
theorem lessL_dis {s u : Option Spn} (hu : Tt u) : (lessL s u).Pairwise fun p q => ∀ b t, Mm p b t → Mm q b t → False := by
  cases s with
  | none => exact .nil
  | some x => cases u with
    | none => exact List.pairwise_singleton _ _
    | some y =>
      show List.Pairwise _ (if (int2 (some x) (some y)).isSome then (pcs x y).filter Option.isSome else [some x])
      split
      · exact (pcs_dis hu).filter _
      · exact List.pairwise_singleton _ _
theorem flat_nodup : ∀ {L : List (Option Spn)}, (L.Pairwise fun p q => ∀ b t, Mm p b t → Mm q b t → False) → (L.flatMap lisP).Nodup
  | [], _ => .nil
  | s :: L, h => by
    have h1 := List.pairwise_cons.mp h
    show (lisP s ++ L.flatMap lisP).Nodup
    refine List.nodup_append.mpr ⟨asc_nodup lisP_asc, flat_nodup h1.2, fun p hp q hq z => ?_⟩
    subst z
    obtain ⟨u, hu, hm⟩ := List.mem_flatMap.mp hq
    exact h1.1 u hu _ _ (mem_lisP.mp hp) (mem_lisP.mp hm)
/-- what is left, in two ways -/
theorem left_perm {s u : Option Spn} (hu : Tt u) : ((lessL s u).flatMap lisP).Perm ((lisP s).filter fun p => !decide (p ∈ lisP u)) :=
  (List.perm_ext_iff_of_nodup (flat_nodup (lessL_dis hu)) ((asc_nodup lisP_asc).filter _)).mpr fun p => by
    rw [List.mem_flatMap, List.mem_filter, mem_lisP]
    have := lessL_iff (s := s) (u := u) (b := p.1) (t := p.2)
    simp only [mem_lisP, Bool.not_eq_true', decide_eq_false_iff_not]
    exact this
theorem common_eq {s u : Option Spn} : lisP (int2 s u) = (lisP s).filter fun p => decide (p ∈ lisP u) := asc_ext ltP_ir ltP_tr lisP_asc (lisP_asc.filter _) fun p => by
  rw [mem_lisP, List.mem_filter, decide_eq_true_eq, mem_lisP, mem_lisP, int2_mm]
theorem sub_iff {s u : Option Spn} (hs : Tt s) : leS s u = true ↔ ∀ p ∈ lisP s, p ∈ lisP u := by
  rw [leS_iff hs]
  constructor
  · intro h p hp; exact mem_lisP.mpr (h _ _ (mem_lisP.mp hp))
  · intro h b t hm; exact mem_lisP.mp (h (b, t) (mem_lisP.mpr hm))
theorem eq_iff {s u : Option Spn} (hs : Tt s) (hu : Tt u) : s = u ↔ lisP s = lisP u := by
  constructor
  · rintro rfl; rfl
  · intro h
    refine ext hs hu fun b t => ?_
    rw [← mem_lisP (p := (b, t)), ← mem_lisP (p := (b, t)), h]
end K28
namespace K28
open PySem Pi
/-! steps and sights, pair by pair -/
theorem stp_iff {s : Option Spn} {y lo hi b t : Int} (hs : Tt s) (h : lo ≤ hi) : Mm (stp s y lo hi) b t ↔ ∃ b' t', Mm s b' t' ∧ b = b' + y ∧ lo ≤ t - y - t' ∧ t - y - t' ≤ hi := by
  cases s with
  | none => exact ⟨fun z => z.elim, fun ⟨_, _, z, _⟩ => z.elim⟩
  | some x =>
    have hx : x.b0 ≤ x.b1 ∧ x.t0 ≤ x.t1 ∧ x.e0 ≤ x.e1 ∧ x.t0 - x.e1 ≤ x.b0 ∧ x.b1 ≤ x.t1 - x.e0 ∧ x.b0 + x.e0 ≤ x.t0 ∧ x.t1 ≤ x.b1 + x.e1 ∧ x.t0 - x.b1 ≤ x.e0 ∧ x.e1 ≤ x.t1 - x.b0 := hs
    rw [stp_some hs h]
    constructor
    · intro hm
      have hm : x.b0 + y ≤ b ∧ b ≤ x.b1 + y ∧ x.t0 + (y + lo) ≤ t ∧ t ≤ x.t1 + (y + hi) ∧ x.e0 + lo ≤ t - b ∧ t - b ≤ x.e1 + hi := hm
      refine ⟨b - y, max (max x.t0 (x.e0 + (b - y))) (t - y - hi), show _ ∧ _ from ?_, by omega, by omega, by omega⟩
      omega
    · rintro ⟨b', t', hm, h1, h2, h3⟩
      have hm : x.b0 ≤ b' ∧ b' ≤ x.b1 ∧ x.t0 ≤ t' ∧ t' ≤ x.t1 ∧ x.e0 ≤ t' - b' ∧ t' - b' ≤ x.e1 := hm
      show _ ∧ _
      simp only
      omega
theorem sgt_iff {s : Option Spn} {lo hi bl b t : Int} (hs : Tt s) (h : lo ≤ hi) (hb : 0 ≤ bl) : Mm (sgt s lo hi bl) b t ↔ ∃ b' t', Mm s b' t' ∧ lo ≤ t' ∧ t' ≤ hi ∧ t = t' ∧ -bl ≤ t - b ∧ t - b ≤ bl := by
  cases s with
  | none => exact ⟨fun z => z.elim, fun ⟨_, _, z, _⟩ => z.elim⟩
  | some x =>
    have hx : x.b0 ≤ x.b1 ∧ x.t0 ≤ x.t1 ∧ x.e0 ≤ x.e1 ∧ x.t0 - x.e1 ≤ x.b0 ∧ x.b1 ≤ x.t1 - x.e0 ∧ x.b0 + x.e0 ≤ x.t0 ∧ x.t1 ≤ x.b1 + x.e1 ∧ x.t0 - x.b1 ≤ x.e0 ∧ x.e1 ≤ x.t1 - x.b0 := hs
    rw [sgt_mm]
    constructor
    · intro hm
      refine ⟨max x.b0 (t - x.e1), t, show _ ∧ _ from ?_, by omega, by omega, rfl, by omega, by omega⟩
      omega
    · rintro ⟨b', t', hm, h1, h2, rfl, h4, h5⟩
      have hm : x.b0 ≤ b' ∧ b' ≤ x.b1 ∧ x.t0 ≤ t ∧ t ≤ x.t1 ∧ x.e0 ≤ t - b' ∧ t - b' ≤ x.e1 := hm
      omega
theorem so_stp {N : Int} {s : Option Spn} {y lo hi : Int} (hs : Tt s) (h : lo ≤ hi) (h0 : So N s) (hN : -1 ≤ y ∧ y ≤ 1 ∧ -2 ≤ lo ∧ hi ≤ 4) : So (N + 6) (stp s y lo hi) := by
  cases s with
  | none => intro x e; cases e
  | some x =>
    obtain ⟨⟨q1, q2⟩, ⟨q3, q4⟩, ⟨q5, q6⟩, ⟨q7, q8⟩, ⟨q9, q10⟩, ⟨q11, q12⟩⟩ := h0 x rfl
    rw [stp_some hs h]
    intro z e
    cases e
    exact ⟨by simp only; omega, by simp only; omega, by simp only; omega, by simp only; omega, by simp only; omega, by simp only; omega⟩
theorem so_sgt {N : Int} {s : Option Spn} {lo hi bl : Int} (h0 : So N s) (hN : 0 ≤ N ∧ -6 ≤ lo ∧ hi ≤ 9 ∧ 0 ≤ bl ∧ bl ≤ 3) : So (N + 6) (sgt s lo hi bl) := by
  cases s with
  | none => intro x e; cases e
  | some x =>
    obtain ⟨⟨q1, q2⟩, ⟨q3, q4⟩, ⟨q5, q6⟩, ⟨q7, q8⟩, ⟨q9, q10⟩, ⟨q11, q12⟩⟩ := h0 x rfl
    intro w e
    have hw : Tt (some w) := by rw [← e]; exact sgt_tt
    have hx : w.b0 ≤ w.b1 ∧ w.t0 ≤ w.t1 ∧ w.e0 ≤ w.e1 ∧ w.t0 - w.e1 ≤ w.b0 ∧ w.b1 ≤ w.t1 - w.e0 ∧ w.b0 + w.e0 ≤ w.t0 ∧ w.t1 ≤ w.b1 + w.e1 ∧ w.t0 - w.b1 ≤ w.e0 ∧ w.e1 ≤ w.t1 - w.b0 := hw
    have k := bounds (y := ⟨-N - 3, N + 3, -N, N, -3, 3⟩) hw fun b t hm => by
      rw [← e] at hm
      have hm := sgt_mm.mp hm
      show _ ∧ _
      simp only
      omega
    simp only at k
    exact ⟨⟨by omega, by omega⟩, ⟨by omega, by omega⟩, ⟨by omega, by omega⟩, ⟨by omega, by omega⟩, ⟨by omega, by omega⟩, ⟨by omega, by omega⟩⟩
/-! how many pairs -/
theorem iv_succ {lo : Int} {n : Nat} : iv lo (n + 1) = iv lo n ++ [lo + n] := by
  unfold iv
  rw [List.range_succ, List.map_append]
  rfl
theorem fm_count {f : Int → List Int} {lo : Int} : ∀ n : Nat, (((fm (iv lo n) f).length : Nat) : Int) = sm (fun b => ((f b).length : Nat)) lo n
  | 0 => rfl
  | n + 1 => by
    rw [iv_succ]
    have e : fm (iv lo n ++ [lo + n]) f = fm (iv lo n) f ++ (f (lo + n)).map fun t => (lo + n, t) := by
      unfold fm
      rw [List.flatMap_append]
      simp
    rw [e, List.length_append, List.length_map]
    show _ = sm _ lo n + ((f (lo + n)).length : Nat)
    rw [← fm_count n]
    omega
theorem tot_len {s : Option Spn} (hs : Tt s) : tot s = ((lisP s).length : Nat) := by
  cases s with
  | none => rfl
  | some x =>
    rw [tot_core hs]
    show _ = (((fm _ _).length : Nat) : Int)
    rw [fm_count, show x.b1 + 1 - x.b0 = x.b1 - x.b0 + 1 by omega]
    refine sm_congr fun b h1 h2 => ?_
    rw [iv_len]
    show rw_ x b = _
    unfold rw_
    rw [if_pos (by omega)]
    omega
/-! sorted by codes, none twice -/
def code (p : IP) : Int := (p.1 + 500) * 1000 + (p.2 + 500)
def Near (p : IP) : Prop := -200 ≤ p.1 ∧ p.1 ≤ 200 ∧ -200 ≤ p.2 ∧ p.2 ≤ 200
def dec (c : Int) : IP := (c / 1000 - 500, c % 1000 - 500)
theorem dec_code {p : IP} (h : Near p) : dec (code p) = p := by
  obtain ⟨a, b⟩ := p
  unfold Near at h
  unfold dec code
  simp only at h ⊢
  rw [Prod.mk.injEq]
  omega
theorem code_le {p q : IP} (hp : Near p) (hq : Near q) (h : code p ≤ code q) : p = q ∨ ltP p q := by
  obtain ⟨a, b⟩ := p
  obtain ⟨c, d⟩ := q
  unfold Near at hp hq
  unfold code at h
  unfold ltP
  simp only [Prod.mk.injEq] at *
  omega
def push (A : List IP) (p : IP) : List IP := if A.getLast? = some p then A else A ++ [p]
def pushes (L : List IP) : List IP := L.foldl push []
theorem pushes_app {L : List IP} {p : IP} : pushes (L ++ [p]) = push (pushes L) p := by
  unfold pushes
  rw [List.foldl_append]
  rfl
theorem getLast_push {A : List IP} {p : IP} : (push A p).getLast? = some p := by
  unfold push
  split
  · assumption
  · simp
theorem mem_push {A : List IP} {p q : IP} : q ∈ push A p ↔ q ∈ A ∨ q = p := by
  unfold push
  split
  · rename_i h
    have := List.mem_of_getLast? h
    constructor
    · exact .inl
    · rintro (h | rfl)
      · exact h
      · exact this
  · simp
theorem mem_pushes {q : IP} (L : List IP) : q ∈ pushes L ↔ q ∈ L := by
  have key : ∀ (L A : List IP), q ∈ L.foldl push A ↔ q ∈ A ∨ q ∈ L := by
    intro L
    induction L with
    | nil => intro A; simp
    | cons p L ih =>
      intro A
      rw [List.foldl_cons, ih, mem_push, List.mem_cons]
      constructor <;> intro h <;> simp_all [or_assoc]
  unfold pushes
  rw [key]
  simp
theorem pushes_asc {L : List IP} (hn : ∀ p ∈ L, Near p) (h : L.Pairwise fun p q => code p ≤ code q) : (pushes L).Pairwise ltP := by
  have key : ∀ (L A : List IP), (∀ p ∈ L, Near p) → (∀ p ∈ A, Near p) → A.Pairwise ltP → (A ++ L).Pairwise (fun p q => code p ≤ code q) → (L.foldl push A).Pairwise ltP := by
    intro L
    induction L with
    | nil => intro A _ _ h _; exact h
    | cons p L ih =>
      intro A h1 h2 h3 h4
      rw [List.foldl_cons]
      have hp := h1 p List.mem_cons_self
      have h4' := List.pairwise_append.mp h4
      have h5 := List.pairwise_cons.mp h4'.2.1
      refine ih _ (fun q hq => h1 q (List.mem_cons_of_mem _ hq)) (fun q hq => ?_) ?_ ?_
      · rcases mem_push.mp hq with hq | rfl
        · exact h2 q hq
        · exact hp
      · unfold push
        split
        · exact h3
        · rename_i hl
          refine List.pairwise_append.mpr ⟨h3, List.pairwise_singleton _ _, fun a ha b hb => ?_⟩
          rw [List.mem_singleton.mp hb]
          rcases code_le (h2 a ha) hp (h4'.2.2 a ha p List.mem_cons_self) with e | e
          · subst e
            -- a is in A and equal to p, so the last one is p
            exfalso
            obtain ⟨z, hz⟩ : ∃ z, A.getLast? = some z := by
              cases hA : A.getLast? with
              | none => rw [List.getLast?_eq_none_iff] at hA; subst hA; cases ha
              | some z => exact ⟨z, rfl⟩
            have hzA := List.mem_of_getLast? hz
            obtain ⟨B, rfl⟩ : ∃ B, A = B ++ [z] := List.getLast?_eq_some_iff.mp hz
            have hle : code z ≤ code a := h4'.2.2 z hzA a List.mem_cons_self
            rcases code_le (h2 z hzA) hp hle with e | e
            · subst e; exact hl hz
            · rcases List.mem_append.mp ha with ha' | ha'
              · have := (List.pairwise_append.mp h3).2.2 a ha' z (List.mem_singleton.mpr rfl)
                exact ltP_ir _ (ltP_tr _ _ _ e this)
              · rw [List.mem_singleton.mp ha'] at hl; exact hl hz
          · exact e
      · have e : push A p = A ∨ push A p = A ++ [p] := by unfold push; split <;> simp
        rcases e with e | e <;> rw [e]
        · refine List.pairwise_append.mpr ⟨h4'.1, h5.2, fun a ha b hb => h4'.2.2 a ha b (List.mem_cons_of_mem _ hb)⟩
        · rw [List.append_assoc]
          exact h4
  exact key L [] hn (fun _ h => (nomatch h)) .nil h
end K28
namespace K28
open PySem Pi
local macro_rules | `(tactic| array_get_dec) => `(tactic| with_reducible first
  | refine w_v (by with_unfolding_all rfl) ?_ | refine w_c ?_ | refine w_cons ?_ | refine w_nil ?_ | refine w_op2 ?_ | refine s_add ?_ | refine s_sub ?_ | refine w_ix ?_ | refine w_fld ?_
  | refine s_lt ?_ | refine s_le ?_ | refine s_gt ?_ | refine s_ge ?_ | refine s_eq ?_ | refine s_ne ?_
  | refine w_gl ?_ | refine w_asg ?_ | refine w_ite ?_ | refine w_retS ?_ | refine w_ret ?_ | refine w_seqN ?_ | refine w_nilS ?_ | refine w_seqS ?_
  | refine b_t ?_ | refine b_f ?_ | refine b_n ?_ | refine b_nb1 ?_ | refine b_nb0 ?_ | refine i_int ?_
  | refine w_or ?_ | refine w_and ?_ | refine w_not ?_ | refine w_iteE ?_ | refine w_neg ?_ | refine w_ch ?_ | refine w_isiB ?_
  | refine w_tup ?_ | refine w_lst ?_ | refine l_and rfl ?_ | refine w_bi ?_ | refine w_sl ?_ | refine w_onil ?_ | refine w_ocons ?_ | refine w_it ?_ | refine w_rng1 ?_ | refine w_rng2 ?_ | refine w_mkr ?_
  | refine w_callE (by with_reducible assumption) ?_ | refine w_mkE (by with_reducible assumption) ?_ | refine w_methE (by with_reducible assumption) (by with_reducible assumption) ?_
  | refine w_opmE (by with_reducible assumption) (by with_reducible assumption) ?_ | refine w_troE (by with_reducible assumption) (by with_reducible assumption) ?_ | refine w_eqoE (by with_reducible assumption) (by with_reducible assumption) ?_ | refine w_inoE (by with_reducible assumption) (by with_reducible assumption) ?_ | refine w_prpE (by with_reducible assumption) (by with_reducible assumption) ?_
  | refine And.intro (show clsS _ _ = some _ by with_unfolding_all rfl) ?_ | refine And.intro (show okR _ _ _ _ = true by with_unfolding_all rfl) ?_
  | refine s_mulL (by with_unfolding_all rfl) ?_ | refine s_mulR (by with_unfolding_all rfl) ?_ | refine s_mod (by first | assumption | decide) ?_ | refine s_fdiv (by first | assumption | decide) (by first | assumption | decide) ?_
  | refine s_isn0 ?_ | refine s_isn1 ?_ | refine s_isn2 ?_ | refine s_isn3 ?_ | refine s_isn4 ?_ | refine s_isn5 ?_ | refine s_ntn0 ?_ | refine s_ntn1 ?_ | refine s_ntn2 ?_ | refine s_ntn3 ?_ | refine s_ntn4 ?_ | refine s_ntn5 ?_
  | refine w_mko ?_ | refine w_app (by with_unfolding_all rfl) ?_ | refine w_extv ?_ (by with_unfolding_all rfl) | refine w_frz (by with_unfolding_all rfl) ?_ | refine w_asgT ?_ | refine w_par ?_ | refine w_ex ?_ | refine w_setF ?_
  | refine some_ex (x := setAll _ _ _) (by with_unfolding_all rfl) ?_ | refine some_ex (x := tgS _ _ _) (by with_unfolding_all rfl) ?_ | refine w_par2 ?_ | refine w_evP ?_ | refine w_kv ?_ | refine w_ko (Nat.le_of_ble_eq_true rfl) ?_
  | refine wl_app ?_ | refine wl_asg ?_ | refine wl_ite ?_ | refine wl_ex ?_ | refine wl_extv ?_ | refine wl_ext ?_ | refine wl_setF ?_ | refine wl_raise ?_ | refine wl_setr ?_ | refine wl_appr ?_ | refine wl_par ?_ | refine wl_seto ?_
  | refine own_ex (by with_unfolding_all rfl) (by with_unfolding_all ((try simp only [List.length_append, List.length_cons, List.length_nil, List.length_map]); omega)) ?_
  | refine t_isiT (by with_unfolding_all rfl) (by with_unfolding_all rfl) ?_ | refine t_isiF (by with_unfolding_all rfl) (by with_unfolding_all rfl) ?_
  | refine w_of (by with_unfolding_all rfl) ?_ | ((fail_if_success refine b_g ?_ ?_); refine bl_ex ?_))
local macro_rules | `(tactic| get_elem_tactic_trivial) => `(tactic| ((repeat array_get_dec); (try dsimp only [List.set_cons_succ, List.set_cons_zero])))
/-! rows of pairs as values -/
def pd (p : IP) : D := rg p.1 p.2
def pp (p : IP) : PyData := .tuple [.int p.1, .int p.2]
theorem toPys_pd : ∀ A : List IP, toPys (A.map pd) = some (A.map pp)
  | [] => rfl
  | p :: A => by
    show (match toPy (pd p), toPys (A.map pd) with
      | some x, some xs => some (x :: xs)
      | _, _ => none) = _
    rw [toPys_pd A]
    rfl
theorem toPy_pd (A : List IP) : toPy (.lst (A.map pd)) = some (.list (A.map pp)) := by
  show (toPys (A.map pd)).map PyData.list = _
  rw [toPys_pd]; rfl
theorem lay_pp : ∀ A : List IP, PyData.canLayAll0 (A.map pp) = true ∧ PyData.depthAll (A.map pp) ≤ 3
  | [] => ⟨rfl, Nat.zero_le _⟩
  | p :: A => by
    obtain ⟨h1, h2⟩ := lay_pp A
    refine ⟨?_, ?_⟩
    · show (PyData.canLay0 (pp p) && PyData.canLayAll0 (A.map pp)) = true
      rw [h1]; rfl
    · show max (pp p).depth (PyData.depthAll (A.map pp)) ≤ 3
      have : (pp p).depth ≤ 3 := by simp [pp, PyData.depth, PyData.depthAll]
      omega
theorem sh_pp (A : List IP) : SeqAt.shaped (.list (A.map pp)) = true := by
  obtain ⟨h1, h2⟩ := lay_pp A
  show (PyData.canLayAll0 (A.map pp) && decide (PyData.depth (.list (A.map pp)) ≤ 64)) = true
  have : PyData.depth (.list (A.map pp)) ≤ 64 := by rw [PyData.depth.eq_1]; omega
  rw [h1, decide_eq_true this]; rfl
theorem sh_p (p : IP) : SeqAt.shaped (pp p) = true := rfl
theorem eqv_p (p q : IP) : PyData.eqv (pp p) (pp q) = decide (p = q) := by
  obtain ⟨a, b⟩ := p
  obtain ⟨c, d⟩ := q
  simp [pp, PyData.eqv, PyData.eqvAll, Bool.beq_eq_decide_eq, Prod.mk.injEq]
theorem eqv_pp : ∀ A B : List IP, PyData.eqv (.list (A.map pp)) (.list (B.map pp)) = decide (A = B)
  | [], [] => rfl
  | [], _ :: _ => rfl
  | _ :: _, [] => rfl
  | p :: A, q :: B => by
    have h := eqv_pp A B
    show (PyData.eqv (pp p) (pp q) && PyData.eqvAll (A.map pp) (B.map pp)) = _
    rw [eqv_p]
    have h2 : PyData.eqvAll (A.map pp) (B.map pp) = decide (A = B) := h
    rw [h2]
    simp [List.cons.injEq]
section
variable {g : List MO} {E : EC} {Q : D → List MO → Prop}
theorem eq_pd {A B : List IP} : op2S g .eq (.lst (A.map pd)) (.lst (B.map pd)) = some (.bl (decide (A = B))) := by
  show (deq (.lst (A.map pd)) (.lst (B.map pd))).map D.bl = _
  unfold deq
  rw [toPy_pd, toPy_pd]
  simp only [sh_pp, Bool.and_self, cond_true, eqv_pp]
  rfl
theorem ne_pd {A B : List IP} : op2S g .ne (.lst (A.map pd)) (.lst (B.map pd)) = some (.bl (!decide (A = B))) := by
  show (deq (.lst (A.map pd)) (.lst (B.map pd))).map (fun k => D.bl !k) = _
  unfold deq
  rw [toPy_pd, toPy_pd]
  simp only [sh_pp, Bool.and_self, cond_true, eqv_pp]
  rfl
theorem any_pp (p : IP) : ∀ A : List IP, (A.map pp).any (fun z => PyData.eqv z (pp p)) = decide (p ∈ A)
  | [] => rfl
  | q :: A => by
    rw [List.map_cons, List.any_cons, any_pp p A, eqv_p]
    simp [List.mem_cons, eq_comm]
theorem inLV_pd {p : IP} {A : List IP} : inLV (pd p) (.lst (A.map pd)) = some (decide (p ∈ A)) := by
  unfold inLV
  rw [toPy_pd]
  show (bif SeqAt.shaped (pp p) && SeqAt.shaped (.list (A.map pp)) then some ((A.map pp).any fun z => PyData.eqv z (pp p)) else none) = _
  rw [sh_pp, sh_p, any_pp]
  rfl
theorem in_pd {p : IP} {A : List IP} : op2S g .inL (pd p) (.lst (A.map pd)) = some (.bl (decide (p ∈ A))) := by
  show (inLV (pd p) (.lst (A.map pd))).map D.bl = _
  rw [inLV_pd]; rfl
theorem nin_pd {p : IP} {A : List IP} : op2S g .ninL (pd p) (.lst (A.map pd)) = some (.bl (!decide (p ∈ A))) := by
  show (inLV (pd p) (.lst (A.map pd))).map (fun k => D.bl !k) = _
  rw [inLV_pd]; rfl
/-! the law's own helpers -/
theorem pick_ok {n : Nat} {ds : List D} (hb : Bx n g) (h0 : 0 < ds.length) (h1 : ds.length < 1000) (q : ∀ x g', x ∈ ds → Bx n g' → g'.length = g.length → Q x g') : wpC (m_F__law_pick [.ref n, .lst ds] g) E Q := by
  have c1 := cs_F__law_pick
  refine wpC_def ?_
  get_elem_tactic_trivial
  refine take_ok hb (by omega) (by omega) fun x g' x0 x1 hb' l' => ?_
  obtain ⟨y, hy, hm⟩ := atI_nat x0 x1
  exact w_of (z := y) hy (q y g' hm hb' l')
def bnd (x : Spn) : D := .lst [rg x.b0 x.b1, rg x.t0 x.t1, rg x.e0 x.e1]
def Rg3 (d : D) : Prop := ∃ a b, d = rg a b ∧ -3 ≤ a ∧ a ≤ 3 ∧ a - 1 ≤ b ∧ b ≤ a + 6
theorem bounds_ok {n : Nat} (hb : Bx n g) (q : ∀ x g', SmN 10 x → Bx n g' → g'.length = g.length → Q (bnd x) g') : wpC (m_F__law_bounds [.ref n] g) E Q := by
  obtain ⟨c1, c2⟩ := cs_F__law_bounds
  refine wpC_def ?_
  get_elem_tactic_trivial
  refine w_for (w_rng1 (w_c ⟨3, rfl, by decide, by decide, fun done s => ∃ L a2 a3 g', s = ⟨[.v (.ref n), .own L, a2, a3], g'⟩ ∧ L.length = done.length ∧ (∀ d ∈ L, Rg3 d) ∧ Bx n g' ∧ g'.length = g.length, ?_, ?_, ?_⟩))
  · exact ⟨[], _, _, g, rfl, rfl, fun _ h => (nomatch h), hb, rfl⟩
  · rintro done d rest s he ⟨L, a2, a3, g', rfl, hL, hr, hb', hl⟩
    have hd : done.length < 3 := by
      have := congrArg List.length he
      simp at this
      omega
    refine ⟨_, rfl, ?_⟩
    get_elem_tactic_trivial
    refine take_ok hb' (by decide) (by decide) fun x g1 x0 x1 hb1 l1 => ?_
    get_elem_tactic_trivial
    refine take_ok hb1 (by decide) (by decide) fun y g2 y0 y1 hb2 l2 => ?_
    get_elem_tactic_trivial
    refine pick_ok (ds := [.int 0, .int 0, .int 0, .int 0, .int 1]) hb2 (by decide) (by decide) fun z g3 hz hb3 l3 => ?_
    obtain ⟨w, rfl, w0⟩ : ∃ w : Int, z = .int w ∧ (w = 0 ∨ w = 1) := by
      have hz : z = .int 0 ∨ z = .int 1 := by simpa using hz
      rcases hz with rfl | rfl
      · exact ⟨0, rfl, .inl rfl⟩
      · exact ⟨1, rfl, .inr rfl⟩
    get_elem_tactic_trivial
    refine ⟨_, _, _, _, rfl, by simp [hL], fun u hu => ?_, hb3, by omega⟩
    rcases List.mem_append.mp hu with hu | hu
    · exact hr u hu
    · rw [List.mem_singleton.mp hu]
      exact ⟨_, _, rfl, by omega, by omega, by omega, by omega⟩
  · rintro s ⟨L, a2, a3, g', rfl, hL, hr, hb', hl⟩
    have hL : L.length = 3 := by simpa using hL
    obtain ⟨d1, d2, d3, rfl⟩ : ∃ d1 d2 d3, L = [d1, d2, d3] := by
      match L, hL with
      | [a, b, c], _ => exact ⟨a, b, c, rfl⟩
    obtain ⟨a, b, rfl, h1, h2, h3, h4⟩ := hr d1 (by simp)
    obtain ⟨c, d, rfl, k1, k2, k3, k4⟩ := hr d2 (by simp)
    obtain ⟨e, f, rfl, m1, m2, m3, m4⟩ := hr d3 (by simp)
    get_elem_tactic_trivial
    exact q ⟨a, b, c, d, e, f⟩ g' ⟨by simp only; omega, by simp only; omega, by simp only; omega, by simp only; omega, by simp only; omega, by simp only; omega⟩ hb' hl
theorem sl_ok {α : Type} {a b c : α} {L : List α} (h : L = [a, b, c]) : L.length = 3 := by rw [h]; rfl
/-- a range's turns -/
theorem rng_iv (i j : Int) : (List.range (j - i).toNat).map (fun (k : Nat) => D.int (i + k)) = (iv i (j - i).toNat).map .int := by
  unfold iv
  rw [List.map_map]
  rfl
theorem filter_ite {α : Type} (l : List α) (x : α) (p : α → Bool) : (l ++ [x]).filter p = l.filter p ++ (if p x then [x] else []) := by
  rw [List.filter_append]
  by_cases h : p x <;> simp [h]
theorem fm_app {xs : List Int} {f : Int → List Int} {b : Int} : fm (xs ++ [b]) f = fm xs f ++ (f b).map fun t => (b, t) := by
  unfold fm
  rw [List.flatMap_append]
  simp
theorem int_inj : ∀ {a b : List Int}, a.map D.int = b.map D.int → a = b
  | [], [], _ => rfl
  | [], _ :: _, h => by cases h
  | _ :: _, [], h => by cases h
  | x :: a, y :: b, h => by
    rw [List.map_cons, List.map_cons] at h
    injection h with h1 h2
    cases h1
    rw [int_inj h2]
theorem allL_ok {N : Int} {x : Spn} (hN : N ≤ 60) (hx : SmN N x) (q : Q (.lst ((allP x).map pd)) g) : wpC (m_F__law_all [bnd x] g) E Q := by
  have hx' := hx
  obtain ⟨⟨q1, q2⟩, ⟨q3, q4⟩, ⟨q5, q6⟩, ⟨q7, q8⟩, ⟨q9, q10⟩, ⟨q11, q12⟩⟩ := hx
  have hall := allP_len hN hx'
  refine wpC_def ?_
  get_elem_tactic_trivial
  refine w_for ?_
  get_elem_tactic_trivial
  refine ⟨_, _, rfl, rfl, by omega, by omega, by omega, by omega, ?_⟩
  rw [rng_iv]
  let f : Int → List Int := fun b => (iv x.t0 (x.t1 + 1 - x.t0).toNat).filter fun t => decide (x.e0 ≤ t - b ∧ t - b ≤ x.e1)
  refine ⟨fun done s => ∃ L a2 a3, done = L.map D.int ∧ s = ⟨[.v (bnd x), .own ((fm L f).map pd), a2, a3], g⟩, ⟨[], _, _, rfl, rfl⟩, ?_, ?_⟩
  · rintro _ d rest s he ⟨L, a2, a3, rfl, rfl⟩
    obtain ⟨L1, b, L2, e1, e2, rfl, rfl⟩ := done_map he
    have e2 : L = L1 := int_inj e2
    subst e2
    refine ⟨_, rfl, w_last (w_for ?_)⟩
    get_elem_tactic_trivial
    refine ⟨_, _, rfl, rfl, by omega, by omega, by omega, by omega, ?_⟩
    rw [rng_iv]
    refine ⟨fun done s => ∃ M a3, done = M.map D.int ∧ s = ⟨[.v (bnd x), .own ((fm L f ++ (M.filter fun t => decide (x.e0 ≤ t - b ∧ t - b ≤ x.e1)).map fun t => (b, t)).map pd), .v (.int b), a3], g⟩, ⟨[], a3, rfl, by simp⟩, ?_, ?_⟩
    · rintro _ d rest s he' ⟨M, a3, rfl, rfl⟩
      obtain ⟨M1, t, M2, m1, m2, rfl, rfl⟩ := done_map he'
      have m2 : M = M1 := int_inj m2
      subst m2
      refine ⟨_, rfl, ?_⟩
      get_elem_tactic_trivial
      have hb2 : b ∈ iv x.b0 (x.b1 + 1 - x.b0).toNat := by rw [e1]; simp
      have ht2 : t ∈ iv x.t0 (x.t1 + 1 - x.t0).toNat := by rw [m1]; simp
      have bd1 : (fm L f).length ≤ 14641 := by
        have : fm (iv x.b0 (x.b1 + 1 - x.b0).toNat) f = fm L f ++ fm (b :: L2) f := by
          rw [e1]; unfold fm; rw [List.flatMap_append]
        have h2 : (fm (iv x.b0 (x.b1 + 1 - x.b0).toNat) f).length ≤ 14641 := hall
        rw [this, List.length_append] at h2
        omega
      have bd2 : ((M.filter fun t => decide (x.e0 ≤ t - b ∧ t - b ≤ x.e1)).map fun t => (b, t)).length ≤ 121 := by
        rw [List.length_map]
        refine Nat.le_trans (List.length_filter_le _ _) ?_
        have := congrArg List.length m1
        rw [iv_len, List.length_append] at this
        omega
      have out : ¬ (x.e0 ≤ t - b ∧ t - b ≤ x.e1) → ∃ (M' : List Int) (a3 : SV), M.map D.int ++ [D.int t] = M'.map D.int ∧ (⟨[.v (bnd x), .own (((fm L f ++ (M.filter fun t => decide (x.e0 ≤ t - b ∧ t - b ≤ x.e1)).map fun t => (b, t)).map pd) ++ []), .v (.int b), .v (.int t)], g⟩ : S) =
          ⟨[.v (bnd x), .own ((fm L f ++ (M'.filter fun t => decide (x.e0 ≤ t - b ∧ t - b ≤ x.e1)).map fun t => (b, t)).map pd), .v (.int b), a3], g⟩ := fun h =>
        ⟨M ++ [t], .v (.int t), by simp, by rw [filter_ite, if_neg (by simpa using h)]; simp⟩
      refine cx_le (fun h1 => ?_) (fun h1 => ?_)
      · get_elem_tactic_trivial
        refine b_d (fun h2 => ?_) (fun h2 => ?_)
        · get_elem_tactic_trivial
          refine ⟨[pd (b, t)], _, rfl, rfl, le_bi ?_, w_nilS ⟨M ++ [t], .v (.int t), by simp, ?_⟩⟩
          · rw [List.length_map, List.length_append]
            show _ + 1 ≤ _
            omega
          · rw [filter_ite, if_pos (by simp; exact ⟨h1, h2⟩)]
            simp
        · get_elem_tactic_trivial
          refine ⟨[], _, rfl, rfl, le_bi ?_, w_nilS (out fun z => h2 z.2)⟩
          rw [List.length_map, List.length_append]
          show _ + 0 ≤ _
          omega
      · get_elem_tactic_trivial
        refine ⟨[], _, rfl, rfl, le_bi ?_, w_nilS (out fun z => h1 z.1)⟩
        rw [List.length_map, List.length_append]
        show _ + 0 ≤ _
        omega
    · rintro s ⟨M, a3, hM, rfl⟩
      have hM := int_inj hM
      refine w_nilS ⟨L ++ [b], .v (.int b), a3, by simp, ?_⟩
      rw [fm_app, ← hM]
  · rintro s ⟨L, a2, a3, hL, rfl⟩
    have hL := int_inj hL
    subst hL
    get_elem_tactic_trivial
    exact q
theorem lisL_ok {N : Int} {s : Option Spn} (hN : N ≤ 60) (hs : So N s) (ht : Tt s) (q : Q (.lst ((lisP s).map pd)) g) : wpC (m_F__law_listed [insS s] g) E Q := by
  obtain ⟨c1, c2⟩ := cs_F__law_listed
  have hlen := lisP_len hN hs
  cases s with
  | none =>
    refine wpC_def ?_
    get_elem_tactic_trivial
    exact q
  | some x =>
    have ht : x.b0 ≤ x.b1 ∧ x.t0 ≤ x.t1 ∧ x.e0 ≤ x.e1 ∧ x.t0 - x.e1 ≤ x.b0 ∧ x.b1 ≤ x.t1 - x.e0 ∧ x.b0 + x.e0 ≤ x.t0 ∧ x.t1 ≤ x.b1 + x.e1 ∧ x.t0 - x.b1 ≤ x.e0 ∧ x.e1 ≤ x.t1 - x.b0 := ht
    obtain ⟨⟨q1, q2⟩, ⟨q3, q4⟩, ⟨q5, q6⟩, ⟨q7, q8⟩, ⟨q9, q10⟩, ⟨q11, q12⟩⟩ := hs x rfl
    refine wpC_def ?_
    get_elem_tactic_trivial
    refine w_for ?_
    get_elem_tactic_trivial
    refine ⟨_, _, rfl, rfl, by omega, by omega, by omega, by omega, ?_⟩
    rw [rng_iv]
    let f : Int → List Int := fun b => iv (max x.t0 (x.e0 + b)) (min x.t1 (x.e1 + b) + 1 - max x.t0 (x.e0 + b)).toNat
    refine ⟨fun done s => ∃ L a2 a3 a4, done = L.map D.int ∧ s = ⟨[.v (insS (some x)), .own ((fm L f).map pd), a2, a3, a4], g⟩, ⟨[], _, _, _, rfl, rfl⟩, ?_, ?_⟩
    · rintro _ d rest s he ⟨L, a2, a3, a4, rfl, rfl⟩
      obtain ⟨L1, b, L2, e1, e2, rfl, rfl⟩ := done_map he
      have e2 : L = L1 := int_inj e2
      subst e2
      have hb2 : b ∈ iv x.b0 (x.b1 + 1 - x.b0).toNat := by rw [e1]; simp
      rw [mem_iv] at hb2
      refine ⟨_, rfl, ?_⟩
      get_elem_tactic_trivial
      refine places_in (x := x) (n := b) (by omega) (by omega) ?_
      get_elem_tactic_trivial
      have bd1 : (fm L f).length ≤ 14641 := by
        have : fm (iv x.b0 (x.b1 + 1 - x.b0).toNat) f = fm L f ++ fm (b :: L2) f := by
          rw [e1]; unfold fm; rw [List.flatMap_append]
        have h2 : (fm (iv x.b0 (x.b1 + 1 - x.b0).toNat) f).length ≤ 14641 := hlen
        rw [this, List.length_append] at h2
        omega
      refine w_compP (f b) D.int (fun t => pd (b, t)) (fun _ => true) ?_
      get_elem_tactic_trivial
      refine ⟨_, _, rfl, rfl, by omega, by omega, by omega, by omega, rng_iv _ _, ?_, fun t ht => ⟨_, rfl, ?_⟩, ?_⟩
      · show (iv _ _).length ≤ _
        rw [iv_len]
        exact le_bg (by omega)
      · get_elem_tactic_trivial
        exact ⟨rfl, rfl, fun _ => by get_elem_tactic_trivial; exact ⟨rfl, rfl⟩⟩
      · refine ⟨_, _, rfl, rfl, le_bi ?_, w_nilS ⟨L ++ [b], .v (.int b), .v (rg (max x.t0 (x.e0 + b)) (min x.t1 (x.e1 + b))), a4, by simp, ?_⟩⟩
        · rw [List.length_map, List.length_map, List.filter_eq_self.mpr (fun _ _ => rfl)]
          show _ + (iv _ _).length ≤ _
          rw [iv_len]
          omega
        · rw [fm_app, List.map_append, List.map_map, List.filter_eq_self.mpr (fun _ _ => rfl)]
          rfl
    · rintro s ⟨L, a2, a3, a4, hL, rfl⟩
      have hL := int_inj hL
      subst hL
      get_elem_tactic_trivial
      exact q
end
end K28
namespace K28
open PySem Pi
local macro_rules | `(tactic| array_get_dec) => `(tactic| with_reducible first
  | refine w_v (by with_unfolding_all rfl) ?_ | refine w_c ?_ | refine w_cons ?_ | refine w_nil ?_ | refine w_op2 ?_ | refine s_add ?_ | refine s_sub ?_ | refine w_ix ?_ | refine w_fld ?_
  | refine s_lt ?_ | refine s_le ?_ | refine s_gt ?_ | refine s_ge ?_ | refine s_eq ?_ | refine s_ne ?_
  | refine w_gl ?_ | refine w_asg ?_ | refine w_ite ?_ | refine w_retS ?_ | refine w_ret ?_ | refine w_seqN ?_ | refine w_nilS ?_ | refine w_seqS ?_
  | refine b_t ?_ | refine b_f ?_ | refine b_n ?_ | refine b_nb1 ?_ | refine b_nb0 ?_ | refine i_int ?_
  | refine w_or ?_ | refine w_and ?_ | refine w_not ?_ | refine w_iteE ?_ | refine w_neg ?_ | refine w_ch ?_ | refine w_isiB ?_
  | refine w_tup ?_ | refine w_lst ?_ | refine l_and rfl ?_ | refine w_bi ?_ | refine w_sl ?_ | refine w_onil ?_ | refine w_ocons ?_ | refine w_it ?_ | refine w_rng1 ?_ | refine w_rng2 ?_ | refine w_mkr ?_
  | refine w_callE (by with_reducible assumption) ?_ | refine w_mkE (by with_reducible assumption) ?_ | refine w_methE (by with_reducible assumption) (by with_reducible assumption) ?_
  | refine w_opmE (by with_reducible assumption) (by with_reducible assumption) ?_ | refine w_troE (by with_reducible assumption) (by with_reducible assumption) ?_ | refine w_eqoE (by with_reducible assumption) (by with_reducible assumption) ?_ | refine w_inoE (by with_reducible assumption) (by with_reducible assumption) ?_ | refine w_prpE (by with_reducible assumption) (by with_reducible assumption) ?_
  | refine And.intro (show clsS _ _ = some _ by with_unfolding_all rfl) ?_ | refine And.intro (show okR _ _ _ _ = true by with_unfolding_all rfl) ?_
  | refine s_mulL (by with_unfolding_all rfl) ?_ | refine s_mulR (by with_unfolding_all rfl) ?_ | refine s_mod (by first | assumption | decide) ?_ | refine s_fdiv (by first | assumption | decide) (by first | assumption | decide) ?_
  | refine s_isn0 ?_ | refine s_isn1 ?_ | refine s_isn2 ?_ | refine s_isn3 ?_ | refine s_isn4 ?_ | refine s_isn5 ?_ | refine s_ntn0 ?_ | refine s_ntn1 ?_ | refine s_ntn2 ?_ | refine s_ntn3 ?_ | refine s_ntn4 ?_ | refine s_ntn5 ?_
  | refine w_mko ?_ | refine w_app (by with_unfolding_all rfl) ?_ | refine w_extv ?_ (by with_unfolding_all rfl) | refine w_frz (by with_unfolding_all rfl) ?_ | refine w_asgT ?_ | refine w_par ?_ | refine w_ex ?_ | refine w_setF ?_
  | refine some_ex (x := setAll _ _ _) (by with_unfolding_all rfl) ?_ | refine some_ex (x := tgS _ _ _) (by with_unfolding_all rfl) ?_ | refine w_par2 ?_ | refine w_evP ?_ | refine w_kv ?_ | refine w_ko (Nat.le_of_ble_eq_true rfl) ?_
  | refine wl_app ?_ | refine wl_asg ?_ | refine wl_ite ?_ | refine wl_ex ?_ | refine wl_extv ?_ | refine wl_ext ?_ | refine wl_setF ?_ | refine wl_raise ?_ | refine wl_setr ?_ | refine wl_appr ?_ | refine wl_par ?_ | refine wl_seto ?_
  | refine own_ex (by with_unfolding_all rfl) (by with_unfolding_all ((try simp only [List.length_append, List.length_cons, List.length_nil, List.length_map]); omega)) ?_
  | refine w_opo (by with_unfolding_all rfl) ?_ | refine w_ixo ?_ (by with_unfolding_all rfl) | refine own_ex2 (by with_unfolding_all rfl) ?_
  | refine extv_ex (by with_unfolding_all rfl) (by with_unfolding_all rfl) (by with_unfolding_all ((try simp only [List.length_append, List.length_cons, List.length_nil, List.length_map]); omega)) ?_
  | refine t_isiT (by with_unfolding_all rfl) (by with_unfolding_all rfl) ?_ | refine t_isiF (by with_unfolding_all rfl) (by with_unfolding_all rfl) ?_
  | refine w_of (o := fldS _ _ _) (by with_unfolding_all rfl) ?_ | refine w_of (o := ixS _ _) (by with_unfolding_all rfl) ?_ | refine w_of (o := biS _ _ _) (by with_unfolding_all rfl) ?_ | refine w_of (o := slS _ _ _) (by with_unfolding_all rfl) ?_ | refine w_of (o := revS _) (by with_unfolding_all rfl) ?_ | refine w_of (o := seqD _) (by with_unfolding_all rfl) ?_ | refine w_of (o := chars _) (by with_unfolding_all rfl) ?_ | refine w_of (o := zipD _ _) (by with_unfolding_all rfl) ?_ | refine w_of (o := enmD _) (by with_unfolding_all rfl) ?_ | refine w_of (o := enmTD _) (by with_unfolding_all rfl) ?_ | refine w_of (o := op2S _ .pow _ _) (by with_unfolding_all rfl) ?_ | refine w_of (o := op2S _ .cat _ _) (by with_unfolding_all rfl) ?_ | refine w_of (o := op2S _ .catL _ _) (by with_unfolding_all rfl) ?_ | ((fail_if_success refine b_g ?_ ?_); refine bl_ex ?_))
local macro_rules | `(tactic| get_elem_tactic_trivial) => `(tactic| ((repeat array_get_dec); (try dsimp only [List.set_cons_succ, List.set_cons_zero])))
/-! sorted -/
theorem intsD_map : ∀ is : List Int, intsD (is.map D.int) = some is
  | [] => rfl
  | i :: is => by
    show (intsD (is.map D.int)).map (i :: ·) = _
    rw [intsD_map is]; rfl
section
variable {g : List MO} {E : EC} {Q : D → List MO → Prop}
theorem sort_ok {xs : List Int} : biS g .sort [.lst (xs.map .int)] = some (.lst ((isort xs).map .int)) := by
  show (intsD (xs.map D.int)).map (fun is => D.lst ((isort is).map .int)) = _
  rw [intsD_map]; rfl
theorem ix_last {X : List IP} {z : IP} (h : X.getLast? = some z) : ixS (.lst (X.map pd)) (.int (-1)) = some (pd z) := by
  obtain ⟨B, rfl⟩ := List.getLast?_eq_some_iff.mp h
  show L2.atI ((B ++ [z]).map pd) (-1) = _
  unfold L2.atI L2.ixN
  rw [if_neg (by decide), if_pos (by rw [List.map_append, List.length_append]; show -(((_ + 1 : Nat)) : Int) ≤ -1; omega)]
  rw [List.map_append, List.length_append, List.length_map]
  show ((B.map pd) ++ [pd z])[((-1 : Int) + ((B.length + 1 : Nat) : Int)).toNat]? = _
  rw [show ((-1 : Int) + ((B.length + 1 : Nat) : Int)).toNat = B.length by omega]
  rw [List.getElem?_append_right (by rw [List.length_map]; omega), List.length_map, Nat.sub_self]
  rfl
theorem eq_pd1 {p q : IP} : op2S g .eq (pd p) (pd q) = some (.bl (decide (p = q))) := by
  have h : PyData.eqv (pp p) (pp q) = decide (p = q) := eqv_p p q
  show (bif true && true then some (PyData.eqv (pp p) (pp q)) else none).map D.bl = _
  rw [h]; rfl
theorem map_true {α β : Type} (A : List α) (f : α → β) : (A.filter fun _ => true).map f = A.map f := by rw [List.filter_eq_self.mpr (fun _ _ => rfl)]
theorem pushes_len (L : List IP) : (pushes L).length ≤ L.length := by
  have key : ∀ (L A : List IP), (L.foldl push A).length ≤ A.length + L.length := by
    intro L
    induction L with
    | nil => intro A; exact Nat.le_refl _
    | cons p L ih =>
      intro A
      rw [List.foldl_cons]
      have := ih (push A p)
      have h2 : (push A p).length ≤ A.length + 1 := by unfold push; split <;> simp
      rw [List.length_cons]
      omega
  have := key L []
  rw [List.length_nil, Nat.zero_add] at this
  exact this
theorem sorted_ok {A : List IP} (hn : ∀ p ∈ A, Near p) (hl : A.length ≤ 80000) (q : ∀ R : List IP, R.Pairwise ltP → (∀ p, p ∈ R ↔ p ∈ A) → Q (.lst (R.map pd)) g) : wpC (m_F__law_sorted [.lst (A.map pd)] g) E Q := by
  refine wpC_def ?_
  get_elem_tactic_trivial
  refine w_compP A pd (fun p => .int (code p)) (fun _ => true) ?_
  get_elem_tactic_trivial
  refine ⟨rfl, le_bi (by omega), fun p hp => ⟨_, rfl, ?_⟩, ?_⟩
  · get_elem_tactic_trivial
    refine ⟨rfl, rfl, fun _ => ?_⟩
    get_elem_tactic_trivial
    exact ⟨rfl, rfl⟩
  rw [map_true, show A.map (fun p => D.int (code p)) = (A.map code).map D.int by rw [List.map_map]; rfl]
  refine w_nil (w_of sort_ok ?_)
  obtain ⟨M, hM, hp, hs⟩ : ∃ M : List IP, isort (A.map code) = M.map code ∧ M.Perm A ∧ M.Pairwise fun p q => code p ≤ code q := by
    have hperm := isort_perm (A.map code)
    have hdec : ∀ c ∈ isort (A.map code), code (dec c) = c := fun c hc => by
      obtain ⟨p, hp, rfl⟩ := List.mem_map.mp (hperm.mem_iff.mp hc)
      rw [dec_code (hn p hp)]
    have e : ((isort (A.map code)).map dec).map code = isort (A.map code) := by
      rw [List.map_map]
      have : (isort (A.map code)).map (code ∘ dec) = (isort (A.map code)).map id := List.map_congr_left fun c hc => hdec c hc
      rw [this, List.map_id]
    refine ⟨(isort (A.map code)).map dec, e.symm, ?_, ?_⟩
    · have h1 := hperm.map dec
      rw [List.map_map] at h1
      have : A.map (dec ∘ code) = A.map id := List.map_congr_left fun p hp => dec_code (hn p hp)
      rw [this, List.map_id] at h1
      exact h1
    · have h1 := isort_sorted (A.map code)
      rw [← e, List.pairwise_map] at h1
      exact h1
  rw [hM, List.map_map]
  have hnM : ∀ p ∈ M, Near p := fun p hp' => hn p (hp.mem_iff.mp hp')
  have hlM : M.length = A.length := hp.length_eq
  get_elem_tactic_trivial
  refine w_forG M (fun p => .int (code p)) (fun done s => ∃ a3 a4 a5 a6, s = ⟨[.v (.lst (A.map pd)), .v (.lst (M.map fun p => .int (code p))), .own ((pushes done).map pd), a3, a4, a5, a6], g⟩) ?_
  get_elem_tactic_trivial
  refine ⟨rfl, ⟨_, _, _, _, rfl⟩, ?_, ?_⟩
  · rintro done p rest s he ⟨a3, a4, a5, a6, rfl⟩
    have hpn := hnM p (by rw [he]; simp)
    refine ⟨_, rfl, ?_⟩
    get_elem_tactic_trivial
    have e1 : code p / 1000 - 500 = p.1 := congrArg Prod.fst (dec_code hpn)
    have e2 : code p % 1000 - 500 = p.2 := congrArg Prod.snd (dec_code hpn)
    rw [e1, e2]
    have hb : (pushes done).length ≤ 80000 := by
      have h1 := pushes_len done
      have h2 := congrArg List.length he
      rw [List.length_append] at h2
      omega
    refine w_of (ne_pd (B := [])) ?_
    have fin : ∀ s : S, s = ⟨[.v (.lst (A.map pd)), .v (.lst (M.map fun p => .int (code p))), .own ((pushes (done ++ [p])).map pd), .v (.int (code p)), .v (pd p), a5, a6], g⟩ → ∃ a3 a4 a5 a6, s = (⟨[.v (.lst (A.map pd)), .v (.lst (M.map fun p => .int (code p))), .own ((pushes (done ++ [p])).map pd), a3, a4, a5, a6], g⟩ : S) := fun s h => ⟨_, _, _, _, h⟩
    cases hA : (pushes done).getLast? with
    | none =>
      rw [List.getLast?_eq_none_iff] at hA
      rw [hA, decide_eq_true rfl]
      get_elem_tactic_trivial
      refine fin _ ?_
      rw [pushes_app, hA]
      rfl
    | some z =>
      have hne : pushes done ≠ [] := fun e => by rw [e] at hA; cases hA
      rw [decide_eq_false hne]
      get_elem_tactic_trivial
      refine w_of (ix_last hA) ?_
      get_elem_tactic_trivial
      refine w_of (eq_pd1 (q := p)) ?_
      refine b_d (fun h => ?_) (fun h => ?_)
      · subst h
        get_elem_tactic_trivial
        refine fin _ ?_
        rw [pushes_app]
        unfold push
        rw [if_pos hA, List.append_nil]
        rfl
      · get_elem_tactic_trivial
        refine fin _ ?_
        rw [pushes_app]
        unfold push
        rw [if_neg (by rw [hA]; intro e; cases e; exact h rfl), List.map_append]
        rfl
  · rintro s ⟨a3, a4, a5, a6, rfl⟩
    get_elem_tactic_trivial
    exact q _ (pushes_asc hnM hs) fun p => (mem_pushes M).trans hp.mem_iff
end
end K28
namespace K28
open PySem Pi
local macro_rules | `(tactic| array_get_dec) => `(tactic| with_reducible first
  | refine w_v (by with_unfolding_all rfl) ?_ | refine w_c ?_ | refine w_cons ?_ | refine w_nil ?_ | refine w_op2 ?_ | refine s_add ?_ | refine s_sub ?_ | refine w_ix ?_ | refine w_fld ?_
  | refine s_lt ?_ | refine s_le ?_ | refine s_gt ?_ | refine s_ge ?_ | refine s_eq ?_ | refine s_ne ?_
  | refine w_gl ?_ | refine w_asg ?_ | refine w_ite ?_ | refine w_retS ?_ | refine w_ret ?_ | refine w_seqN ?_ | refine w_nilS ?_ | refine w_seqS ?_
  | refine b_t ?_ | refine b_f ?_ | refine b_n ?_ | refine b_nb1 ?_ | refine b_nb0 ?_ | refine i_int ?_
  | refine w_or ?_ | refine w_and ?_ | refine w_not ?_ | refine w_iteE ?_ | refine w_neg ?_ | refine w_ch ?_ | refine w_isiB ?_
  | refine w_tup ?_ | refine w_lst ?_ | refine l_and rfl ?_ | refine w_bi ?_ | refine w_sl ?_ | refine w_onil ?_ | refine w_ocons ?_ | refine w_it ?_ | refine w_rng1 ?_ | refine w_rng2 ?_ | refine w_mkr ?_
  | refine w_callE (by with_reducible assumption) ?_ | refine w_mkE (by with_reducible assumption) ?_ | refine w_methE (by with_reducible assumption) (by with_reducible assumption) ?_
  | refine w_opmE (by with_reducible assumption) (by with_reducible assumption) ?_ | refine w_troE (by with_reducible assumption) (by with_reducible assumption) ?_ | refine w_eqoE (by with_reducible assumption) (by with_reducible assumption) ?_ | refine w_inoE (by with_reducible assumption) (by with_reducible assumption) ?_ | refine w_prpE (by with_reducible assumption) (by with_reducible assumption) ?_
  | refine And.intro (show clsS _ _ = some _ by with_unfolding_all rfl) ?_ | refine And.intro (show okR _ _ _ _ = true by with_unfolding_all rfl) ?_
  | refine s_mulL (by with_unfolding_all rfl) ?_ | refine s_mulR (by with_unfolding_all rfl) ?_ | refine s_mod (by first | assumption | decide) ?_ | refine s_fdiv (by first | assumption | decide) (by first | assumption | decide) ?_
  | refine s_isn0 ?_ | refine s_isn1 ?_ | refine s_isn2 ?_ | refine s_isn3 ?_ | refine s_isn4 ?_ | refine s_isn5 ?_ | refine s_ntn0 ?_ | refine s_ntn1 ?_ | refine s_ntn2 ?_ | refine s_ntn3 ?_ | refine s_ntn4 ?_ | refine s_ntn5 ?_
  | refine w_mko ?_ | refine w_app (by with_unfolding_all rfl) ?_ | refine w_extv ?_ (by with_unfolding_all rfl) | refine w_frz (by with_unfolding_all rfl) ?_ | refine w_asgT ?_ | refine w_par ?_ | refine w_ex ?_ | refine w_setF ?_
  | refine some_ex (x := setAll _ _ _) (by with_unfolding_all rfl) ?_ | refine some_ex (x := tgS _ _ _) (by with_unfolding_all rfl) ?_ | refine w_par2 ?_ | refine w_evP ?_ | refine w_kv ?_ | refine w_ko (Nat.le_of_ble_eq_true rfl) ?_
  | refine wl_app ?_ | refine wl_asg ?_ | refine wl_ite ?_ | refine wl_ex ?_ | refine wl_extv ?_ | refine wl_ext ?_ | refine wl_setF ?_ | refine wl_raise ?_ | refine wl_setr ?_ | refine wl_appr ?_ | refine wl_par ?_ | refine wl_seto ?_
  | refine own_ex (by with_unfolding_all rfl) (by with_unfolding_all ((try simp only [List.length_append, List.length_cons, List.length_nil, List.length_map]); omega)) ?_
  | refine w_opo (by with_unfolding_all rfl) ?_ | refine w_ixo ?_ (by with_unfolding_all rfl) | refine own_ex2 (by with_unfolding_all rfl) ?_
  | refine extv_ex (by with_unfolding_all rfl) (by with_unfolding_all rfl) (by with_unfolding_all ((try simp only [List.length_append, List.length_cons, List.length_nil, List.length_map]); omega)) ?_
  | refine t_isiT (by with_unfolding_all rfl) (by with_unfolding_all rfl) ?_ | refine t_isiF (by with_unfolding_all rfl) (by with_unfolding_all rfl) ?_
  | refine w_of (o := fldS _ _ _) (by with_unfolding_all rfl) ?_ | refine w_of (o := ixS _ _) (by with_unfolding_all rfl) ?_ | refine w_of (o := biS _ _ _) (by with_unfolding_all rfl) ?_ | refine w_of (o := slS _ _ _) (by with_unfolding_all rfl) ?_ | refine w_of (o := revS _) (by with_unfolding_all rfl) ?_ | refine w_of (o := seqD _) (by with_unfolding_all rfl) ?_ | refine w_of (o := chars _) (by with_unfolding_all rfl) ?_ | refine w_of (o := zipD _ _) (by with_unfolding_all rfl) ?_ | refine w_of (o := enmD _) (by with_unfolding_all rfl) ?_ | refine w_of (o := enmTD _) (by with_unfolding_all rfl) ?_ | refine w_of (o := op2S _ .pow _ _) (by with_unfolding_all rfl) ?_ | refine w_of (o := op2S _ .cat _ _) (by with_unfolding_all rfl) ?_ | refine w_of (o := op2S _ .catL _ _) (by with_unfolding_all rfl) ?_ | ((fail_if_success refine b_g ?_ ?_); refine bl_ex ?_))
local macro_rules | `(tactic| get_elem_tactic_trivial) => `(tactic| ((repeat array_get_dec); (try dsimp only [List.set_cons_succ, List.set_cons_zero])))
/-! changed -/
section
variable {g : List MO} {E : EC} {Q : D → List MO → Prop}
theorem flat_len {α β : Type} {f : α → List β} {m : Nat} : ∀ {L : List α}, (∀ a ∈ L, (f a).length ≤ m) → (L.flatMap f).length ≤ L.length * m
  | [], _ => Nat.zero_le _
  | a :: L, h => by
    have h1 := h a List.mem_cons_self
    have h2 := flat_len (L := L) (f := f) (m := m) fun b hb => h b (List.mem_cons_of_mem _ hb)
    rw [List.flatMap_cons, List.length_append, List.length_cons, Nat.succ_mul]
    omega
def stF (y lo : Int) (n : Nat) (p : IP) : List IP := (iv lo n).map fun z => (p.1 + y, p.2 + y + z)
def sgF (lo hi bl : Int) (m : Nat) (p : IP) : List IP := if lo ≤ p.2 ∧ p.2 ≤ hi then (iv (0 - bl) m).map fun z => (p.2 - z, p.2) else []
theorem sgF_len {lo hi bl : Int} {m : Nat} {p : IP} : (sgF lo hi bl m p).length ≤ m := by
  unfold sgF
  split
  · rw [List.length_map, iv_len]; exact Nat.le_refl _
  · exact Nat.zero_le _
theorem near_of {N : Int} {s : Option Spn} (h : So N s) (hN : N ≤ 60) : ∀ p ∈ lisP s, -N ≤ p.1 ∧ p.1 ≤ N ∧ -N ≤ p.2 ∧ p.2 ≤ N := by
  intro p hp
  cases s with
  | none => cases hp
  | some x =>
    have hm : x.b0 ≤ p.1 ∧ p.1 ≤ x.b1 ∧ x.t0 ≤ p.2 ∧ p.2 ≤ x.t1 ∧ x.e0 ≤ p.2 - p.1 ∧ p.2 - p.1 ≤ x.e1 := mem_lisP.mp hp
    obtain ⟨⟨q1, q2⟩, ⟨q3, q4⟩, ⟨q5, q6⟩, ⟨q7, q8⟩, ⟨q9, q10⟩, ⟨q11, q12⟩⟩ := h x rfl
    omega
theorem changed_ok {n : Nat} {N : Int} {s : Option Spn} (hb : Bx n g) (h0 : 0 ≤ N) (hN : N ≤ 40) (hs : Tt s) (so : So N s) (q : ∀ u g', Tt u → So (N + 6) u → Bx n g' → g'.length = g.length → Q (.tup [insS u, .lst ((lisP u).map pd)]) g') :
    wpC (m_F__law_changed [.ref n, insS s, .lst ((lisP s).map pd)] g) E Q := by
  obtain ⟨c1, c2, c3, c4, c5, c6⟩ := cs_F__law_changed
  have hll := lisP_len (by omega) so
  have hnr := near_of so (by omega)
  refine wpC_def ?_
  get_elem_tactic_trivial
  refine take_ok hb (by decide) (by decide) fun x g1 x0 x1 hb1 l1 => ?_
  get_elem_tactic_trivial
  refine b_d (fun h => ?_) (fun h => ?_)
  · get_elem_tactic_trivial
    refine take_ok hb1 (by decide) (by decide) fun y g2 y0 y1 hb2 l2 => ?_
    get_elem_tactic_trivial
    refine take_ok hb2 (by decide) (by decide) fun z g3 z0 z1 hb3 l3 => ?_
    get_elem_tactic_trivial
    refine take_ok hb3 (by decide) (by decide) fun w g4 w0 w1 hb4 l4 => ?_
    get_elem_tactic_trivial
    obtain ⟨m, hm⟩ : ∃ m, m = (z - 2 + w + 1 - (z - 2)).toNat := ⟨_, rfl⟩
    refine w_forG (lisP s) pd (fun done st => ∃ A a7 a8 a9 a10 a11, A = done.flatMap (stF (y - 1) (z - 2) m) ∧ st = ⟨[.v (.ref n), .v (insS s), .v (.lst ((lisP s).map pd)), .v (.int (y - 1)), .v (.int (z - 2)), .v (.int (z - 2 + w)), .own (A.map pd), a7, a8, a9, a10, a11], g4⟩) ?_
    get_elem_tactic_trivial
    refine ⟨rfl, ⟨[], _, _, _, _, _, rfl, rfl⟩, ?_, ?_⟩
    · rintro done p rest st he ⟨A, a7, a8, a9, a10, a11, hA, rfl⟩
      have hd : done.length < 14641 := by
        have := congrArg List.length he
        rw [List.length_append, List.length_cons] at this
        omega
      have hAl : A.length ≤ done.length * 4 := by
        rw [hA]
        refine flat_len fun a _ => ?_
        unfold stF
        rw [List.length_map, iv_len]
        omega
      refine ⟨_, rfl, ?_⟩
      get_elem_tactic_trivial
      refine w_compP (iv (z - 2) m) D.int (fun c => pd (p.1 + (y - 1), p.2 + (y - 1) + c)) (fun _ => true) ?_
      get_elem_tactic_trivial
      refine ⟨_, _, rfl, rfl, by omega, by omega, by omega, by omega, by rw [hm]; exact rng_iv _ _, ?_, fun t ht => ⟨_, rfl, ?_⟩, ?_⟩
      · rw [iv_len]
        exact le_bg (by omega)
      · get_elem_tactic_trivial
        refine ⟨rfl, rfl, fun _ => ?_⟩
        get_elem_tactic_trivial
        exact ⟨rfl, rfl⟩
      · rw [map_true, show (iv (z - 2) m).map (fun c => pd (p.1 + (y - 1), p.2 + (y - 1) + c)) = (stF (y - 1) (z - 2) m p).map pd by unfold stF; rw [List.map_map]; rfl]
        have h4 : (stF (y - 1) (z - 2) m p).length ≤ 4 := by unfold stF; rw [List.length_map, iv_len]; omega
        get_elem_tactic_trivial
        refine ⟨A ++ stF (y - 1) (z - 2) m p, _, _, _, _, _, by rw [hA]; simp, by rw [List.map_append]⟩
    · rintro st ⟨A, a7, a8, a9, a10, a11, hA, rfl⟩
      have hAl : A.length ≤ 14641 * 4 := by
        rw [hA]
        refine Nat.le_trans (flat_len (m := 4) fun a _ => ?_) (Nat.mul_le_mul_right 4 hll)
        unfold stF
        rw [List.length_map, iv_len]
        omega
      have memA : ∀ p : IP, p ∈ A ↔ ∃ b' t', Mm s b' t' ∧ p.1 = b' + (y - 1) ∧ z - 2 ≤ p.2 - (y - 1) - t' ∧ p.2 - (y - 1) - t' ≤ z - 2 + w := fun p => by
        rw [hA, List.mem_flatMap]
        constructor
        · rintro ⟨a, ha, hp⟩
          unfold stF at hp
          obtain ⟨c, hc, rfl⟩ := List.mem_map.mp hp
          rw [mem_iv] at hc
          exact ⟨a.1, a.2, mem_lisP.mp ha, rfl, by simp only; omega, by simp only; omega⟩
        · rintro ⟨b', t', hmm, h1, h2, h3⟩
          refine ⟨(b', t'), mem_lisP.mpr hmm, ?_⟩
          unfold stF
          refine List.mem_map.mpr ⟨p.2 - (y - 1) - t', mem_iv.mpr (by omega), ?_⟩
          obtain ⟨p1, p2⟩ := p
          simp only [Prod.mk.injEq] at *
          omega
      have hb5 : ∀ p ∈ A, Near p := fun p hp => by
        obtain ⟨b', t', hmm, h1, h2, h3⟩ := (memA p).mp hp
        have := hnr (b', t') (mem_lisP.mpr hmm)
        simp only at this
        unfold Near
        omega
      get_elem_tactic_trivial
      refine stepped_ok ?_
      get_elem_tactic_trivial
      refine sorted_ok hb5 (by omega) fun R hR hm2 => ?_
      have e : R = lisP (stp s (y - 1) (z - 2) (z - 2 + w)) := asc_ext ltP_ir ltP_tr hR lisP_asc fun p => by
        rw [hm2, memA, mem_lisP, stp_iff hs (by omega)]
      subst e
      get_elem_tactic_trivial
      exact q _ g4 stp_tt (so_stp hs (by omega) so (by omega)) hb4 (by omega)
  · get_elem_tactic_trivial
    refine take_ok hb1 (by decide) (by decide) fun y g2 y0 y1 hb2 l2 => ?_
    get_elem_tactic_trivial
    refine take_ok hb2 (by decide) (by decide) fun z g3 z0 z1 hb3 l3 => ?_
    get_elem_tactic_trivial
    refine take_ok hb3 (by decide) (by decide) fun w g4 w0 w1 hb4 l4 => ?_
    get_elem_tactic_trivial
    obtain ⟨m, hm⟩ : ∃ m, m = (z + 1 - (0 - z)).toNat := ⟨_, rfl⟩
    have hm5 : m ≤ 5 := by omega
    refine w_forG (lisP s) pd (fun done st => ∃ A a3 a7 a8 a10 a11, A = done.flatMap (sgF (y - 4) (y - 4 + w) z m) ∧ st = ⟨[.v (.ref n), .v (insS s), .v (.lst ((lisP s).map pd)), a3, .v (.int (y - 4)), .v (.int (y - 4 + w)), .own (A.map pd), a7, a8, .v (.int z), a10, a11], g4⟩) ?_
    get_elem_tactic_trivial
    refine ⟨rfl, ⟨[], _, _, _, _, _, rfl, rfl⟩, ?_, ?_⟩
    · rintro done p rest st he ⟨A, a3, a7, a8, a10, a11, hA, rfl⟩
      have hd : done.length < 14641 := by
        have := congrArg List.length he
        rw [List.length_append, List.length_cons] at this
        omega
      have hAl : A.length ≤ done.length * 5 := by
        rw [hA]
        exact flat_len fun a _ => Nat.le_trans sgF_len hm5
      have out : ¬ (y - 4 ≤ p.2 ∧ p.2 ≤ y - 4 + w) → done.flatMap (sgF (y - 4) (y - 4 + w) z m) = (done ++ [p]).flatMap (sgF (y - 4) (y - 4 + w) z m) := fun h => by
        rw [List.flatMap_append, List.flatMap_cons, List.flatMap_nil]
        unfold sgF
        rw [if_neg h]
        simp
      refine ⟨_, rfl, ?_⟩
      get_elem_tactic_trivial
      refine cx_le (fun h1 => ?_) (fun h1 => ?_)
      · get_elem_tactic_trivial
        refine b_d (fun h2 => ?_) (fun h2 => ?_)
        · get_elem_tactic_trivial
          refine w_compP (iv (0 - z) m) D.int (fun c => pd (p.2 - c, p.2)) (fun _ => true) ?_
          get_elem_tactic_trivial
          refine ⟨_, _, rfl, rfl, by omega, by omega, by omega, by omega, by rw [hm]; exact rng_iv _ _, ?_, fun t ht => ⟨_, rfl, ?_⟩, ?_⟩
          · rw [iv_len]
            exact le_bg (by omega)
          · get_elem_tactic_trivial
            refine ⟨rfl, rfl, fun _ => ?_⟩
            get_elem_tactic_trivial
            exact ⟨rfl, rfl⟩
          · rw [map_true, show (iv (0 - z) m).map (fun c => pd (p.2 - c, p.2)) = (sgF (y - 4) (y - 4 + w) z m p).map pd by unfold sgF; rw [if_pos ⟨h1, h2⟩, List.map_map]; rfl]
            have h4 : (sgF (y - 4) (y - 4 + w) z m p).length ≤ 5 := Nat.le_trans sgF_len hm5
            get_elem_tactic_trivial
            refine ⟨A ++ sgF (y - 4) (y - 4 + w) z m p, _, _, _, _, _, by rw [hA]; simp, by rw [List.map_append]⟩
        · get_elem_tactic_trivial
          refine ⟨A, _, _, _, _, _, by rw [hA, out fun z => h2 z.2], by rw [List.append_nil]⟩
      · get_elem_tactic_trivial
        refine ⟨A, _, _, _, _, _, by rw [hA, out fun z => h1 z.1], by rw [List.append_nil]⟩
    · rintro st ⟨A, a3, a7, a8, a10, a11, hA, rfl⟩
      have hAl : A.length ≤ 14641 * 5 := by
        rw [hA]
        exact Nat.le_trans (flat_len (m := 5) fun a _ => Nat.le_trans sgF_len hm5) (Nat.mul_le_mul_right 5 hll)
      have memA : ∀ p : IP, p ∈ A ↔ ∃ b' t', Mm s b' t' ∧ y - 4 ≤ t' ∧ t' ≤ y - 4 + w ∧ p.2 = t' ∧ -z ≤ p.2 - p.1 ∧ p.2 - p.1 ≤ z := fun p => by
        rw [hA, List.mem_flatMap]
        constructor
        · rintro ⟨a, ha, hp⟩
          unfold sgF at hp
          split at hp
          · rename_i hc
            obtain ⟨c, hc2, rfl⟩ := List.mem_map.mp hp
            rw [mem_iv] at hc2
            exact ⟨a.1, a.2, mem_lisP.mp ha, hc.1, hc.2, rfl, by simp only; omega, by simp only; omega⟩
          · cases hp
        · rintro ⟨b', t', hmm, h1, h2, h3, h4, h5⟩
          refine ⟨(b', t'), mem_lisP.mpr hmm, ?_⟩
          unfold sgF
          rw [if_pos ⟨h1, h2⟩]
          refine List.mem_map.mpr ⟨p.2 - p.1, mem_iv.mpr (by omega), ?_⟩
          obtain ⟨p1, p2⟩ := p
          simp only [Prod.mk.injEq] at *
          omega
      have hb5 : ∀ p ∈ A, Near p := fun p hp => by
        obtain ⟨b', t', hmm, h1, h2, h3, h4, h5⟩ := (memA p).mp hp
        have := hnr (b', t') (mem_lisP.mpr hmm)
        simp only at this
        unfold Near
        omega
      get_elem_tactic_trivial
      refine sighted_ok ?_
      get_elem_tactic_trivial
      refine sorted_ok hb5 (by omega) fun R hR hm2 => ?_
      have e : R = lisP (sgt s (y - 4) (y - 4 + w) z) := asc_ext ltP_ir ltP_tr hR lisP_asc fun p => by
        rw [hm2, memA, mem_lisP, sgt_iff hs (by omega) z0]
      subst e
      get_elem_tactic_trivial
      exact q _ g4 sgt_tt (so_sgt so (by omega)) hb4 (by omega)
end
end K28
namespace K28
open PySem Pi
local macro_rules | `(tactic| array_get_dec) => `(tactic| with_reducible first
  | refine w_v (by with_unfolding_all rfl) ?_ | refine w_c ?_ | refine w_cons ?_ | refine w_nil ?_ | refine w_op2 ?_ | refine s_add ?_ | refine s_sub ?_ | refine w_ix ?_ | refine w_fld ?_
  | refine s_lt ?_ | refine s_le ?_ | refine s_gt ?_ | refine s_ge ?_ | refine s_eq ?_ | refine s_ne ?_
  | refine w_gl ?_ | refine w_asg ?_ | refine w_ite ?_ | refine w_retS ?_ | refine w_ret ?_ | refine w_seqN ?_ | refine w_nilS ?_ | refine w_seqS ?_
  | refine b_t ?_ | refine b_f ?_ | refine b_n ?_ | refine b_nb1 ?_ | refine b_nb0 ?_ | refine i_int ?_
  | refine w_or ?_ | refine w_and ?_ | refine w_not ?_ | refine w_iteE ?_ | refine w_neg ?_ | refine w_ch ?_ | refine w_isiB ?_
  | refine w_tup ?_ | refine w_lst ?_ | refine l_and rfl ?_ | refine w_bi ?_ | refine w_sl ?_ | refine w_onil ?_ | refine w_ocons ?_ | refine w_it ?_ | refine w_rng1 ?_ | refine w_rng2 ?_ | refine w_mkr ?_
  | refine w_callE (by with_reducible assumption) ?_ | refine w_mkE (by with_reducible assumption) ?_ | refine w_methE (by with_reducible assumption) (by with_reducible assumption) ?_
  | refine w_opmE (by with_reducible assumption) (by with_reducible assumption) ?_ | refine w_troE (by with_reducible assumption) (by with_reducible assumption) ?_ | refine w_eqoE (by with_reducible assumption) (by with_reducible assumption) ?_ | refine w_inoE (by with_reducible assumption) (by with_reducible assumption) ?_ | refine w_prpE (by with_reducible assumption) (by with_reducible assumption) ?_
  | refine And.intro (show clsS _ _ = some _ by with_unfolding_all rfl) ?_ | refine And.intro (show okR _ _ _ _ = true by with_unfolding_all rfl) ?_
  | refine s_mulL (by with_unfolding_all rfl) ?_ | refine s_mulR (by with_unfolding_all rfl) ?_ | refine s_mod (by first | assumption | decide) ?_ | refine s_fdiv (by first | assumption | decide) (by first | assumption | decide) ?_
  | refine s_isn0 ?_ | refine s_isn1 ?_ | refine s_isn2 ?_ | refine s_isn3 ?_ | refine s_isn4 ?_ | refine s_isn5 ?_ | refine s_ntn0 ?_ | refine s_ntn1 ?_ | refine s_ntn2 ?_ | refine s_ntn3 ?_ | refine s_ntn4 ?_ | refine s_ntn5 ?_
  | refine w_mko ?_ | refine w_app (by with_unfolding_all rfl) ?_ | refine w_extv ?_ (by with_unfolding_all rfl) | refine w_frz (by with_unfolding_all rfl) ?_ | refine w_asgT ?_ | refine w_par ?_ | refine w_ex ?_ | refine w_setF ?_
  | refine some_ex (x := setAll _ _ _) (by with_unfolding_all rfl) ?_ | refine some_ex (x := tgS _ _ _) (by with_unfolding_all rfl) ?_ | refine w_par2 ?_ | refine w_evP ?_ | refine w_kv ?_ | refine w_ko (Nat.le_of_ble_eq_true rfl) ?_
  | refine wl_app ?_ | refine wl_asg ?_ | refine wl_ite ?_ | refine wl_ex ?_ | refine wl_extv ?_ | refine wl_ext ?_ | refine wl_setF ?_ | refine wl_raise ?_ | refine wl_setr ?_ | refine wl_appr ?_ | refine wl_par ?_ | refine wl_seto ?_
  | refine own_ex (by with_unfolding_all rfl) (by with_unfolding_all ((try simp only [List.length_append, List.length_cons, List.length_nil, List.length_map]); omega)) ?_
  | refine w_opo (by with_unfolding_all rfl) ?_ | refine w_ixo ?_ (by with_unfolding_all rfl) | refine own_ex2 (by with_unfolding_all rfl) ?_
  | refine extv_ex (by with_unfolding_all rfl) (by with_unfolding_all rfl) (by with_unfolding_all ((try simp only [List.length_append, List.length_cons, List.length_nil, List.length_map]); omega)) ?_
  | refine t_isiT (by with_unfolding_all rfl) (by with_unfolding_all rfl) ?_ | refine t_isiF (by with_unfolding_all rfl) (by with_unfolding_all rfl) ?_
  | refine w_of (o := fldS _ _ _) (by with_unfolding_all rfl) ?_ | refine w_of (o := ixS _ _) (by with_unfolding_all rfl) ?_ | refine w_of (o := biS _ _ _) (by with_unfolding_all rfl) ?_ | refine w_of (o := slS _ _ _) (by with_unfolding_all rfl) ?_ | refine w_of (o := revS _) (by with_unfolding_all rfl) ?_ | refine w_of (o := seqD _) (by with_unfolding_all rfl) ?_ | refine w_of (o := chars _) (by with_unfolding_all rfl) ?_ | refine w_of (o := zipD _ _) (by with_unfolding_all rfl) ?_ | refine w_of (o := enmD _) (by with_unfolding_all rfl) ?_ | refine w_of (o := enmTD _) (by with_unfolding_all rfl) ?_ | refine w_of (o := op2S _ .pow _ _) (by with_unfolding_all rfl) ?_ | refine w_of (o := op2S _ .cat _ _) (by with_unfolding_all rfl) ?_ | refine w_of (o := op2S _ .catL _ _) (by with_unfolding_all rfl) ?_ | ((fail_if_success refine b_g ?_ ?_); refine bl_ex ?_))
local macro_rules | `(tactic| get_elem_tactic_trivial) => `(tactic| ((repeat array_get_dec); (try dsimp only [List.set_cons_succ, List.set_cons_zero])))
/-! the law -/
abbrev tFeedT : TS := (.seq (.asg (.one 3) (.op2 .add (.op2 .mod (.bi .int (.cons (.op2 .add (.op2 .add (.op2 .mulR (.op2 .mod (.bi .int (.cons (.v 2) .nil)) (.c (.int 2147483629))) (.c (.int 48271))) (.op2 .mulL (.c (.int 40829)) (.v 1))) (.c (.int 11))) .nil)) (.c (.int 2147483629))) (.c (.int 1)))) (.ret (.mkr (.cons (.ite (.op2 .ge (.v 2) (.op2 .pow (.c (.int 10)) (.c (.int 18)))) (.v 2) (.c (.int 0))) (.cons (.v 3) (.cons (.c (.int 0)) .nil))))))

section
variable {g : List MO} {E : EC} {Q : D → List MO → Prop}
theorem ix_int {ns : List Int} {j : Int} (h0 : 0 ≤ j) (h1 : j < (ns.length : Nat)) : ∃ i : Int, ixS (.lst (ns.map .int)) (.int j) = some (.int i) := by
  obtain ⟨x, e, hx⟩ := atI_nat (ds := ns.map D.int) h0 (by rw [List.length_map]; exact h1)
  obtain ⟨i, _, rfl⟩ := List.mem_map.mp hx
  exact ⟨i, e⟩
theorem feed_tail {ns : List Int} {k a : Int} {a3 : SV} {E : EX} {K : F → S → Prop} (hk : -1000 < k ∧ k < 1000) (q : ∀ b c z : Int, K (.rt (.ref g.length)) ⟨[.v (.lst (ns.map .int)), .v (.int k), .v (.int a), .v (.int b)], g ++ [.lst [.int c, .int b, .int z]]⟩) :
    wp (evS o_F__law_feed tFeedT ⟨[.v (.lst (ns.map .int)), .v (.int k), .v (.int a), a3], g⟩) E K := by
  refine w_asg (rd_add (rd_mod (by decide) (rd_bi (rd_cons (rd_add (rd_add (rd_mulR rfl (rd_mod (by decide) (rd_bi (rd_cons (rd_v rfl) rd_nil) rfl) rd_c) rd_c) (rd_mulL rfl rd_c (rd_v rfl))) rd_c) rd_nil) rfl) rd_c) rd_c _ _ ?_)
  refine w_ret (w_mkr (w_cons (w_iteE (w_op2 (w_v rfl (w_op2 (w_c (w_c (w_of rfl (w_of (z := .bl (decide ((10 : Int) ^ 18 ≤ a))) rfl ⟨_, rfl, fun _ => ?_, fun _ => ?_⟩))))))))))
  · exact w_v rfl (w_cons (w_v rfl (w_cons (w_c (w_nil ⟨Nat.le_of_ble_eq_true rfl, q _ a 0⟩)))))
  · exact w_c (w_cons (w_v rfl (w_cons (w_c (w_nil ⟨Nat.le_of_ble_eq_true rfl, q _ 0 0⟩)))))
theorem feed_ok {ns : List Int} {k : Int} (h0 : 0 ≤ k) (h1 : k < 1000) (q : ∀ g', Bx g.length g' → Q (.ref g.length) g') : wpC (m_F__law_feed [.lst (ns.map .int), .int k] g) E Q := by
  have ln : biS g .len [.lst (ns.map .int)] = some (.int (ns.length : Nat)) := by
    show some (D.int ((ns.map D.int).length : Nat)) = _
    rw [List.length_map]
  have fin : ∀ b c z : Int, Q (.ref g.length) (g ++ [.lst [.int c, .int b, .int z]]) := fun b c z => q _ ⟨c, b, z, by simp⟩
  refine wpC_def (w_asg (rd_add (rd_mulL rfl rd_c (rd_v rfl)) rd_c _ _ ?_))
  refine w_ite (w_op2 (w_v rfl (rd_bi (rd_cons (rd_v rfl) rd_nil) ln _ _ (w_of (z := .bl (decide (k < (ns.length : Nat)))) rfl ⟨_, rfl, fun h => ?_, fun h => ?_⟩))))
  · have h := of_decide_eq_true h
    obtain ⟨i, hi⟩ := ix_int h0 h
    refine w_asg (rd_bi (rd_cons (rd_bi (rd_cons (rd_ix (d := .lst (ns.map .int)) (rd_v rfl) (rd_v rfl) hi) rd_nil) rfl) rd_nil) rfl _ _ ?_)
    exact feed_tail ⟨by omega, h1⟩ fun b c z => fin b c z
  · refine w_ite (w_op2 (rd_bi (rd_cons (rd_v rfl) rd_nil) ln _ _ (w_c (w_of (z := .bl (decide ((0 : Int) < (ns.length : Nat)))) rfl ⟨_, rfl, fun h => ?_, fun h => ?_⟩))))
    · have h := of_decide_eq_true h
      obtain ⟨i, hi⟩ := ix_int (ns := ns) (Int.emod_nonneg k (by omega)) (Int.emod_lt_of_pos k h)
      refine w_asg (rd_add (rd_v rfl) (rd_mulR rfl (rd_mod (by decide) (rd_bi (rd_cons (rd_ix (d := .lst (ns.map .int)) (rd_v rfl) (rd_mod h (rd_bi (rd_cons (rd_v rfl) rd_nil) rfl) (rd_bi (rd_cons (rd_v rfl) rd_nil) ln)) hi) rd_nil) rfl) rd_c) rd_c) _ _ ?_)
      exact feed_tail ⟨by omega, h1⟩ fun b c z => fin b c z
    · exact w_seqN (feed_tail ⟨by omega, h1⟩ fun b c z => fin b c z)
end


abbrev tMore : TS := (.seq (.asg (.tup [8, 9]) (.call 81 (.cons (.v 2) (.cons (.v 5) (.cons (.v 6) .nil))) [])) (.seq (.ite (.or (.op2 .ne (.call 77 (.cons (.v 5) .nil) []) (.v 6)) (.or (.op2 .ne (.call 77 (.cons (.v 8) .nil) []) (.v 9)) (.op2 .ne (.prp 2 (.v 8)) (.bi .len (.cons (.v 9) .nil))))) (.ret (.c (.bl false))) .nil) (.seq (.ite (.or (.not (.isi (.v 8) [.cls 5])) (.op2 .ne (.tro 0 (.v 8)) (.op2 .ne (.v 9) (.lst .nil)))) (.ret (.c (.bl false))) .nil) (.par [5, 6] (.cons (.v 8) (.cons (.v 9) .nil))))))
section
variable {g : List MO} {E : EX} {Q : D → S → Prop} {K : F → S → Prop} {o : O} {st : S} {t : T} {s u : Option Spn}
theorem ne_pd' {A B : List IP} (h : A = B) : op2S g .ne (.lst (A.map pd)) (.lst (B.map pd)) = some (.bl false) := by rw [ne_pd, decide_eq_true h]; rfl
def InM (x0 a1 a3 a4 : SV) (n : Nat) (N : Int) (s : S) : Prop := ∃ p a7 a8 a9 a10 a11 a12 g, Tt p ∧ So N p ∧ s = ⟨[x0, a1, .v (.ref n), a3, a4, .v (insS p), .v (.lst ((lisP p).map pd)), a7, a8, a9, a10, a11, a12], g⟩ ∧ Bx n g
theorem bd_so {N : Int} {s : Option Spn} (h : So N s) (hN : N ≤ 60) : ∀ x, s = some x → Bd x := fun x e => by
  obtain ⟨⟨q1, q2⟩, ⟨q3, q4⟩, ⟨q5, q6⟩, ⟨q7, q8⟩, ⟨q9, q10⟩, ⟨q11, q12⟩⟩ := h x e
  exact ⟨⟨by omega, by omega⟩, ⟨by omega, by omega⟩, ⟨by omega, by omega⟩, ⟨by omega, by omega⟩, ⟨by omega, by omega⟩, ⟨by omega, by omega⟩⟩
theorem more_ok {n : Nat} {N : Int} {p : Option Spn} {x0 a1 a3 a4 a7 a8 a9 a10 a11 a12 : SV} (hb : Bx n g) (h0 : 0 ≤ N) (hN : N ≤ 40) (hp : Tt p) (sp : So N p) (k : ∀ s, InM x0 a1 a3 a4 n (N + 6) s → K .nx s) :
    wp (evS o_F_law tMore ⟨[x0, a1, .v (.ref n), a3, a4, .v (insS p), .v (.lst ((lisP p).map pd)), a7, a8, a9, a10, a11, a12], g⟩) E K := by
  obtain ⟨c1, c2, c3, c4, c5, c6, c7, c8, c9, c10, c11, c12, c13, c14, c15, c16, c17, c18, c19, c20⟩ := cs_F_law
  get_elem_tactic_trivial
  refine changed_ok hb h0 hN hp sp fun u g1 hu su hb1 l1 => ?_
  get_elem_tactic_trivial
  refine lisL_ok (by omega) sp hp ?_
  get_elem_tactic_trivial
  refine w_of (ne_pd' rfl) ?_
  get_elem_tactic_trivial
  refine lisL_ok (by omega) su hu ?_
  get_elem_tactic_trivial
  refine w_of (ne_pd' rfl) ?_
  get_elem_tactic_trivial
  refine total_ok (bd_so su (by omega)) ?_
  get_elem_tactic_trivial
  refine b_d (fun _ => ?_) (fun h => absurd (by rw [tot_len hu, List.length_map]) h)
  get_elem_tactic_trivial
  refine bool_ok ⟨_, rfl, ?_⟩
  get_elem_tactic_trivial
  refine w_of (ne_pd (B := [])) ?_
  refine s_neb ?_
  rw [show (u.isSome != !decide (lisP u = [])) = false from by
    cases u with
    | none => rfl
    | some x =>
      obtain ⟨b, t, hm⟩ := some_mem hu
      have : lisP (some x) ≠ [] := fun e => by
        have := mem_lisP (p := (b, t)).mpr hm
        rw [e] at this
        cases this
      rw [decide_eq_false this]
      rfl]
  get_elem_tactic_trivial
  exact k _ ⟨u, _, _, _, _, _, _, _, hu, su, rfl, hb1⟩
end
section
def InI (x0 a1 : SV) (n : Nat) (s : S) : Prop := ∃ a3 a4 a5 a6 a7 a8 a9 a10 a11 a12 g, s = ⟨[x0, a1, .v (.ref n), a3, a4, a5, a6, a7, a8, a9, a10, a11, a12], g⟩ ∧ Bx n g
def InO (x0 : SV) (s : S) : Prop := ∃ a1 a2 a3 a4 a5 a6 a7 a8 a9 a10 a11 a12 g, s = ⟨[x0, a1, a2, a3, a4, a5, a6, a7, a8, a9, a10, a11, a12], g⟩
theorem law_ok (ns : List Int) : ∃ g', m_F_law [.lst (ns.map .int)] [] = .ok (.bl true) g' := by
  have main : wpC (m_F_law [.lst (ns.map .int)] []) (fun _ _ _ => False) fun d g' => d = .bl true := by
    obtain ⟨c1, c2, c3, c4, c5, c6, c7, c8, c9, c10, c11, c12, c13, c14, c15, c16, c17, c18, c19, c20⟩ := cs_F_law
    have ln : biS [] .len [.lst (ns.map .int)] = some (.int (ns.length : Nat)) := by
      show some (D.int ((ns.map D.int).length : Nat)) = _
      rw [List.length_map]
    obtain ⟨m, hm, m0, m1⟩ : ∃ m : Int, (if (if ((ns.length : Nat) : Int) < 4 then ((ns.length : Nat) : Int) else 4) > 1 then (if ((ns.length : Nat) : Int) < 4 then ((ns.length : Nat) : Int) else 4) else 1) = m ∧ 1 ≤ m ∧ m ≤ 4 := ⟨_, rfl, by split <;> split at * <;> omega, by split <;> split at * <;> omega⟩
    have e1 : biS [] .min2 [.int 4, .int (ns.length : Nat)] = some (.int (if ((ns.length : Nat) : Int) < 4 then ((ns.length : Nat) : Int) else 4)) := rfl
    have e2 : biS [] .max2 [.int 1, .int (if ((ns.length : Nat) : Int) < 4 then ((ns.length : Nat) : Int) else 4)] = some (.int m) := by rw [← hm]; rfl
    refine wpC_def (w_forI (InO (.v (.lst (ns.map .int)))) (w_rng1 (rd_bi (rd_cons rd_c (rd_cons (rd_bi (rd_cons rd_c (rd_cons (rd_bi (rd_cons (rd_v rfl) rd_nil) ln) rd_nil)) e1) rd_nil)) e2 _ _ ⟨m, rfl, by omega, by omega, ⟨_, _, _, _, _, _, _, _, _, _, _, _, _, rfl⟩, ?_, ?_⟩)))
    · rintro d hd s ⟨a1, a2, a3, a4, a5, a6, a7, a8, a9, a10, a11, a12, g, rfl⟩
      obtain ⟨k, hk, rfl⟩ := List.mem_map.mp hd
      have hk := List.mem_range.mp hk
      refine ⟨_, rfl, ?_⟩
      get_elem_tactic_trivial
      refine feed_ok (by omega) (by omega) fun g1 hb => ?_
      refine w_last (w_forI (InI (.v (.lst (ns.map .int))) (.v (.int (k : Nat))) g.length) (w_rng1 (w_c ⟨6, rfl, by decide, by decide, ⟨_, _, _, _, _, _, _, _, _, _, _, rfl, hb⟩, ?_, ?_⟩)))
      · rintro d hd s ⟨a3, a4, a5, a6, a7, a8, a9, a10, a11, a12, g2, rfl, hb2⟩
        refine ⟨_, rfl, ?_⟩
        get_elem_tactic_trivial
        refine bounds_ok hb2 fun x g3 hx hb3 l3 => ?_
        get_elem_tactic_trivial
        refine init_ok (s := x) ?_
        get_elem_tactic_trivial
        refine allL_ok (by decide) hx ?_
        rw [← lis_tight]
        get_elem_tactic_trivial
        refine w_last (w_forG (List.range 3) (fun k => .int (k : Nat)) (fun done s => InM (.v (.lst (ns.map .int))) (.v (.int (k : Nat))) (.v d) (.v (bnd x)) g.length (10 + 6 * (done.length : Nat)) s) (w_rng1 (w_c ⟨3, rfl, by decide, by decide, rfl, ⟨tight x, _, _, _, _, _, _, _, tight_tt x, by have := so_tight hx; simpa using this, rfl, hb3⟩, ?_, ?_⟩)))
        · rintro done i rest s he ⟨p, a7, a8, a9, a10, a11, a12, g4, hp, sp, rfl, hb4⟩
          have hd : done.length < 3 := by
            have := congrArg List.length he
            simp at this
            omega
          refine ⟨_, rfl, more_ok hb4 (by omega) (by omega) hp sp fun s h => ?_⟩
          rw [List.length_append]
          show InM _ _ _ _ _ (10 + 6 * (((done.length + 1 : Nat)) : Int)) s
          rw [show (10 + 6 * (((done.length + 1 : Nat)) : Int)) = 10 + 6 * ((done.length : Nat) : Int) + 6 by omega]
          exact h
        · rintro s ⟨p, a7, a8, a9, a10, a11, a12, g4, hp, sp, rfl, hb4⟩
          exact w_nilS ⟨_, _, _, _, _, _, _, _, _, _, _, rfl, hb4⟩
      · rintro s ⟨a3, a4, a5, a6, a7, a8, a9, a10, a11, a12, g2, rfl, hb2⟩
        exact w_nilS ⟨_, _, _, _, _, _, _, _, _, _, _, _, _, rfl⟩
    · rintro s ⟨a1, a2, a3, a4, a5, a6, a7, a8, a9, a10, a11, a12, g, rfl⟩
      have e0 : tight ⟨1, 0, 0, 0, 0, 0⟩ = none := rfl
      get_elem_tactic_trivial
      refine init_ok (s := ⟨1, 0, 0, 0, 0, 0⟩) ?_
      rw [e0]
      show wp (evS o_F_law _ ⟨[_, a1, a2, a3, a4, a5, a6, a7, a8, a9, .v (insS none), a11, a12], g⟩) _ _
      get_elem_tactic_trivial
      refine stepped_ok ?_
      get_elem_tactic_trivial
      refine sighted_ok ?_
      get_elem_tactic_trivial
      refine init_ok (s := ⟨0, 0, 0, 0, 0, 0⟩) ?_
      get_elem_tactic_trivial
      refine and_ok (s := none) (u := tight ⟨0, 0, 0, 0, 0, 0⟩) ?_
      get_elem_tactic_trivial
      show wp (ev o_F_law _ ⟨[_, a1, a2, a3, a4, a5, a6, a7, a8, a9, .v (insS none), .v (.lst ([none, none, none].map insS)), a12], g⟩) _ _
      refine w_compP [none, none, none] insS insS (fun _ => false) ?_
      get_elem_tactic_trivial
      refine ⟨rfl, by decide, fun s hs => ⟨_, rfl, ?_⟩, ?_⟩
      · obtain rfl : s = none := by simpa using hs
        get_elem_tactic_trivial
        refine eq_ok (s := none) (u := none) ⟨_, rfl, ?_⟩
        get_elem_tactic_trivial
        rw [show eqS none none = true from rfl]
        get_elem_tactic_trivial
        exact ⟨rfl, rfl, fun z => (nomatch z)⟩
      get_elem_tactic_trivial
      refine w_of (z := D.bl true) rfl ?_
      get_elem_tactic_trivial
      refine less_none (s := none) (u := none) rfl ?_
      get_elem_tactic_trivial
      exact w_of (z := D.bl true) rfl rfl
  exact fin_ok main
end
end K28

namespace K28
open PySem L2 Pi
/-- law's promise: a list of at most 63 ints is handed in, True comes out -/
def spLaw (K : PySem.W.Frag) : Sp := fun vs H Q _ => ∃ (a : Addr) (ns : List Int), vs = [.ref a] ∧ SqL K H a (ns.map V.int) ∧ ns.length ≤ 63 ∧ ∀ H', Q (.bl true) H'
theorem reps_ints {E : En} {S : Hp} {ρ : List Addr} : ∀ ns : List Int, Reps E S ρ (ns.map V.int) (ns.map D.int)
  | [] => .nil
  | n :: ns => .cons (.int n) (reps_ints ns)
theorem law_sp {K : PySem.W.Frag} {E : En} (hK : E.K = K) {vs : List V} {H : Hp} {Q : VK} {Z : XK} (h : spLaw K vs H Q Z) : spI E 1 m_F_law vs H Q Z := by
  obtain ⟨a, ns, rfl, hS, hl, q⟩ := h
  obtain ⟨g', e⟩ := law_ok ns
  refine ⟨rfl, [], H, [], [.lst (ns.map .int)], ⟨fun _ _ h => h, rfl, List.nodup_nil, (fun _ h => nomatch h), fun n a m h => by simp at h⟩, .cons (.lst (by rw [hK]; exact hS) (reps_ints ns)) .nil, ?_⟩
  rw [e]
  intro v ρ' S' H' _ _ r
  cases r
  exact q H'
theorem all_mk {l : PySem.W.OpenLaw} {w : World} {K : PySem.W.Frag} {h : Heap} {mg : Str → Option Value} {fa : Addr} {a : Ad} (X : K.In h) (G : h.Ns mainGlobals mg) (hfa : mg "law" = some (.ref fa)) (T : Txt K mg a)
    {oc kV dc pm cd ct : Value} {od an : Option Addr} {sl : Array (Option Value)}
    (lk : K.lookup a.F_law = some ⟨oc, od, .func (PySem.W.fnOf "law" "law" (defArgs (top 26)) (defBody (top 26)) (defScope (top 26)) .none kV dc pm an cd ct), sl⟩) (co : PySem.W.codeIn K cd "law" = true) :
    ∃ fd : FuncData, (∀ (s : Shared) (v : Value), BindsTo s fd ⟨[v], []⟩ [("_law_script", v)]) ∧ ∀ base : Heap, K.In base → base.Ns mainGlobals mg → FnG l.prog w K mg base 9 fa fd ["_law_script"] (spLaw K) := by
  have e := hfa.symm.trans T.mg_F_law
  cases e
  have FD : FunD K "law" "law" (defArgs (top 26)) (defBody (top 26)) (defScope (top 26)) [] [] a.F_law (PySem.W.fnOf "law" "law" (defArgs (top 26)) (defBody (top 26)) (defScope (top 26)) .none kV dc pm an cd ct) := ⟨⟨_, _, _, _, _, _, _, _, _, _, rfl, lk, co, .inl ⟨rfl, rfl⟩, .inl rfl⟩, T.kp_F_law⟩
  exact ⟨_, fun s v => .of_eq rfl, fun base _ _ => (law_fn T FD).imp fun vs H Q Z h => law_sp rfl h⟩
theorem walk {l : PySem.W.OpenLaw} {q : Program} {loose : List Str} {XP : (Str → Option Value) → Heap → Prop} {YP : World → Heap → Prop} {d : DefRec} {K : Params → PySem.W.Frag} (hn : l.most = some 63) (hdf : d.params.defaults = [])
    (hY : ∀ (w : World) (h : Heap), YP w h → (K w.params).In h)
    (F : ∀ (w : World) (mg : Str → Option Value) (fa : Addr) (h : Heap), (K w.params).In h → h.Ns mainGlobals mg → mg d.name = some (.ref fa) →
      ∃ fd : FuncData, (∀ (s : Shared) (u : Value), BindsTo s fd ⟨[u], []⟩ [("_law_script", u)]) ∧ ∀ base : Heap, (K w.params).In base → base.Ns mainGlobals mg → FnG l.prog w (K w.params) mg base 9 fa fd ["_law_script"] (spLaw (K w.params))) :
    PySem.W.WalkO q loose XP YP l.row.toRowW d [] (fun f vs => PySem.call f vs) :=
  walkG (n := 63) (k := 9) (x := "_law_script") (sp := fun w => spLaw (K w.params)) hn (by decide) hdf ⟨rfl, by decide, by decide⟩ hY F fun _ _ a ns hl _ hS => ⟨a, ns, rfl, hS, hl, fun _ => rfl⟩
end K28
open PySem PySem.W PyProof.Rows
set_option maxRecDepth 100000 in
set_option maxHeartbeats 0 in
theorem PySem.Challenge.cw_slipsights_k28_spans_stepped_and_sighted_holds : PySem.Challenge.rw_slipsights_k28_spans_stepped_and_sighted.Holds := by
  w_on; o_law; k_head; (case hw => w_witness2)
  k_fill
  refine K28.walk (l := PySem.Challenge.rw_slipsights_k28_spans_stepped_and_sighted) rfl rfl (fun w h Y => PySem.W.kIn_of Y) ?F
  case F =>
    intro w mg fa h KX G hmg
    refine' K28.all_mk KX G hmg (K28.txt_mk KX G ?h_ogc ?h_otk ?n_Span ?pg_Span ?hd_Span ?po_Span ?sa_Span ?mk_Span ?kc_Span ?gc_Span ?mr_Span ?sf_Span ?in_Span ?if_Span ?ef_Span ?eg_Span ?en_Span ?e0_Span ?e1_Span ?e2_Span ?tc_Span ?su_Span_Span ?kt_Span_int ?kt_Span_bool ?kt_Span_tuple ?na_Span_belief ?na_Span_place ?na_Span_error ?n_InvalidSpan ?su_xl_InvalidSpan ?sa_InvalidSpan ?ex_InvalidSpan ?tc_InvalidSpan ?kc_InvalidSpan ?ga_InvalidSpan ?gg_InvalidSpan ?hd_InvalidSpan ?no_InvalidSpan ?ii_InvalidSpan ?ti_InvalidSpan ?gc_InvalidSpan ?mr_InvalidSpan ?n_SightError ?n_F_lesser ?l_F_lesser ?co_F_lesser ?kp_F_lesser ?n_F_greater ?l_F_greater ?co_F_greater ?kp_F_greater ?n_F_common ?l_F_common ?co_F_common ?kp_F_common ?n_F_shifted ?l_F_shifted ?co_F_shifted ?kp_F_shifted ?n_F_is_integer ?l_F_is_integer ?co_F_is_integer ?kp_F_is_integer ?n_F_is_cell ?l_F_is_cell ?co_F_is_cell ?kp_F_is_cell ?l_F_Span___init__ ?co_F_Span___init__ ?kp_F_Span___init__ ?fi_F_Span_total ?pg_F_Span_total ?pt_F_Span_total ?px_F_Span_total ?l_F_Span_total ?co_F_Span_total ?kp_F_Span_total ?fi_F_Span_stepped ?ty_F_Span_stepped ?l_F_Span_stepped ?co_F_Span_stepped ?kp_F_Span_stepped ?fi_F_Span_sighted ?ty_F_Span_sighted ?l_F_Span_sighted ?co_F_Span_sighted ?kp_F_Span_sighted ?fi_F_Span_less ?ty_F_Span_less ?l_F_Span_less ?co_F_Span_less ?kp_F_Span_less ?fi_F_Span_places_at ?ty_F_Span_places_at ?l_F_Span_places_at ?co_F_Span_places_at ?kp_F_Span_places_at ?fi_F_Span___bool__ ?ty_F_Span___bool__ ?l_F_Span___bool__ ?co_F_Span___bool__ ?kp_F_Span___bool__ ?fi_F_Span___and__ ?ty_F_Span___and__ ?l_F_Span___and__ ?co_F_Span___and__ ?kp_F_Span___and__ ?fi_F_Span___eq__ ?ty_F_Span___eq__ ?l_F_Span___eq__ ?co_F_Span___eq__ ?kp_F_Span___eq__ ?n_F__triangle ?l_F__triangle ?co_F__triangle ?kp_F__triangle ?n_F__with_range ?l_F__with_range ?co_F__with_range ?kp_F__with_range ?n_F__law_feed ?l_F__law_feed ?co_F__law_feed ?kp_F__law_feed ?n_F__law_take ?l_F__law_take ?co_F__law_take ?kp_F__law_take ?n_F__law_pick ?l_F__law_pick ?co_F__law_pick ?kp_F__law_pick ?n_F__law_bounds ?l_F__law_bounds ?co_F__law_bounds ?kp_F__law_bounds ?n_F__law_listed ?l_F__law_listed ?co_F__law_listed ?kp_F__law_listed ?n_F__law_all ?l_F__law_all ?co_F__law_all ?kp_F__law_all ?n_F__law_sorted ?l_F__law_sorted ?co_F__law_sorted ?kp_F__law_sorted ?n_F__law_changed ?l_F__law_changed ?co_F__law_changed ?kp_F__law_changed ?n_F_law ?l_F_law ?co_F_law ?kp_F_law ?l_F_InvalidSpan___init__ ?co_F_InvalidSpan___init__ ?kp_F_InvalidSpan___init__ ?z_isinstance ?z_int ?z_bool ?z_tuple ?z_len ?z_any ?z_enumerate ?z_list ?z_abs ?z_range ?z_sorted ?z_max ?z_min) ?l_F_law ?co_F_law
    (case h_ogc => k_is)
    (case h_otk => k_is)
    (case n_Span => k_is)
    (case pg_Span => k_is)
    (case hd_Span => k_is)
    (case po_Span => k_is)
    (case sa_Span => k_is)
    (case mk_Span => k_is)
    (case kc_Span => k_is)
    (case gc_Span => k_is)
    (case mr_Span => k_is)
    (case sf_Span => k_is)
    (case in_Span => k_is)
    (case if_Span => k_is)
    (case ef_Span => k_is)
    (case eg_Span => k_is)
    (case en_Span => k_is)
    (case e0_Span => k_is)
    (case e1_Span => k_is)
    (case e2_Span => k_is)
    (case tc_Span => k_is)
    (case kt_Span_int => k_is)
    (case kt_Span_bool => k_is)
    (case kt_Span_tuple => k_is)
    (case na_Span_belief => k_is)
    (case na_Span_place => k_is)
    (case na_Span_error => k_is)
    (case n_InvalidSpan => k_is)
    (case sa_InvalidSpan => k_is)
    (case ex_InvalidSpan => k_is)
    (case tc_InvalidSpan => k_is)
    (case kc_InvalidSpan => k_is)
    (case ga_InvalidSpan => k_is)
    (case gg_InvalidSpan => k_is)
    (case hd_InvalidSpan => k_is)
    (case no_InvalidSpan => k_is)
    (case ii_InvalidSpan => k_is)
    (case ti_InvalidSpan => k_is)
    (case gc_InvalidSpan => k_is)
    (case mr_InvalidSpan => k_is)
    (case n_SightError => k_is)
    (case n_F_lesser => k_is)
    (case l_F_lesser => k_is)
    (case co_F_lesser => k_is)
    (case kp_F_lesser => k_is)
    (case n_F_greater => k_is)
    (case l_F_greater => k_is)
    (case co_F_greater => k_is)
    (case kp_F_greater => k_is)
    (case n_F_common => k_is)
    (case l_F_common => k_is)
    (case co_F_common => k_is)
    (case kp_F_common => k_is)
    (case n_F_shifted => k_is)
    (case l_F_shifted => k_is)
    (case co_F_shifted => k_is)
    (case kp_F_shifted => k_is)
    (case n_F_is_integer => k_is)
    (case l_F_is_integer => k_is)
    (case co_F_is_integer => k_is)
    (case kp_F_is_integer => k_is)
    (case n_F_is_cell => k_is)
    (case l_F_is_cell => k_is)
    (case co_F_is_cell => k_is)
    (case kp_F_is_cell => k_is)
    (case l_F_Span___init__ => k_is)
    (case co_F_Span___init__ => k_is)
    (case kp_F_Span___init__ => k_is)
    (case fi_F_Span_total => k_is)
    (case pg_F_Span_total => k_is)
    (case pt_F_Span_total => k_is)
    (case px_F_Span_total => k_is)
    (case l_F_Span_total => k_is)
    (case co_F_Span_total => k_is)
    (case kp_F_Span_total => k_is)
    (case fi_F_Span_stepped => k_is)
    (case ty_F_Span_stepped => k_is)
    (case l_F_Span_stepped => k_is)
    (case co_F_Span_stepped => k_is)
    (case kp_F_Span_stepped => k_is)
    (case fi_F_Span_sighted => k_is)
    (case ty_F_Span_sighted => k_is)
    (case l_F_Span_sighted => k_is)
    (case co_F_Span_sighted => k_is)
    (case kp_F_Span_sighted => k_is)
    (case fi_F_Span_less => k_is)
    (case ty_F_Span_less => k_is)
    (case l_F_Span_less => k_is)
    (case co_F_Span_less => k_is)
    (case kp_F_Span_less => k_is)
    (case fi_F_Span_places_at => k_is)
    (case ty_F_Span_places_at => k_is)
    (case l_F_Span_places_at => k_is)
    (case co_F_Span_places_at => k_is)
    (case kp_F_Span_places_at => k_is)
    (case fi_F_Span___bool__ => k_is)
    (case ty_F_Span___bool__ => k_is)
    (case l_F_Span___bool__ => k_is)
    (case co_F_Span___bool__ => k_is)
    (case kp_F_Span___bool__ => k_is)
    (case fi_F_Span___and__ => k_is)
    (case ty_F_Span___and__ => k_is)
    (case l_F_Span___and__ => k_is)
    (case co_F_Span___and__ => k_is)
    (case kp_F_Span___and__ => k_is)
    (case fi_F_Span___eq__ => k_is)
    (case ty_F_Span___eq__ => k_is)
    (case l_F_Span___eq__ => k_is)
    (case co_F_Span___eq__ => k_is)
    (case kp_F_Span___eq__ => k_is)
    (case n_F__triangle => k_is)
    (case l_F__triangle => k_is)
    (case co_F__triangle => k_is)
    (case kp_F__triangle => k_is)
    (case n_F__with_range => k_is)
    (case l_F__with_range => k_is)
    (case co_F__with_range => k_is)
    (case kp_F__with_range => k_is)
    (case n_F__law_feed => k_is)
    (case l_F__law_feed => k_is)
    (case co_F__law_feed => k_is)
    (case kp_F__law_feed => k_is)
    (case n_F__law_take => k_is)
    (case l_F__law_take => k_is)
    (case co_F__law_take => k_is)
    (case kp_F__law_take => k_is)
    (case n_F__law_pick => k_is)
    (case l_F__law_pick => k_is)
    (case co_F__law_pick => k_is)
    (case kp_F__law_pick => k_is)
    (case n_F__law_bounds => k_is)
    (case l_F__law_bounds => k_is)
    (case co_F__law_bounds => k_is)
    (case kp_F__law_bounds => k_is)
    (case n_F__law_listed => k_is)
    (case l_F__law_listed => k_is)
    (case co_F__law_listed => k_is)
    (case kp_F__law_listed => k_is)
    (case n_F__law_all => k_is)
    (case l_F__law_all => k_is)
    (case co_F__law_all => k_is)
    (case kp_F__law_all => k_is)
    (case n_F__law_sorted => k_is)
    (case l_F__law_sorted => k_is)
    (case co_F__law_sorted => k_is)
    (case kp_F__law_sorted => k_is)
    (case n_F__law_changed => k_is)
    (case l_F__law_changed => k_is)
    (case co_F__law_changed => k_is)
    (case kp_F__law_changed => k_is)
    (case n_F_law => k_is)
    (case l_F_law => k_is)
    (case co_F_law => k_is)
    (case kp_F_law => k_is)
    (case l_F_InvalidSpan___init__ => k_is)
    (case co_F_InvalidSpan___init__ => k_is)
    (case kp_F_InvalidSpan___init__ => k_is)
    (case z_isinstance => k_is)
    (case z_int => k_is)
    (case z_bool => k_is)
    (case z_tuple => k_is)
    (case z_len => k_is)
    (case z_any => k_is)
    (case z_enumerate => k_is)
    (case z_list => k_is)
    (case z_abs => k_is)
    (case z_range => k_is)
    (case z_sorted => k_is)
    (case z_max => k_is)
    (case z_min => k_is)
    (case su_Span_Span => k_is)
    (case su_xl_InvalidSpan => k_is)
#print axioms PySem.Challenge.cw_slipsights_k28_spans_stepped_and_sighted_holds
