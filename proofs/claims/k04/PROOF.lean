import PyProof.Rows.All
import Wide.All
import OpenK.AllK
import Wide.FinOn
import PySem.Str
import PySem.PyData
import PyProof.P3Statements
import PyProof.EqLayable
import HandS.List
import HandS.Text
import HandS.ForMost
import HandS.Exc
import HandS.CallSlots
import HandS.ExcOwn
import HandS.WordsExc
import HandS.TupAny
import HandS.IsInst
import HandS.Style
import HandS.RaiseMore
import HandS.ExcInit
import HandS.TryOnly
import HandS.Defaults
import HandS.Iter
import HandS.Steps
import PySem.Challenge.RW_slipsights_k04_cells_in_rooms_and_marks
set_option linter.all false
set_option Elab.async false
set_option maxRecDepth 100000
set_option maxHeartbeats 40000000
/-! A small language with tree values, and what it means. -/
namespace Pi
open PySem

inductive D where
  | non | bl (b : Bool) | int (i : Int) | str (x : Str)
  | tup (ds : List D) | lst (ds : List D)
  | ins (c : Nat) (fs : List (Nat × D))
  | ref (n : Nat)
  deriving Inhabited

inductive MO where
  | lst (ds : List D) | ins (c : Nat) (fs : List (Nat × D))

inductive SV where
  | un | v (d : D) | own (ds : List D) | ob (c : Nat) (fs : List (Nat × D))

structure S where
  l : List SV
  g : List MO

inductive R (α : Type) where
  | ok (a : α) (s : S) | ex (c : Nat) (fs : List (Nat × D)) (s : S) | no

def R.bind {α β : Type} (r : R α) (k : α → S → R β) : R β := match r with
  | .ok a s => k a s
  | .ex c fs s => .ex c fs s
  | .no => .no
def R.of {α : Type} (o : Option α) (s : S) : R α := match o with
  | some a => .ok a s
  | none => .no

/-- a call's end, without the caller's names -/
inductive C where
  | ok (d : D) (g : List MO) | ex (c : Nat) (fs : List (Nat × D)) (g : List MO) | no
inductive CI where
  | ok (fs : List (Nat × D)) (g : List MO) | ex (c : Nat) (fs : List (Nat × D)) (g : List MO) | no

inductive Ty where
  | int | bool | str | tuple | list | cls (c : Nat)
inductive Op where
  | add | sub | mulL | mulR | fdiv | mod | pow | eq | ne | lt | le | gt | ge | isn | ntn | cat | inS
inductive Bi where
  | len | abs | int | str | repr | tuple | list | all | any | max2 | min2 | sum

structure O where
  call : Nat → List D → List MO → C
  init : Nat → List D → List MO → CI
  meth : Nat → Nat → Option Nat
  cont : Nat → Option Nat
  sub : Nat → Nat → Bool

def big : Nat := 100000

def view (g : List MO) : D → D
  | .ref n => match g[n]? with
    | some (.lst ds) => .lst ds
    | _ => .ref n
  | d => d

mutual
def toPy : D → Option PyData
  | .non => some .none
  | .bl b => some (.bool b)
  | .int i => some (.int i)
  | .str x => some (.str x)
  | .tup ds => (toPys ds).map .tuple
  | .lst ds => (toPys ds).map .list
  | .ins _ _ => none
  | .ref _ => none
def toPys : List D → Option (List PyData)
  | [] => some []
  | d :: ds => match toPy d, toPys ds with
    | some x, some xs => some (x :: xs)
    | _, _ => none
end

/-- equality of plain data -/
def deq (a b : D) : Option Bool := match toPy a, toPy b with
  | some x, some y => bif SeqAt.shaped x && SeqAt.shaped y then some (PyData.eqv x y) else none
  | _, _ => none
def scalD : D → D → Bool
  | .int _, .int _ => true
  | .bl _, .bl _ => true
  | .str _, .str _ => true
  | .non, .non => true
  | _, _ => false
def flat : D → Bool
  | .int _ => true
  | .str _ => true
  | .bl _ => true
  | .non => true
  | _ => false
def small64 (i : Int) : Bool := decide (-(2 ^ 64) < i) && decide (i < 2 ^ 64)

def addV : D → D → Option D
  | .int i, .int j => some (.int (i + j))
  | .str x, .str y => bif decide (x.length + y.length ≤ big) then some (.str (x ++ y)) else none
  | _, _ => none
def i2V (f : Int → Int → Option D) : D → D → Option D
  | .int i, .int j => f i j
  | _, _ => none
def eqV : D → D → Option Bool
  | .int i, .int j => some (decide (i = j))
  | .str i, .str j => some (decide (i = j))
  | .bl i, .bl j => some (decide (i = j))
  | a, b => deq a b
def isnV : D → D → Option Bool
  | .non, .non => some true
  | _, .non => some false
  | _, _ => none
def catV : D → D → Option D
  | .tup (x :: a), .tup (y :: b) => bif decide ((x :: a).length + (y :: b).length ≤ big) then some (.tup ((x :: a) ++ (y :: b))) else none
  | _, _ => none
def inSV : D → D → Option D
  | .str x, .str z => match x.cps.toList with
    | [c] => some (.bl (decide (c ∈ z.cps.toList)))
    | _ => none
  | _, _ => none
def op2V : Op → D → D → Option D
  | .add, a, b => addV a b
  | .sub, a, b => i2V (fun i j => some (.int (i - j))) a b
  | .mulL, a, b => i2V (fun i j => bif small64 i then some (.int (i * j)) else none) a b
  | .mulR, a, b => i2V (fun i j => bif small64 j then some (.int (i * j)) else none) a b
  | .fdiv, a, b => i2V (fun i j => bif decide (0 < j) && decide (j < 1073741824) then some (.int (i / j)) else none) a b
  | .mod, a, b => i2V (fun i j => bif decide (0 < j) then some (.int (i % j)) else none) a b
  | .pow, a, b => i2V (fun i j => bif decide (0 ≤ j) && decide (j ≤ 1000000) && decide (i.natAbs < 2 ^ 64) then some (.int (i ^ j.toNat)) else none) a b
  | .lt, a, b => i2V (fun i j => some (.bl (decide (i < j)))) a b
  | .le, a, b => i2V (fun i j => some (.bl (decide (i ≤ j)))) a b
  | .gt, a, b => i2V (fun i j => some (.bl (decide (j < i)))) a b
  | .ge, a, b => i2V (fun i j => some (.bl (decide (j ≤ i)))) a b
  | .eq, a, b => (eqV a b).map .bl
  | .ne, a, b => (eqV a b).map fun k => .bl !k
  | .isn, a, b => (isnV a b).map .bl
  | .ntn, a, b => (isnV a b).map fun k => .bl !k
  | .cat, a, b => catV a b
  | .inS, a, b => inSV a b
def op2S (g : List MO) (k : Op) (a b : D) : Option D := op2V k (view g a) (view g b)

def eqF : D → D → Bool
  | .non, .non => true
  | .bl a, .bl b => a == b
  | .bl a, .int b => (if a then 1 else 0) == b
  | .int a, .bl b => a == (if b then 1 else 0)
  | .int a, .int b => a == b
  | .str a, .str b => a == b
  | _, _ => false
/-- x in a row of plain things -/
def inD (x : D) (ds : List D) : Option Bool := bif flat x && ds.all flat then some (ds.any fun y => eqF y x) else none

def isiS (o : O) : D → Ty → Bool
  | .int _, .int => true
  | .bl _, .int => true
  | .bl _, .bool => true
  | .str _, .str => true
  | .tup _, .tuple => true
  | .lst _, .list => true
  | .ins c _, .cls k => o.sub c k
  | _, _ => false
def isiA (o : O) (d : D) : List Ty → Bool
  | [] => false
  | t :: ts => isiS o d t || isiA o d ts

def bools : List D → Option (List Bool)
  | [] => some []
  | .bl b :: r => (bools r).map (b :: ·)
  | _ => none
def allB (ds : List D) : Option Bool := (bools ds).map (·.all id)
def anyB (ds : List D) : Option Bool := (bools ds).map (·.any id)

def lenD : D → Option Nat
  | .lst ds => some ds.length
  | .tup ds => some ds.length
  | .str x => bif decide (x.length ≤ big) then some x.length else none
  | _ => none
def seqD : D → Option (List D)
  | .lst ds => some ds
  | .tup ds => some ds
  | _ => none

def chars : D → Option (List D)
  | .str x => some (x.cps.toList.map fun c => .str ⟨#[c]⟩)
  | _ => none

def arg1 (f : D → Option D) : List D → Option D
  | [d] => f d
  | _ => none
def arg2 (f : D → D → Option D) : List D → Option D
  | [d, e] => f d e
  | _ => none
def absV : D → Option D
  | .int i => some (.int (if i < 0 then -i else i))
  | _ => none
def intV : D → Option D
  | .int i => some (.int i)
  | _ => none
def strV : D → Option D
  | .int i => bif decide (i.natAbs.log2 < 1920) then some (.str (toString i)) else none
  | .str x => some (.str x)
  | _ => none
def reprV : D → Option D
  | .bl b => some (.str (if b then "True" else "False"))
  | .int i => bif decide (i.natAbs.log2 < 1920) then some (.str (toString i)) else none
  | _ => none
def lst1 (f : List D → Option D) : D → Option D
  | .lst ds => f ds
  | _ => none
def biV : Bi → List D → Option D
  | .len => arg1 fun d => (lenD d).map fun (n : Nat) => D.int (n : Int)
  | .abs => arg1 absV
  | .int => arg1 intV
  | .str => arg1 strV
  | .repr => arg1 reprV
  | .tuple => arg1 fun d => (seqD d).map .tup
  | .list => arg1 fun d => (seqD d).map .lst
  | .all => arg1 (lst1 fun ds => (allB ds).map .bl)
  | .any => arg1 (lst1 fun ds => (anyB ds).map .bl)
  | .max2 => arg2 (i2V fun i j => some (.int (if j > i then j else i)))
  | .min2 => arg2 (i2V fun i j => some (.int (if j < i then j else i)))
  | .sum => arg1 fun _ => none
def biS (g : List MO) (k : Bi) (ds : List D) : Option D := biV k (ds.map (view g))

def cutD {α : Type} (ds : List α) (lo hi : Option Int) : List α := (ds.drop (HT.sIx ds.length 0 lo)).take (HT.sIx ds.length ds.length hi - HT.sIx ds.length 0 lo)
def ixS (a i : D) : Option D := match a, i with
  | .lst ds, .int k => L2.atI ds k
  | .tup ds, .int k => L2.atI ds k
  | _, _ => none
def slS (a : D) (lo hi : Option Int) : Option D := match a with
  | .lst ds => some (.lst (cutD ds lo hi))
  | .tup ds => some (.tup (cutD ds lo hi))
  | .str x => bif decide (x.length ≤ big) then some (.str (L2.cutS x lo hi)) else none
  | _ => none
def revS (a : D) : Option D := match a with
  | .lst ds => some (.lst ds.reverse)
  | _ => none
def fldS (g : List MO) (a : D) (n : Nat) : Option D := match a with
  | .ins _ fs => fs.lookup n
  | .ref k => match g[k]? with
    | some (.ins _ fs) => fs.lookup n
    | _ => none
  | _ => none
def clsS (g : List MO) (a : D) : Option Nat := match a with
  | .ins c _ => some c
  | .ref k => match g[k]? with
    | some (.ins c _) => some c
    | _ => none
  | _ => none
def tyD (g : List MO) : D → Option D
  | .ref n => match g[n]? with
    | some (.lst ds) => some (.lst ds)
    | some (.ins c fs) => some (.ins c fs)
    | none => none
  | d => some d
def truS : D → Option Bool
  | .bl b => some b
  | .int i => some (i != 0)
  | .non => some false
  | .str x => bif decide (x.length ≤ big) then some (x.length != 0) else none
  | .lst ds => some (!ds.isEmpty)
  | .tup ds => some (!ds.isEmpty)
  | _ => none
def putN (n : Nat) (d : D) : List (Nat × D) → List (Nat × D)
  | [] => [(n, d)]
  | (m, x) :: r => bif m == n then (m, d) :: r else (m, x) :: putN n d r

inductive T where
  | c (d : D) | v (i : Nat) | gl (d : D)
  | op2 (k : Op) (a b : T)
  | opo (k : Op) (i : Nat) (b : T)
  | ch (k k' : Op) (a b c : T)
  | neg (a : T)
  | and (a b : T) | or (a b : T) | not (a : T) | tru (a : T) | ite (c a b : T)
  | tup (a : T) | lst (a : T) | nil | cons (a b : T) | star (a b : T)
  | ix (a i : T) | ixo (i : Nat) (a : T) | sl (a lo hi : T) | rev (a : T)
  | call (f : Nat) (a : T) (df : List D) | mk (c : Nat) (a : T) (df : List D) | meth (m : Nat) (a b : T) (df : List D) | fld (a : T) (n : Nat)
  | inr (neg : Bool) (a b : T) | ino (neg : Bool) (a b : T)
  | isi (a : T) (ts : List Ty)
  | bi (k : Bi) (a : T) | bio (k : Bi) (i : Nat)
  | comp (i : Nat) (it c e : T)
  | rng1 (a : T) | rng2 (a b : T) | it (a : T) | its (a : T)
  | popo (i : Nat) (a : T)
  | mkr (a : T) | revr (a : T) | popr (a : T)

def isOwn (l : List SV) (i : Nat) : Bool := match l[i]? with
  | some (.own _) => true
  | _ => false
def wipeOwn : List SV → List SV
  | [] => []
  | .own _ :: r => .un :: wipeOwn r
  | .ob _ _ :: r => .un :: wipeOwn r
  | .un :: r => .un :: wipeOwn r
  | .v d :: r => .v d :: wipeOwn r

def loopC (f : D → List MO → R (Option D)) : List D → List D → List MO → R (List D)
  | [], acc, g => .ok acc ⟨[], g⟩
  | d :: ds, acc, g => match f d g with
    | .ok (some x) s => loopC f ds (acc ++ [x]) s.g
    | .ok none s => loopC f ds acc s.g
    | .ex _ _ _ => .no
    | .no => .no

def R.ofC (l : List SV) : C → R D
  | .ok d g => .ok d ⟨l, g⟩
  | .ex c fs g => .ex c fs ⟨l, g⟩
  | .no => .no
def R.ofCI (l : List SV) (c : Nat) : CI → R D
  | .ok fs g => .ok (.ins c fs) ⟨l, g⟩
  | .ex c fs g => .ex c fs ⟨l, g⟩
  | .no => .no

mutual
def ev (o : O) : T → S → R D
  | .c d, s => .ok d s
  | .gl d, s => .ok d s
  | .v i, s => match s.l[i]? with
    | some (.v d) => .ok d s
    | _ => .no
  | .op2 k a b, s => (ev o a s).bind fun x s => (ev o b s).bind fun y s => R.of (op2S s.g k x y) s
  | .opo k i b, s => (ev o b s).bind fun y s => match s.l[i]? with
    | some (.own ds) => R.of (op2S s.g k (.lst ds) y) s
    | _ => .no
  | .ch k k' a b c, s => (ev o a s).bind fun x s => (ev o b s).bind fun y s => match op2S s.g k x y with
    | some (.bl true) => (ev o c s).bind fun z s => R.of (op2S s.g k' y z) s
    | some (.bl false) => .ok (.bl false) s
    | _ => .no
  | .neg a, s => (ev o a s).bind fun x s => match x with
    | .int i => .ok (.int (-i)) s
    | _ => .no
  | .and a b, s => (ev o a s).bind fun x s => match x with
    | .bl true => ev o b s
    | .bl false => .ok (.bl false) s
    | _ => .no
  | .or a b, s => (ev o a s).bind fun x s => match x with
    | .bl true => .ok (.bl true) s
    | .bl false => ev o b s
    | _ => .no
  | .not a, s => (ev o a s).bind fun x s => match x with
    | .bl b => .ok (.bl (!b)) s
    | _ => .no
  | .tru a, s => (ev o a s).bind fun x s => R.of ((truS (view s.g x)).map .bl) s
  | .ite c a b, s => (ev o c s).bind fun x s => match x with
    | .bl true => ev o a s
    | .bl false => ev o b s
    | _ => .no
  | .tup a, s => (evA o a s).bind fun ds s => bif decide (ds.length ≤ big) then .ok (.tup ds) s else .no
  | .lst a, s => (evA o a s).bind fun ds s => bif decide (ds.length ≤ big) then .ok (.lst ds) s else .no
  | .ix a i, s => (ev o a s).bind fun x s => (ev o i s).bind fun y s => R.of (ixS (view s.g x) y) s
  | .ixo i a, s => (ev o a s).bind fun y s => match s.l[i]? with
    | some (.own ds) => R.of (ixS (.lst ds) y) s
    | _ => .no
  | .sl a lo hi, s => (ev o a s).bind fun x s => (evO o lo s).bind fun i s => (evO o hi s).bind fun j s => R.of (slS (view s.g x) i j) s
  | .rev a, s => (ev o a s).bind fun x s => R.of (revS (view s.g x)) s
  | .call f a df, s => (evA o a s).bind fun ds s => R.ofC s.l (o.call f (ds ++ df) s.g)
  | .mk c a df, s => (evA o a s).bind fun ds s => R.ofCI s.l c (o.init c (ds ++ df) s.g)
  | .meth m a b df, s => (ev o a s).bind fun x s => match clsS s.g x with
    | some c => (match o.meth c m with
      | some f => (evA o b s).bind fun ds s => R.ofC s.l (o.call f (x :: (ds ++ df)) s.g)
      | none => .no)
    | none => .no
  | .fld a n, s => (ev o a s).bind fun x s => R.of (fldS s.g x n) s
  | .inr neg a b, s => (ev o a s).bind fun x s => (ev o b s).bind fun y s => match seqD (view s.g y) with
    | some ds => R.of ((inD x ds).map fun k => .bl (bif neg then !k else k)) s
    | none => .no
  | .ino neg a b, s => (ev o a s).bind fun x s => (ev o b s).bind fun y s => match clsS s.g y with
    | some c => (match o.cont c with
      | some f => (match o.call f [y, x] s.g with
        | .ok (.bl k) g => .ok (.bl (bif neg then !k else k)) ⟨s.l, g⟩
        | _ => .no)
      | none => .no)
    | none => .no
  | .isi a ts, s => (ev o a s).bind fun x s => match tyD s.g x with
    | some d => .ok (.bl (isiA o d ts)) s
    | none => .no
  | .bi k a, s => (evA o a s).bind fun ds s => R.of (biS s.g k ds) s
  | .bio k i, s => match s.l[i]? with
    | some (.own ds) => R.of (biS s.g k [.lst ds]) s
    | _ => .no
  | .comp i it c e, s => (evI o it s).bind fun ds s => bif decide (ds.length ≤ big) then
    match loopC (fun d g => (ev o c ⟨(wipeOwn s.l).set i (.v d), g⟩).bind fun t s' => match t with
      | .bl true => (ev o e s').bind fun x s'' => .ok (some x) s''
      | .bl false => .ok none s'
      | _ => .no) ds [] s.g with
    | .ok xs s' => .ok (.lst xs) ⟨s.l, s'.g⟩
    | _ => .no else .no
  | .popo i a, s => bif isOwn s.l i then (ev o a s).bind fun y s => match s.l[i]?, y with
    | some (.own ds), .int k => bif decide (0 ≤ k) && decide (k < ds.length) && decide (ds.length ≤ big) then (match ds[k.toNat]? with
      | some d => .ok d ⟨s.l.set i (.own (ds.eraseIdx k.toNat)), s.g⟩
      | none => .no) else .no
    | _, _ => .no else .no
  | .mkr a, s => (evA o a s).bind fun ds s => bif decide (ds.length ≤ big) then .ok (.ref s.g.length) ⟨s.l, s.g ++ [.lst ds]⟩ else .no
  | .revr a, s => (ev o a s).bind fun x s => match view s.g x with
    | .lst ds => .ok (.ref s.g.length) ⟨s.l, s.g ++ [.lst ds.reverse]⟩
    | _ => .no
  | .popr a, s => (ev o a s).bind fun x s => match x with
    | .ref n => (match s.g[n]? with
      | some (.lst ds) => (match ds.getLast? with
        | some d => .ok d ⟨s.l, s.g.set n (.lst ds.dropLast)⟩
        | none => .no)
      | _ => .no)
    | _ => .no
  | .nil, _ => .no
  | .cons _ _, _ => .no
  | .star _ _, _ => .no
  | .rng1 _, _ => .no
  | .rng2 _ _, _ => .no
  | .it _, _ => .no
  | .its _, _ => .no
def evA (o : O) : T → S → R (List D)
  | .nil, s => .ok [] s
  | .cons a b, s => (ev o a s).bind fun x s => (evA o b s).bind fun xs s => .ok (x :: xs) s
  | _, _ => .no
def evO (o : O) : T → S → R (Option Int)
  | .nil, s => .ok none s
  | .cons a _, s => (ev o a s).bind fun x s => match x with
    | .int i => .ok (some i) s
    | _ => .no
  | _, _ => .no
def evI (o : O) : T → S → R (List D)
  | .rng1 a, s => (ev o a s).bind fun x s => match x with
    | .int j => bif decide (-(2 ^ 62) ≤ j) && decide (j < 2 ^ 62) then .ok ((List.range j.toNat).map fun (k : Nat) => .int k) s else .no
    | _ => .no
  | .rng2 a b, s => (ev o a s).bind fun x s => (ev o b s).bind fun y s => match x, y with
    | .int i, .int j => bif decide (-(2 ^ 62) ≤ i) && decide (i < 2 ^ 62) && decide (-(2 ^ 62) ≤ j) && decide (j < 2 ^ 62) then .ok ((List.range (j - i).toNat).map fun (k : Nat) => .int (i + k)) s else .no
    | _, _ => .no
  | .it a, s => (ev o a s).bind fun x s => R.of (seqD x) s
  | .its a, s => (ev o a s).bind fun x s => R.of (chars x) s
  | _, _ => .no
end

inductive F where
  | nx | rt (d : D) | bk | ct

inductive Tgt where
  | one (i : Nat) | tup (is : List Nat)
inductive TS where
  | nil | seq (a b : TS)
  | asg (t : Tgt) (e : T)
  | ex (e : T)
  | ite (c : T) (a b : TS)
  | ret (e : T) | retn
  | raise (c n : Nat) (as : T)
  | fr (t : Tgt) (it : T) (b : TS)
  | whl (n : Nat) (c : T) (b : TS)
  | brk | cnt
  | setF (k n : Nat) (e : T)
  | mko (i : Nat) (a : T) | app (i : Nat) (e : T) | ext (i : Nat) (e : T) | frz (i : Nat)
  | try1 (b : TS) (ks : List Nat) (c : Nat) (h : TS)
  | par (is : List Nat) (a : T)
  | appr (a e : T) | setr (a i e : T)

def setAll : List Nat → List D → List SV → Option (List SV)
  | [], [], l => some l
  | i :: is, d :: ds, l => setAll is ds (l.set i (.v d))
  | _, _, _ => none
def tgS : Tgt → D → List SV → Option (List SV)
  | .one i, d, l => some (l.set i (.v d))
  | .tup is, .tup ds, l => setAll is ds l
  | .tup _, _, _ => none

def loopS (f : D → S → R F) : List D → S → R F
  | [], s => .ok .nx s
  | d :: ds, s => match f d s with
    | .ok .nx s => loopS f ds s
    | .ok .ct s => loopS f ds s
    | .ok .bk s => .ok .nx s
    | .ok (.rt d) s => .ok (.rt d) s
    | .ex c fs s => .ex c fs s
    | .no => .no
def contW (k : S → R F) : R F → R F
  | .ok .nx s => k s
  | .ok .ct s => k s
  | .ok .bk s => .ok .nx s
  | .ok (.rt d) s => .ok (.rt d) s
  | .ex c fs s => .ex c fs s
  | .no => .no
def testW (f k : S → R F) : D → S → R F
  | .bl true, s => contW k (f s)
  | .bl false, s => .ok .nx s
  | _, _ => .no
def loopW (f : S → R F) (c : S → R D) : Nat → S → R F
  | 0, _ => .no
  | n + 1, s => (c s).bind (testW f (loopW f c n))

def evS (o : O) : TS → S → R F
  | .nil, s => .ok .nx s
  | .seq a b, s => match evS o a s with
    | .ok .nx s => evS o b s
    | r => r
  | .asg t e, s => (ev o e s).bind fun d s => match tgS t d s.l with
    | some l => .ok .nx ⟨l, s.g⟩
    | none => .no
  | .ex e, s => (ev o e s).bind fun _ s => .ok .nx s
  | .ite c a b, s => (ev o c s).bind fun x s => match x with
    | .bl true => evS o a s
    | .bl false => evS o b s
    | _ => .no
  | .ret e, s => (ev o e s).bind fun d s => .ok (.rt d) s
  | .retn, s => .ok (.rt .non) s
  | .raise c n as, s => (evA o as s).bind fun ds s => match ds with
    | [d] => .ex c [(n, d)] s
    | _ => .no
  | .fr t it b, s => (evI o it s).bind fun ds s => loopS (fun d s => match tgS t d s.l with
    | some l => evS o b ⟨l, s.g⟩
    | none => .no) ds s
  | .whl n c b, s => loopW (evS o b) (ev o c) n s
  | .brk, s => .ok .bk s
  | .cnt, s => .ok .ct s
  | .setF k n e, s => (ev o e s).bind fun d s => match s.l[(0 : Nat)]? with
    | some (.ob c fs) => bif c == k && decide (fs.length < 900) then .ok .nx ⟨s.l.set 0 (.ob c (putN n d fs)), s.g⟩ else .no
    | _ => .no
  | .mko i a, s => (evA o a s).bind fun ds s => bif decide (ds.length ≤ big) then .ok .nx ⟨s.l.set i (.own ds), s.g⟩ else .no
  | .app i e, s => bif isOwn s.l i then (ev o e s).bind fun d s => match s.l[i]? with
    | some (.own ds) => bif decide (ds.length < big) then .ok .nx ⟨s.l.set i (.own (ds ++ [d])), s.g⟩ else .no
    | _ => .no else .no
  | .ext i e, s => bif isOwn s.l i then (evA o e s).bind fun xs s => match s.l[i]? with
    | some (.own ds) => bif decide (ds.length + xs.length ≤ big) then .ok .nx ⟨s.l.set i (.own (ds ++ xs)), s.g⟩ else .no
    | _ => .no else .no
  | .frz i, s => match s.l[i]? with
    | some (.own ds) => .ok .nx ⟨s.l.set i (.v (.lst ds)), s.g⟩
    | _ => .no
  | .par is a, s => (evA o a s).bind fun ds s => match setAll is ds s.l with
    | some l => .ok .nx ⟨l, s.g⟩
    | none => .no
  | .appr a e, s => (ev o a s).bind fun x s => match x with
    | .ref n => (match s.g[n]? with
      | some (.lst _) => (ev o e s).bind fun d s => (match s.g[n]? with
        | some (.lst ds) => bif decide (ds.length < big) then .ok .nx ⟨s.l, s.g.set n (.lst (ds ++ [d]))⟩ else .no
        | _ => .no)
      | _ => .no)
    | _ => .no
  | .setr a i e, s => (ev o e s).bind fun d s => (ev o a s).bind fun x s => (ev o i s).bind fun y s => match x, y with
    | .ref n, .int k => (match s.g[n]? with
      | some (.lst ds) => (match L2.ixN ds.length k with
        | some j => .ok .nx ⟨s.l, s.g.set n (.lst (ds.set j d))⟩
        | none => .no)
      | _ => .no)
    | _, _ => .no
  | .try1 b ks c h, s => match evS o b s with
    | .ex k fs s' => bif ks.contains k then (bif k == c then evS o h s' else .ex k fs s') else .no
    | r => r

/-- a def, an __init__ -/
def R.toC : R F → C
  | .ok .nx s => .ok .non s.g
  | .ok (.rt d) s => .ok d s.g
  | .ok _ _ => .no
  | .ex c fs s => .ex c fs s.g
  | .no => .no
def R.fin (k : Nat) (s : S) : CI := match s.l[(0 : Nat)]? with
  | some (.ob k' fs) => bif k' == k then .ok fs s.g else .no
  | _ => .no
def R.toCI (k : Nat) : R F → CI
  | .ok .nx s => R.fin k s
  | .ok (.rt .non) s => R.fin k s
  | .ok _ _ => .no
  | .ex c fs s => .ex c fs s.g
  | .no => .no
def slots (n : Nat) (ds : List D) : List SV := ds.map .v ++ List.replicate (n - ds.length) .un
def runD (o : O) (n : Nat) (b : TS) (ds : List D) (g : List MO) : C := (evS o b ⟨slots n ds, g⟩).toC
def runN (o : O) (n k : Nat) (b : TS) (ds : List D) (g : List MO) : CI := (evS o b ⟨.ob k [] :: slots (n - 1) ds, g⟩).toCI k
end Pi
/-! How the values of Python stand for the trees; what a step may change. -/
namespace Pi
open PySem L2

/-- what is known of the text: addresses of classes, names of attributes -/
structure En where
  K : PySem.W.Frag
  cl : Nat → Addr
  at_ : Nat → Str
  nat : Nat
  inj : ∀ i j, i < nat → j < nat → at_ i = at_ j → i = j
  co : Nat → Bool
  cok : ∀ c, co c = true → Cls K (cl c) ∧ PySem.W.findIn K (.ref (cl c)) "__class__" = some (some (.builtin "object.__class__")) ∧ PySem.W.specialIn K (.builtin "object.__class__") "__get__" = some (some (.builtin "getset_descriptor.__get__")) ∧
    PySem.W.takesIn K (.builtin "object.__class__") = some true ∧ PySem.W.mroIn K (cl c) (.type "object") = some true
  fo : Nat → Nat → Bool
  fok : ∀ c n, fo c n = true → n < nat ∧ NoAttr K (cl c) (at_ n)
def En.fits (E : En) (c : Nat) (fs : List (Nat × D)) : Prop := E.co c = true ∧ ∀ p ∈ fs, E.fo c p.1 = true

mutual
inductive Rep (E : En) (S : Hp) (ρ : List Addr) : V → D → Prop
  | non : Rep E S ρ .non .non
  | bl (b : Bool) : Rep E S ρ (.bl b) (.bl b)
  | int (i : Int) : Rep E S ρ (.int i) (.int i)
  | str (x : Str) : Rep E S ρ (.str x) (.str x)
  | tup {a : Addr} {vs : List V} {ds : List D} : SqT E.K S a vs → Reps E S ρ vs ds → Rep E S ρ (.ref a) (.tup ds)
  | lst {a : Addr} {vs : List V} {ds : List D} : SqL E.K S a vs → Reps E S ρ vs ds → Rep E S ρ (.ref a) (.lst ds)
  | ins {a dx : Addr} {c : Nat} {fv : List (Str × V)} {fs : List (Nat × D)} : S a = some (.ins (E.cl c) dx fv) → E.fits c fs → RepF E S ρ fv fs → Rep E S ρ (.ref a) (.ins c fs)
  | ref {a : Addr} {n : Nat} : ρ[n]? = some a → Rep E S ρ (.ref a) (.ref n)
inductive Reps (E : En) (S : Hp) (ρ : List Addr) : List V → List D → Prop
  | nil : Reps E S ρ [] []
  | cons {v : V} {d : D} {vs : List V} {ds : List D} : Rep E S ρ v d → Reps E S ρ vs ds → Reps E S ρ (v :: vs) (d :: ds)
inductive RepF (E : En) (S : Hp) (ρ : List Addr) : List (Str × V) → List (Nat × D) → Prop
  | nil : RepF E S ρ [] []
  | cons {n : Nat} {v : V} {d : D} {fv : List (Str × V)} {fs : List (Nat × D)} : n < E.nat → Rep E S ρ v d → RepF E S ρ fv fs → RepF E S ρ ((E.at_ n, v) :: fv) ((n, d) :: fs)
end

structure Inc (S : Hp) (ρ : List Addr) (S' : Hp) (ρ' : List Addr) : Prop where
  sub : ∀ a o, S a = some o → S' a = some o
  pre : ∀ (n : Nat) a, ρ[n]? = some a → ρ'[n]? = some a
theorem Inc.refl (S : Hp) (ρ : List Addr) : Inc S ρ S ρ := ⟨fun _ _ h => h, fun _ _ h => h⟩
theorem Inc.trans {S S1 S2 : Hp} {ρ ρ1 ρ2 : List Addr} (a : Inc S ρ S1 ρ1) (b : Inc S1 ρ1 S2 ρ2) : Inc S ρ S2 ρ2 := ⟨fun x o h => b.sub x o (a.sub x o h), fun n x h => b.pre n x (a.pre n x h)⟩
theorem sqL_mono {K : PySem.W.Frag} {S S' : Hp} {a : Addr} {vs : List V} (k : ∀ a o, S a = some o → S' a = some o) (h : SqL K S a vs) : SqL K S' a vs := by
  rcases h with (h | ⟨o, h⟩) | h
  · exact .inl (.inl (k _ _ h))
  · exact .inl (.inr ⟨o, k _ _ h⟩)
  · exact .inr h
theorem sqT_mono {K : PySem.W.Frag} {S S' : Hp} {a : Addr} {vs : List V} (k : ∀ a o, S a = some o → S' a = some o) (h : SqT K S a vs) : SqT K S' a vs := by
  rcases h with (h | ⟨o, h⟩) | h
  · exact .inl (.inl (k _ _ h))
  · exact .inl (.inr ⟨o, k _ _ h⟩)
  · exact .inr h
section
variable {E : En} {S S' : Hp} {ρ ρ' : List Addr}
mutual
theorem Rep.mono (i : Inc S ρ S' ρ') : ∀ {v : V} {d : D}, Rep E S ρ v d → Rep E S' ρ' v d
  | _, _, .non => .non
  | _, _, .bl b => .bl b
  | _, _, .int n => .int n
  | _, _, .str x => .str x
  | _, _, .tup h r => .tup (sqT_mono i.sub h) (Reps.mono i r)
  | _, _, .lst h r => .lst (sqL_mono i.sub h) (Reps.mono i r)
  | _, _, .ins h f r => .ins (i.sub _ _ h) f (RepF.mono i r)
  | _, _, .ref h => .ref (i.pre _ _ h)
theorem Reps.mono (i : Inc S ρ S' ρ') : ∀ {v : List V} {d : List D}, Reps E S ρ v d → Reps E S' ρ' v d
  | _, _, .nil => .nil
  | _, _, .cons h r => .cons (Rep.mono i h) (Reps.mono i r)
theorem RepF.mono (i : Inc S ρ S' ρ') : ∀ {v : List (Str × V)} {d : List (Nat × D)}, RepF E S ρ v d → RepF E S' ρ' v d
  | _, _, .nil => .nil
  | _, _, .cons n h r => .cons n (Rep.mono i h) (RepF.mono i r)
end
theorem Reps.len : ∀ {v : List V} {d : List D}, Reps E S ρ v d → v.length = d.length
  | _, _, .nil => rfl
  | _, _, .cons _ r => by simp [Reps.len r]
theorem RepF.len : ∀ {v : List (Str × V)} {d : List (Nat × D)}, RepF E S ρ v d → v.length = d.length
  | _, _, .nil => rfl
  | _, _, .cons _ _ r => by simp [RepF.len r]
theorem Reps.append : ∀ {v w : List V} {d e : List D}, Reps E S ρ v d → Reps E S ρ w e → Reps E S ρ (v ++ w) (d ++ e)
  | _, _, _, _, .nil, s => s
  | _, _, _, _, .cons h r, s => .cons h (Reps.append r s)
theorem Reps.get : ∀ {v : List V} {d : List D} {i : Nat} {x : D}, Reps E S ρ v d → d[i]? = some x → ∃ y, v[i]? = some y ∧ Rep E S ρ y x
  | _, _, _, _, .nil, e => by simp at e
  | _, _, 0, _, .cons h _, e => by simp at e; subst e; exact ⟨_, rfl, h⟩
  | _, _, i + 1, x, .cons _ r, e => by
    obtain ⟨y, h1, h2⟩ := Reps.get (i := i) (x := x) r (by simpa using e)
    exact ⟨y, by simpa using h1, h2⟩
theorem Reps.get' : ∀ {v : List V} {d : List D} {i : Nat} {y : V}, Reps E S ρ v d → v[i]? = some y → ∃ x, d[i]? = some x ∧ Rep E S ρ y x
  | _, _, _, _, .nil, e => by simp at e
  | _, _, 0, _, .cons h _, e => by simp at e; subst e; exact ⟨_, rfl, h⟩
  | _, _, i + 1, x, .cons _ r, e => by
    obtain ⟨y, h1, h2⟩ := Reps.get' (i := i) (y := x) r (by simpa using e)
    exact ⟨y, by simpa using h1, h2⟩
theorem Reps.take : ∀ {v : List V} {d : List D} (n : Nat), Reps E S ρ v d → Reps E S ρ (v.take n) (d.take n)
  | _, _, 0, _ => .nil
  | _, _, _ + 1, .nil => .nil
  | _, _, n + 1, .cons r t => .cons r (Reps.take n t)
theorem Reps.drop : ∀ {v : List V} {d : List D} (n : Nat), Reps E S ρ v d → Reps E S ρ (v.drop n) (d.drop n)
  | _, _, 0, r => r
  | _, _, _ + 1, .nil => .nil
  | _, _, n + 1, .cons _ t => Reps.drop n t
theorem Reps.reverse : ∀ {v : List V} {d : List D}, Reps E S ρ v d → Reps E S ρ v.reverse d.reverse
  | _, _, .nil => .nil
  | _, _, .cons r t => by
    rw [List.reverse_cons, List.reverse_cons]
    exact (Reps.reverse t).append (.cons r .nil)
theorem Reps.eraseIdx : ∀ {v : List V} {d : List D} (n : Nat), Reps E S ρ v d → Reps E S ρ (v.eraseIdx n) (d.eraseIdx n)
  | _, _, _, .nil => .nil
  | _, _, 0, .cons _ t => t
  | _, _, n + 1, .cons r t => .cons r (Reps.eraseIdx n t)
theorem RepF.look {fv : List (Str × V)} : ∀ {fs : List (Nat × D)} {n : Nat} {d : D}, RepF E S ρ fv fs → n < E.nat → fs.lookup n = some d → ∃ v, fv.lookup (E.at_ n) = some v ∧ Rep E S ρ v d := by
  intro fs
  induction fs generalizing fv with
  | nil => intro n d h _ e; simp at e
  | cons p r ih =>
    intro n d h hn e
    cases h with
    | cons hm hv hr =>
      rename_i m v d' fv'
      by_cases q : n = m
      · subst q
        simp at e
        subst e
        exact ⟨v, by simp, hv⟩
      · have q' : (n == m) = false := by simpa using q
        rw [List.lookup_cons, q'] at e
        obtain ⟨v', h1, h2⟩ := ih hr hn e
        refine ⟨v', ?_, h2⟩
        have q2 : (E.at_ n == E.at_ m) = false := by
          rw [beq_eq_false_iff_ne]
          exact fun z => q (E.inj _ _ hn hm z)
        rw [List.lookup_cons, q2]
        exact h1
theorem RepF.put {fv : List (Str × V)} : ∀ {fs : List (Nat × D)} {n : Nat} {d : D} {v : V}, RepF E S ρ fv fs → n < E.nat → Rep E S ρ v d → RepF E S ρ (putF (E.at_ n) v fv) (putN n d fs) := by
  intro fs
  induction fs generalizing fv with
  | nil =>
    intro n d v h hn hv
    cases h
    exact .cons hn hv .nil
  | cons p r ih =>
    intro n d v h hn hv
    cases h with
    | cons hm hv' hr =>
      rename_i m v' d' fv'
      show RepF E S ρ (if E.at_ m = E.at_ n then (E.at_ m, v) :: fv' else (E.at_ m, v') :: putF (E.at_ n) v fv') (bif m == n then (m, d) :: r else (m, d') :: putN n d r)
      by_cases q : m = n
      · subst q
        rw [if_pos rfl]
        simp only [beq_self_eq_true, cond_true]
        exact .cons hm hv hr
      · have q' : (m == n) = false := by simpa using q
        rw [if_neg (fun z => q (E.inj _ _ hm hn z)), q']
        exact .cons hm hv' (ih hr hn hv)
theorem RepF.out {fv : List (Str × V)} {fs : List (Nat × D)} {f : Str} (h : RepF E S ρ fv fs) (hf : ∀ n, n < E.nat → E.at_ n ≠ f) : fv.lookup f = none := by
  induction fs generalizing fv with
  | nil => cases h; rfl
  | cons p r ih =>
    cases h with
    | cons hm hv hr =>
      rename_i m v' d' fv'
      have q2 : (f == E.at_ m) = false := by
        rw [beq_eq_false_iff_ne]
        exact fun z => hf m hm z.symm
      rw [List.lookup_cons, q2]
      exact ih hr
end

/-- the store of the objects that change -/
def MoRel (E : En) (S : Hp) (ρ : List Addr) (H : Hp) (a : Addr) : MO → Prop
  | .lst ds => ∃ vs, H a = some (.lst vs) ∧ Reps E S ρ vs ds
  | .ins c fs => ∃ dx fv, H a = some (.ins (E.cl c) dx fv) ∧ E.fits c fs ∧ RepF E S ρ fv fs
structure Gr (E : En) (ρ : List Addr) (S : Hp) (g : List MO) (H : Hp) : Prop where
  sub : ∀ a o, S a = some o → H a = some o
  len : ρ.length = g.length
  nd : ρ.Nodup
  off : ∀ a ∈ ρ, S a = none
  ob : ∀ (n : Nat) a m, ρ[n]? = some a → g[n]? = some m → MoRel E S ρ H a m

/-- the addresses that the frame owns -/
structure Bs where
  h : Addr → Prop
  o : Addr → Prop
instance : CoeFun Bs (fun _ => Addr → Prop) := ⟨Bs.h⟩
def OwP (σ : St) (l : List SV) (a : Addr) : Prop := ∃ (i : Nat), σ[i]? = some (some (.ref a)) ∧ ((∃ ds, l[i]? = some (.own ds)) ∨ ∃ c fs, l[i]? = some (.ob c fs))
def ObP (σ : St) (l : List SV) (a : Addr) : Prop := ∃ (i : Nat), σ[i]? = some (some (.ref a)) ∧ ∃ c fs, l[i]? = some (.ob c fs)
abbrev Ow (σ : St) (l : List SV) : Bs := ⟨OwP σ l, ObP σ l⟩
structure Sl (E : En) (ρ : List Addr) (S H : Hp) (σ : St) (l : List SV) : Prop where
  len : σ.length = l.length
  v : ∀ (i : Nat) d, l[i]? = some (.v d) → ∃ v, σ[i]? = some (some v) ∧ Rep E S ρ v d
  own : ∀ (i : Nat) ds, l[i]? = some (.own ds) → ∃ a vs, σ[i]? = some (some (.ref a)) ∧ H a = some (.lst vs) ∧ Reps E S ρ vs ds ∧ S a = none ∧ a ∉ ρ
  ob : ∀ (i : Nat) c fs, l[i]? = some (.ob c fs) → ∃ a dx fv, σ[i]? = some (some (.ref a)) ∧ H a = some (.ins (E.cl c) dx fv) ∧ E.fits c fs ∧ RepF E S ρ fv fs ∧ S a = none ∧ a ∉ ρ
  dist : ∀ (i j : Nat) a, i ≠ j → ((∃ ds, l[i]? = some (.own ds)) ∨ ∃ c fs, l[i]? = some (.ob c fs)) → ((∃ ds, l[j]? = some (.own ds)) ∨ ∃ c fs, l[j]? = some (.ob c fs)) → σ[i]? = some (some (.ref a)) → σ[j]? ≠ some (some (.ref a))

/-- what may have changed: the store, what was owned -/
structure Step (ρ : List Addr) (S : Hp) (B : Bs) (H : Hp) (ρ' : List Addr) (S' : Hp) (B' : Bs) (H' : Hp) : Prop where
  inc : Inc S ρ S' ρ'
  nρ : ∀ a ∈ ρ', a ∈ ρ ∨ H a = none
  nS : ∀ a o, S' a = some o → S a = some o ∨ H a = none ∨ B a
  nB : ∀ a, B' a → B a ∨ H a = none
  fr : ∀ a o, H a = some o → a ∉ ρ → ¬ B a → H' a = some o
  dom : ∀ a, H' a = none → H a = none
  nO : ∀ a, B'.o a → B.o a
section
variable {ρ ρ1 ρ2 : List Addr} {S S1 S2 H H1 H2 : Hp} {B B1 B2 : Bs}
theorem Step.refl : Step ρ S B H ρ S B H := ⟨.refl _ _, fun _ h => .inl h, fun _ _ h => .inl h, fun _ h => .inl h, fun _ _ h _ _ => h, fun _ h => h, fun _ h => h⟩
theorem Step.trans (a : Step ρ S B H ρ1 S1 B1 H1) (b : Step ρ1 S1 B1 H1 ρ2 S2 B2 H2) : Step ρ S B H ρ2 S2 B2 H2 where
  inc := a.inc.trans b.inc
  nρ := fun x h => by
    rcases b.nρ x h with h | h
    · exact a.nρ x h
    · exact .inr (a.dom x h)
  nS := fun x o h => by
    rcases b.nS x o h with h | h | h
    · exact a.nS x o h
    · exact .inr (.inl (a.dom x h))
    · rcases a.nB x h with h | h
      · exact .inr (.inr h)
      · exact .inr (.inl h)
  nB := fun x h => by
    rcases b.nB x h with h | h
    · exact a.nB x h
    · exact .inr (a.dom x h)
  fr := fun x o h n m => b.fr x o (a.fr x o h n m) (fun z => by
    rcases a.nρ x z with z | z
    · exact n z
    · rw [h] at z; cases z) fun z => by
    rcases a.nB x z with z | z
    · exact m z
    · rw [h] at z; cases z
  dom := fun x h => a.dom x (b.dom x h)
  nO := fun x h => a.nO x (b.nO x h)
end

structure Wd (E : En) (ρ : List Addr) (S : Hp) (s : Pi.S) (σ : St) (H : Hp) : Prop where
  gr : Gr E ρ S s.g H
  sl : Sl E ρ S H σ s.l
end Pi
namespace Pi
open PySem L2

/-- what stands behind, seen from where it began -/
def Post (E : En) (W : WX) (σ : St) (ρ : List Addr) (S : Hp) (l : List SV) (H : Hp) (r : R D) (Q : VK) : Prop := match r with
  | .ok d s' => ∀ v ρ' S' H', Step ρ S (Ow σ l) H ρ' S' (Ow σ s'.l) H' → Wd E ρ' S' s' σ H' → Rep E S' ρ' v d → Q v H'
  | .ex c fs s' => ∀ ρ' S' H' x fv, Step ρ S (Ow σ l) H ρ' S' (Ow σ s'.l) H' → Wd E ρ' S' s' σ H' → S' x = some (.xd fv) → RepF E S' ρ' fv fs → W (.ref (E.cl c)) (some x) σ H'
  | .no => False
def PostA (E : En) (W : WX) (σ : St) (ρ : List Addr) (S : Hp) (l : List SV) (H : Hp) (r : R (List D)) (Q : List V → Hp → Prop) : Prop := match r with
  | .ok d s' => ∀ v ρ' S' H', Step ρ S (Ow σ l) H ρ' S' (Ow σ s'.l) H' → Wd E ρ' S' s' σ H' → Reps E S' ρ' v d → Q v H'
  | .ex c fs s' => ∀ ρ' S' H' x fv, Step ρ S (Ow σ l) H ρ' S' (Ow σ s'.l) H' → Wd E ρ' S' s' σ H' → S' x = some (.xd fv) → RepF E S' ρ' fv fs → W (.ref (E.cl c)) (some x) σ H'
  | .no => False
def tI (E : En) (W : WX) (m : Pi.S → R D) : TE := fun σ H Q => ∃ ρ S s, Wd E ρ S s σ H ∧ Post E W σ ρ S s.l H (m s) Q
def tIA (E : En) (W : WX) (m : Pi.S → R (List D)) : TA := fun σ H Q => ∃ ρ S s, Wd E ρ S s σ H ∧ PostA E W σ ρ S s.l H (m s) Q

section
variable {E : En} {W : WX} {σ : St} {ρ ρ1 : List Addr} {S S1 H H1 : Hp} {l l1 : List SV} {Q Q' : VK} {s s1 : Pi.S}
theorem Post.step {r : R D} (st : Step ρ S (Ow σ l) H ρ1 S1 (Ow σ l1) H1) (p : Post E W σ ρ S l H r Q) : Post E W σ ρ1 S1 l1 H1 r Q := by
  cases r with
  | ok d s' => exact fun v ρ' S' H' st' => p v ρ' S' H' (st.trans st')
  | ex c fs s' => exact fun ρ' S' H' x fv st' => p ρ' S' H' x fv (st.trans st')
  | no => exact p
theorem PostA.step {r : R (List D)} {Q : List V → Hp → Prop} (st : Step ρ S (Ow σ l) H ρ1 S1 (Ow σ l1) H1) (p : PostA E W σ ρ S l H r Q) : PostA E W σ ρ1 S1 l1 H1 r Q := by
  cases r with
  | ok d s' => exact fun v ρ' S' H' st' => p v ρ' S' H' (st.trans st')
  | ex c fs s' => exact fun ρ' S' H' x fv st' => p ρ' S' H' x fv (st.trans st')
  | no => exact p
theorem Post.imp {r : R D} (p : Post E W σ ρ S l H r Q) (h : ∀ v H, Q v H → Q' v H) : Post E W σ ρ S l H r Q' := by
  cases r with
  | ok d s' => exact fun v ρ' S' H' st w r => h _ _ (p v ρ' S' H' st w r)
  | ex c fs s' => exact p
  | no => exact p
/-- the place where one stands behind an expression -/
structure At (E : En) (ρ : List Addr) (S : Hp) (ρ1 : List Addr) (S1 : Hp) (s1 : Pi.S) (σ : St) (H1 : Hp) : Prop where
  inc : Inc S ρ S1 ρ1
  wd : Wd E ρ1 S1 s1 σ H1
theorem Post.bind {r : R D} {k : D → Pi.S → R D} (p : Post E W σ ρ S l H (r.bind k) Q) :
    Post E W σ ρ S l H r (fun x H1 => ∃ ρ1 S1 s1 d, At E ρ S ρ1 S1 s1 σ H1 ∧ Rep E S1 ρ1 x d ∧ Post E W σ ρ1 S1 s1.l H1 (k d s1) Q) := by
  cases r with
  | ok d s' => exact fun v ρ' S' H' st w r => ⟨ρ', S', s', d, ⟨st.inc, w⟩, r, Post.step st p⟩
  | ex c fs s' => exact p
  | no => exact p
theorem Post.bindA {r : R (List D)} {k : List D → Pi.S → R D} (p : Post E W σ ρ S l H (r.bind k) Q) :
    PostA E W σ ρ S l H r (fun x H1 => ∃ ρ1 S1 s1 d, At E ρ S ρ1 S1 s1 σ H1 ∧ Reps E S1 ρ1 x d ∧ Post E W σ ρ1 S1 s1.l H1 (k d s1) Q) := by
  cases r with
  | ok d s' => exact fun v ρ' S' H' st w r => ⟨ρ', S', s', d, ⟨st.inc, w⟩, r, Post.step st p⟩
  | ex c fs s' => exact p
  | no => exact p
theorem PostA.bind {r : R D} {k : D → Pi.S → R (List D)} {Q : List V → Hp → Prop} (p : PostA E W σ ρ S l H (r.bind k) Q) :
    Post E W σ ρ S l H r (fun x H1 => ∃ ρ1 S1 s1 d, At E ρ S ρ1 S1 s1 σ H1 ∧ Rep E S1 ρ1 x d ∧ PostA E W σ ρ1 S1 s1.l H1 (k d s1) Q) := by
  cases r with
  | ok d s' => exact fun v ρ' S' H' st w r => ⟨ρ', S', s', d, ⟨st.inc, w⟩, r, PostA.step st p⟩
  | ex c fs s' => exact p
  | no => exact p
theorem PostA.bindA {r : R (List D)} {k : List D → Pi.S → R (List D)} {Q : List V → Hp → Prop} (p : PostA E W σ ρ S l H (r.bind k) Q) :
    PostA E W σ ρ S l H r (fun x H1 => ∃ ρ1 S1 s1 d, At E ρ S ρ1 S1 s1 σ H1 ∧ Reps E S1 ρ1 x d ∧ PostA E W σ ρ1 S1 s1.l H1 (k d s1) Q) := by
  cases r with
  | ok d s' => exact fun v ρ' S' H' st w r => ⟨ρ', S', s', d, ⟨st.inc, w⟩, r, PostA.step st p⟩
  | ex c fs s' => exact p
  | no => exact p
/-- nothing changed -/
theorem Post.here {d : D} {v : V} (w : Wd E ρ S s σ H) (r : Rep E S ρ v d) (p : Post E W σ ρ S s.l H (.ok d s) Q) : Q v H := p v ρ S H Step.refl w r
theorem PostA.here {d : List D} {v : List V} {Q : List V → Hp → Prop} (w : Wd E ρ S s σ H) (r : Reps E S ρ v d) (p : PostA E W σ ρ S s.l H (.ok d s) Q) : Q v H := p v ρ S H Step.refl w r

/-! ### a new object -/
theorem Inc.new {o : HO} {p : Addr} (hp : S p = none) : Inc S ρ (upd S p o) ρ := ⟨fun a u e => by rw [upd_ne (ne_of_none e hp)]; exact e, fun _ _ h => h⟩
theorem Gr.tracked (w : Gr E ρ S s.g H) {n : Nat} {a : Addr} (h : ρ[n]? = some a) : ∃ o, H a = some o := by
  have hl : n < s.g.length := by rw [← w.len]; exact (List.getElem?_eq_some_iff.mp h).1
  have := w.ob n a _ h (List.getElem?_eq_getElem hl)
  cases hm : s.g[n] with
  | lst ds => rw [hm] at this; obtain ⟨vs, e, _⟩ := this; exact ⟨_, e⟩
  | ins c fs => rw [hm] at this; obtain ⟨dx, fv, e, _⟩ := this; exact ⟨_, e⟩
theorem Gr.mem_tracked (w : Gr E ρ S s.g H) {a : Addr} (h : a ∈ ρ) : ∃ o, H a = some o := by
  obtain ⟨n, hn⟩ := List.mem_iff_getElem?.mp h
  exact w.tracked hn
theorem Gr.fresh (w : Gr E ρ S s.g H) {p : Addr} (hp : H p = none) : S p = none ∧ p ∉ ρ := by
  refine ⟨?_, fun z => ?_⟩
  · cases e : S p with
    | none => rfl
    | some o => rw [w.sub _ _ e] at hp; cases hp
  · obtain ⟨o, e⟩ := w.mem_tracked z
    rw [hp] at e; cases e
theorem MoRel.mono {m : MO} {a : Addr} (i : Inc S ρ S1 ρ1) (k : ∀ o, H a = some o → H1 a = some o) (h : MoRel E S ρ H a m) : MoRel E S1 ρ1 H1 a m := by
  cases m with
  | lst ds => obtain ⟨vs, e, r⟩ := h; exact ⟨vs, k _ e, r.mono i⟩
  | ins c fs => obtain ⟨dx, fv, e, f, r⟩ := h; exact ⟨dx, fv, k _ e, f, r.mono i⟩
theorem Gr.new (w : Gr E ρ S s.g H) {p : Addr} {o : HO} (hp : H p = none) : Gr E ρ (upd S p o) s.g (upd H p o) := by
  obtain ⟨h1, h2⟩ := w.fresh hp
  refine ⟨fun a u e => ?_, w.len, w.nd, fun a ha => ?_, fun n a m e1 e2 => ?_⟩
  · by_cases q : a = p
    · subst q; rw [upd_same] at e; rw [upd_same]; exact e
    · rw [upd_ne q] at e; rw [upd_ne q]; exact w.sub _ _ e
  · rw [upd_ne (show a ≠ p from fun z => h2 (z ▸ ha))]; exact w.off a ha
  · have hm : a ∈ ρ := List.mem_iff_getElem?.mpr ⟨n, e1⟩
    exact (w.ob n a m e1 e2).mono (.new h1) fun u q => by rw [upd_ne (show a ≠ p from fun z => h2 (z ▸ hm))]; exact q
theorem Sl.keep (w : Sl E ρ S H σ l) (i : Inc S ρ S1 ρ1) (k : ∀ a, Ow σ l a → ∀ o, H a = some o → H1 a = some o) (k2 : ∀ a, Ow σ l a → H a ≠ none → S a = none → S1 a = none) (k3 : ∀ a, Ow σ l a → H a ≠ none → a ∉ ρ → a ∉ ρ1) : Sl E ρ1 S1 H1 σ l := by
  refine ⟨w.len, fun j d e => ?_, fun j ds e => ?_, fun j c fs e => ?_, w.dist⟩
  · obtain ⟨v, h1, h2⟩ := w.v j d e
    exact ⟨v, h1, h2.mono i⟩
  · obtain ⟨a, vs, h1, h2, h3, h4, h5⟩ := w.own j ds e
    have o : Ow σ l a := ⟨j, h1, .inl ⟨ds, e⟩⟩
    have ne : H a ≠ none := by rw [h2]; exact fun z => nomatch z
    exact ⟨a, vs, h1, k a o _ h2, h3.mono i, k2 a o ne h4, k3 a o ne h5⟩
  · obtain ⟨a, dx, fv, h1, h2, hf, h3, h4, h5⟩ := w.ob j c fs e
    have o : Ow σ l a := ⟨j, h1, .inr ⟨c, fs, e⟩⟩
    have ne : H a ≠ none := by rw [h2]; exact fun z => nomatch z
    exact ⟨a, dx, fv, h1, k a o _ h2, hf, h3.mono i, k2 a o ne h4, k3 a o ne h5⟩
theorem Wd.new (w : Wd E ρ S s σ H) {p : Addr} {o : HO} (hp : H p = none) : Wd E ρ (upd S p o) s σ (upd H p o) := by
  obtain ⟨h1, h2⟩ := w.gr.fresh hp
  refine ⟨w.gr.new hp, w.sl.keep (.new h1) (fun a _ u e => by rw [upd_ne (ne_of_none e hp)]; exact e) (fun a _ ne e => ?_) fun _ _ _ h => h⟩
  rw [upd_ne (show a ≠ p from fun z => ne (z ▸ hp))]; exact e
theorem Step.new {B : Bs} (w : Gr E ρ S s.g H) {p : Addr} {o : HO} (hp : H p = none) : Step ρ S B H ρ (upd S p o) B (upd H p o) := by
  obtain ⟨h1, h2⟩ := w.fresh hp
  refine ⟨.new h1, fun _ h => .inl h, fun a u e => ?_, fun _ h => .inl h, fun a u e _ _ => by rw [upd_ne (ne_of_none e hp)]; exact e, fun a e => ?_, fun _ h => h⟩
  · by_cases q : a = p
    · subst q; exact .inr (.inl hp)
    · rw [upd_ne q] at e; exact .inl e
  · by_cases q : a = p
    · subst q; exact hp
    · rw [upd_ne q] at e; exact e

/-! ### operands -/
inductive Opd (E : En) (S : Hp) (ρ : List Addr) (H : Hp) : V → D → Prop
  | rep {v : V} {d : D} : Rep E S ρ v d → Opd E S ρ H v d
  | cell {a : Addr} {vs : List V} {ds : List D} : H a = some (.lst vs) → Reps E S ρ vs ds → Opd E S ρ H (.ref a) (.lst ds)
theorem Opd.view (w : Gr E ρ S s.g H) {v : V} {d : D} (r : Rep E S ρ v d) : Opd E S ρ H v (view s.g d) := by
  cases r with
  | ref h =>
    rename_i a n
    show Opd E S ρ H (.ref a) (match s.g[n]? with
      | some (.lst ds) => .lst ds
      | _ => .ref n)
    split
    · rename_i ds e
      obtain ⟨vs, h1, h2⟩ := w.ob n a _ h e
      exact .cell h1 h2
    · exact .rep (.ref h)
  | non => exact .rep .non
  | bl b => exact .rep (.bl b)
  | int b => exact .rep (.int b)
  | str b => exact .rep (.str b)
  | tup a b => exact .rep (.tup a b)
  | lst a b => exact .rep (.lst a b)
  | ins a b c => exact .rep (.ins a b c)
theorem Opd.lst {v : V} {ds : List D} (w : Gr E ρ S s.g H) (h : Opd E S ρ H v (.lst ds)) : ∃ a vs, v = .ref a ∧ SqL E.K H a vs ∧ Reps E S ρ vs ds := by
  cases h with
  | rep r => cases r with | lst h r => exact ⟨_, _, rfl, sqL_mono w.sub h, r⟩
  | cell h r => exact ⟨_, _, rfl, SqL.of h, r⟩
theorem Opd.tup {v : V} {ds : List D} (w : Gr E ρ S s.g H) (h : Opd E S ρ H v (.tup ds)) : ∃ a vs, v = .ref a ∧ SqT E.K H a vs ∧ Reps E S ρ vs ds := by
  cases h with
  | rep r => cases r with | tup h r => exact ⟨_, _, rfl, sqT_mono w.sub h, r⟩
theorem Opd.int {v : V} {i : Int} (h : Opd E S ρ H v (.int i)) : v = .int i := by
  cases h with | rep r => cases r; rfl
theorem Opd.bl {v : V} {i : Bool} (h : Opd E S ρ H v (.bl i)) : v = .bl i := by
  cases h with | rep r => cases r; rfl
theorem Opd.str {v : V} {i : Str} (h : Opd E S ρ H v (.str i)) : v = .str i := by
  cases h with | rep r => cases r; rfl
theorem Opd.non {v : V} (h : Opd E S ρ H v .non) : v = .non := by
  cases h with | rep r => cases r; rfl
/-- a value is handed on: it stands already, or it is a new list, a new tuple -/
structure Give (E : En) (S : Hp) (ρ : List Addr) (H : Hp) (d : D) (Q : VK) : Prop where
  old : ∀ v, Rep E S ρ v d → Q v H
  lst : ∀ p vs ds, d = .lst ds → Reps E S ρ vs ds → H p = none → Q (.ref p) (upd H p (.lst vs))
  tup : ∀ p vs ds, d = .tup ds → Reps E S ρ vs ds → H p = none → Q (.ref p) (upd H p (.tup vs))
theorem Post.give {d : D} (w : Wd E ρ S s σ H) (p : Post E W σ ρ S s.l H (.ok d s) Q) : Give E S ρ H d Q := by
  refine ⟨fun v r => p.here w r, fun q vs ds e r hq => ?_, fun q vs ds e r hq => ?_⟩
  · subst e
    exact p _ ρ _ _ (Step.new w.gr hq) (w.new hq) (.lst (SqL.of upd_same) (r.mono (.new (w.gr.fresh hq).1)))
  · subst e
    exact p _ ρ _ _ (Step.new w.gr hq) (w.new hq) (.tup (SqT.of upd_same) (r.mono (.new (w.gr.fresh hq).1)))
theorem Post.of {x : Option D} (p : Post E W σ ρ S l H (R.of x s) Q) : ∃ d, x = some d ∧ Post E W σ ρ S l H (.ok d s) Q := by
  cases x with
  | none => exact False.elim p
  | some d => exact ⟨d, rfl, p⟩
end
end Pi
namespace Pi
open PySem L2

theorem le_line {n : Nat} (h : n ≤ big) : n ≤ sizeLine := Nat.le_trans h (by decide)
theorem lt_line {n : Nat} (h : n < big) : n < sizeLine := Nat.lt_of_lt_of_le h (by decide)
theorem pe_le {X : Cx} {e : Expr} {t t' : TE} (h : PE X e t) (k : ∀ σ H Q, t' σ H Q → t σ H Q) : PE X e t' := ⟨fun pins s σ H Q I w => h.run pins s σ H Q I (k σ H Q w)⟩
theorem pt_le {X : Cx} {e : Expr} {t t' : TT} (h : PT X e t) (k : ∀ σ H Q, t' σ H Q → t σ H Q) : PT X e t' := ⟨fun pins s σ H Q I w => h.run pins s σ H Q I (k σ H Q w)⟩
theorem pw_le {X : Cx} {e : Expr} {t t' : TT} (h : PW X e t) (k : ∀ σ H Q, t' σ H Q → t σ H Q) : PW X e t' := ⟨fun wh pins s σ H Q I w => h.run wh pins s σ H Q I (k σ H Q w)⟩
theorem pa_le {X : Cx} {e : List Expr} {t t' : TA} (h : PA X e t) (k : ∀ σ H Q, t' σ H Q → t σ H Q) : PA X e t' := ⟨fun p pins s σ H Q I w => h.run p pins s σ H Q I (k σ H Q w)⟩
theorem po_le {X : Cx} {e : Option Expr} {t t' : TO} (h : PO X e t) (k : ∀ σ H Q, t' σ H Q → t σ H Q) : PO X e t' := ⟨fun pins s σ H Q I w => h.run pins s σ H Q I (k σ H Q w)⟩

/-- what the derivations speak of -/
structure Cn where
  E : En
  o : O
  W : WX
abbrev PEI (c : Cn) (X : Cx) (e : Expr) (t : T) : Prop := PE X e (tI c.E c.W (ev c.o t))
abbrev PTI (c : Cn) (X : Cx) (e : Expr) (t : T) : Prop := PT X e (tB (tI c.E c.W (ev c.o t)))
abbrev PWI (c : Cn) (X : Cx) (e : Expr) (t : T) : Prop := PW X e (tB (tI c.E c.W (ev c.o t)))
abbrev PAI (c : Cn) (X : Cx) (e : List Expr) (t : T) : Prop := PA X e (tIA c.E c.W (evA c.o t))

section
variable {c : Cn} {X : Cx} {e a b d : Expr} {ta tb td : T} {pos : Pos}

/-! ### names, constants -/
theorem pi_v (i : Nat) {x : Str} {pos : Pos} (hN : X.N[i]? = some x := by rfl) (hv : Vis X.env.scope x := by first | exact Or.inl rfl | exact Or.inr (Or.inl rfl) | exact Or.inr (Or.inr rfl)) (hd : (x == ("__debug__" : Str)) = false := by decide)
    (hcd : (x == ("__classdict__" : Str)) = false := by decide) : PEI c X (.Name x pos) (.v i) :=
  pe_le (pe_var hN hv hd hcd) fun σ H Q h => by
    obtain ⟨ρ, S, s, w, p⟩ := h
    unfold ev at p
    split at p
    · rename_i d e
      obtain ⟨v, h1, h2⟩ := w.sl.v i d e
      exact ⟨v, h1, p.here w h2⟩
    · exact p.elim
theorem pi_c {x : D} {v : V} (h : PE X e (tC v)) (hr : ∀ S ρ, Rep c.E S ρ v x) : PEI c X e (.c x) :=
  pe_le h fun σ H Q h => by
    obtain ⟨ρ, S, s, w, p⟩ := h
    exact Post.here w (hr _ _) p
theorem pi_int {i : Int} {j pos} : PEI c X (.Constant (.int i) j pos) (.c (.int i)) := pi_c pe_int fun _ _ => .int i
theorem pi_bl {i : Bool} {j pos} : PEI c X (.Constant (.bool i) j pos) (.c (.bl i)) := pi_c pe_bl fun _ _ => .bl i
theorem pi_str {i : Str} {j pos} : PEI c X (.Constant (.str i) j pos) (.c (.str i)) := pi_c pe_str fun _ _ => .str i
theorem pi_non {j pos} : PEI c X (.Constant .none j pos) (.c .non) := pi_c pe_non fun _ _ => .non
/-- a constant of the module -/
theorem pi_gl {x : Str} {v : V} {u : Value} {z : D} {pos : Pos} (hg : Gl X x) (hm : X.mg x = some u) (r : RelV v u) (hr : ∀ S ρ, Rep c.E S ρ v z) (hd : (x == ("__debug__" : Str)) = false := by decide) : PEI c X (.Name x pos) (.gl z) :=
  pe_le (pe_glob hg hm r hd) fun σ H Q h => by
    obtain ⟨ρ, S, s, w, p⟩ := h
    exact Post.here w (hr _ _) p

/-! ### operators -/
def rOp (E : En) (k : Op) : R2 := fun x y H Q => ∃ ρ S g d1 d2 z, Gr E ρ S g H ∧ Opd E S ρ H x d1 ∧ Opd E S ρ H y d2 ∧ op2V k d1 d2 = some z ∧ Give E S ρ H z Q
theorem op2_le {k : Op} {σ : St} {H : Hp} {Q : VK} (h : tI c.E c.W (ev c.o (.op2 k ta tb)) σ H Q) : tOp (rOp c.E k) (tI c.E c.W (ev c.o ta)) (tI c.E c.W (ev c.o tb)) σ H Q := by
  obtain ⟨ρ, S, s, w, p⟩ := h
  refine ⟨ρ, S, s, w, (Post.bind p).imp ?_⟩
  rintro x H1 ⟨ρ1, S1, s1, d1, a1, r1, p1⟩
  refine ⟨ρ1, S1, s1, a1.wd, (Post.bind p1).imp ?_⟩
  rintro y H2 ⟨ρ2, S2, s2, d2, a2, r2, p2⟩
  obtain ⟨z, e, p3⟩ := Post.of p2
  exact ⟨ρ2, S2, s2.g, _, _, z, a2.wd.gr, Opd.view (s := s2) a2.wd.gr (r1.mono a2.inc), Opd.view (s := s2) a2.wd.gr r2, e, Post.give a2.wd p3⟩
theorem pi_bin {op : Operator} {k : Op} (ho : OpR X (binaryOp op) (rOp c.E k)) (ha : PEI c X a ta) (hb : PEI c X b tb) : PEI c X (.BinOp a op b pos) (.op2 k ta tb) :=
  pe_le (pe_op ho ha hb) fun _ _ _ => op2_le
theorem pi_cmp {op : CmpOp} {k : Op} (ho : OpR X (compareOp op) (rOp c.E k)) (ha : PEI c X a ta) (hb : PEI c X b tb) (hm : behindInMarks op b = false) : PEI c X (.Compare a [op] [b] pos) (.op2 k ta tb) :=
  pe_le (pe_cmpR ho ha hb hm) fun _ _ _ => op2_le
theorem pit_cmp {op : CmpOp} {k : Op} (ho : OpR X (compareOp op) (rOp c.E k)) (ha : PEI c X a ta) (hb : PEI c X b tb) (hm : behindInMarks op b = false) : PTI c X (.Compare a [op] [b] pos) (.op2 k ta tb) :=
  pt_le (pt_cmpR ho ha hb hm) fun _ _ _ => op2_le
theorem ch_le {k k' : Op} {σ : St} {H : Hp} {Q : VK} (h : tI c.E c.W (ev c.o (.ch k k' ta tb td)) σ H Q) : tChain (rOp c.E k) (rOp c.E k') (tI c.E c.W (ev c.o ta)) (tI c.E c.W (ev c.o tb)) (tI c.E c.W (ev c.o td)) σ H Q := by
  obtain ⟨ρ, S, s, w, p⟩ := h
  refine ⟨ρ, S, s, w, (Post.bind p).imp ?_⟩
  rintro x H1 ⟨ρ1, S1, s1, d1, a1, r1, p1⟩
  refine ⟨ρ1, S1, s1, a1.wd, (Post.bind p1).imp ?_⟩
  rintro y H2 ⟨ρ2, S2, s2, d2, a2, r2, p2⟩
  split at p2
  · rename_i e
    refine ⟨ρ2, S2, s2.g, _, _, .bl true, a2.wd.gr, Opd.view (s := s2) a2.wd.gr (r1.mono a2.inc), Opd.view (s := s2) a2.wd.gr r2, e, ⟨fun v r => ?_, fun _ _ _ z => (nomatch z), fun _ _ _ z => (nomatch z)⟩⟩
    cases r
    refine ⟨true, rfl, ?_⟩
    rw [if_pos rfl]
    refine ⟨ρ2, S2, s2, a2.wd, (Post.bind p2).imp ?_⟩
    rintro z H3 ⟨ρ3, S3, s3, d3, a3, r3, p3⟩
    obtain ⟨z', e', p4⟩ := Post.of p3
    exact ⟨ρ3, S3, s3.g, _, _, z', a3.wd.gr, Opd.view (s := s3) a3.wd.gr (r2.mono a3.inc), Opd.view (s := s3) a3.wd.gr r3, e', Post.give a3.wd p4⟩
  · rename_i e
    refine ⟨ρ2, S2, s2.g, _, _, .bl false, a2.wd.gr, Opd.view (s := s2) a2.wd.gr (r1.mono a2.inc), Opd.view (s := s2) a2.wd.gr r2, e, ⟨fun v r => ?_, fun _ _ _ z => (nomatch z), fun _ _ _ z => (nomatch z)⟩⟩
    cases r
    refine ⟨false, rfl, ?_⟩
    rw [if_neg Bool.false_ne_true]
    exact Post.here a2.wd (.bl false) p2
  · exact p2.elim
end

/-! ### what the operators do -/
section
variable {X : Cx} {E : En}
theorem opi_add : OpR X (binaryOp .Add) (rOp E .add) := by
  intro pins s σ H x y v u Q I rx ry h
  obtain ⟨ρ, S, g, d1, d2, z, w, h1, h2, e, gv⟩ := h
  cases d1 <;> cases d2 <;> first
    | (cases (show (none : Option D) = some z from e); done)
    | skip
  · cases h1.int
    cases h2.int
    cases e
    exact op_add pins s σ H _ _ v u Q I rx ry ⟨_, _, rfl, rfl, gv.old _ (.int _)⟩
  · cases h1.str
    cases h2.str
    rename_i i j
    cases hb : decide (i.length + j.length ≤ big) with
    | true =>
      have e' : (bif decide (i.length + j.length ≤ big) then some (D.str (i ++ j)) else none) = some z := e
      rw [hb] at e'
      cases e'
      exact op_add_str pins s σ H _ _ v u Q I rx ry ⟨_, _, rfl, rfl, le_line (of_decide_eq_true hb), gv.old _ (.str _)⟩
    | false =>
      have e' : (bif decide (i.length + j.length ≤ big) then some (D.str (i ++ j)) else none) = some z := e
      rw [hb] at e'
      cases e'
theorem i2V_inv {f : Int → Int → Option D} {a b : D} {z : D} (h : i2V f a b = some z) : ∃ i j, a = .int i ∧ b = .int j ∧ f i j = some z := by
  cases a <;> cases b <;> first
    | (cases (show (none : Option D) = some z from h); done)
    | exact ⟨_, _, rfl, rfl, h⟩
theorem bif_inv {α : Type} {b : Bool} {x z : α} (h : (bif b then some x else none) = some z) : b = true ∧ x = z := by
  cases b with
  | true => exact ⟨rfl, by cases h; rfl⟩
  | false => cases h
theorem opi_i2 {f : Value → Value → Sem Value} {C : Int → Int → Prop} {g : Int → Int → V} {k : Op} (ho : OpR X f (L2.rI C g))
    (hk : ∀ a b z, op2V k a b = some z → ∃ i j, a = .int i ∧ b = .int j ∧ C i j ∧ ∀ S ρ, Rep E S ρ (g i j) z) : OpR X f (rOp E k) := by
  intro pins s σ H x y v u Q I rx ry h
  obtain ⟨ρ, S, m, d1, d2, z, w, h1, h2, e, gv⟩ := h
  obtain ⟨i, j, rfl, rfl, hc, hr⟩ := hk _ _ _ e
  cases h1.int
  cases h2.int
  exact ho pins s σ H _ _ v u Q I rx ry ⟨i, j, rfl, rfl, hc, gv.old _ (hr _ _)⟩
theorem opi_i20 {f : Value → Value → Sem Value} {g : Int → Int → V} {k : Op} (ho : OpR X f (rI0 g))
    (hk : ∀ a b z, op2V k a b = some z → ∃ i j, a = .int i ∧ b = .int j ∧ ∀ S ρ, Rep E S ρ (g i j) z) : OpR X f (rOp E k) := by
  intro pins s σ H x y v u Q I rx ry h
  obtain ⟨ρ, S, m, d1, d2, z, w, h1, h2, e, gv⟩ := h
  obtain ⟨i, j, rfl, rfl, hr⟩ := hk _ _ _ e
  cases h1.int
  cases h2.int
  exact ho pins s σ H _ _ v u Q I rx ry ⟨i, j, rfl, rfl, gv.old _ (hr _ _)⟩
theorem opi_sub : OpR X (binaryOp .Sub) (rOp E .sub) := opi_i20 op_sub fun a b z h => by
  obtain ⟨i, j, rfl, rfl, h⟩ := i2V_inv h
  cases h
  exact ⟨i, j, rfl, rfl, fun _ _ => .int _⟩
theorem opi_lt : OpR X (compareOp .Lt) (rOp E .lt) := opi_i20 op_lt fun a b z h => by
  obtain ⟨i, j, rfl, rfl, h⟩ := i2V_inv h
  cases h
  exact ⟨i, j, rfl, rfl, fun _ _ => .bl _⟩
theorem opi_le : OpR X (compareOp .LtE) (rOp E .le) := opi_i20 op_le fun a b z h => by
  obtain ⟨i, j, rfl, rfl, h⟩ := i2V_inv h
  cases h
  exact ⟨i, j, rfl, rfl, fun _ _ => .bl _⟩
theorem opi_gt : OpR X (compareOp .Gt) (rOp E .gt) := opi_i20 op_gt fun a b z h => by
  obtain ⟨i, j, rfl, rfl, h⟩ := i2V_inv h
  cases h
  exact ⟨i, j, rfl, rfl, fun _ _ => .bl _⟩
theorem opi_ge : OpR X (compareOp .GtE) (rOp E .ge) := opi_i20 op_ge fun a b z h => by
  obtain ⟨i, j, rfl, rfl, h⟩ := i2V_inv h
  cases h
  exact ⟨i, j, rfl, rfl, fun _ _ => .bl _⟩
theorem small64_ok {i : Int} (h : small64 i = true) : -(2 ^ 64) < i ∧ i < 2 ^ 64 := by
  unfold small64 at h
  rw [Bool.and_eq_true] at h
  exact ⟨of_decide_eq_true h.1, of_decide_eq_true h.2⟩
theorem opi_mulL : OpR X (binaryOp .Mult) (rOp E .mulL) := opi_i2 op_mul fun a b z h => by
  obtain ⟨i, j, rfl, rfl, h⟩ := i2V_inv h
  obtain ⟨h1, rfl⟩ := bif_inv h
  exact ⟨i, j, rfl, rfl, .inl (small64_ok h1), fun _ _ => .int _⟩
theorem opi_mulR : OpR X (binaryOp .Mult) (rOp E .mulR) := opi_i2 op_mul fun a b z h => by
  obtain ⟨i, j, rfl, rfl, h⟩ := i2V_inv h
  obtain ⟨h1, rfl⟩ := bif_inv h
  exact ⟨i, j, rfl, rfl, .inr (small64_ok h1), fun _ _ => .int _⟩
theorem opi_fdiv : OpR X (binaryOp .FloorDiv) (rOp E .fdiv) := opi_i2 op_fdiv fun a b z h => by
  obtain ⟨i, j, rfl, rfl, h⟩ := i2V_inv h
  obtain ⟨h1, rfl⟩ := bif_inv h
  rw [Bool.and_eq_true] at h1
  exact ⟨i, j, rfl, rfl, ⟨of_decide_eq_true h1.1, of_decide_eq_true h1.2⟩, fun _ _ => .int _⟩
theorem opi_mod : OpR X (binaryOp .Mod) (rOp E .mod) := opi_i2 op_mod fun a b z h => by
  obtain ⟨i, j, rfl, rfl, h⟩ := i2V_inv h
  obtain ⟨h1, rfl⟩ := bif_inv h
  exact ⟨i, j, rfl, rfl, of_decide_eq_true h1, fun _ _ => .int _⟩
theorem opi_pow : OpR X (binaryOp .Pow) (rOp E .pow) := opi_i2 op_pow fun a b z h => by
  obtain ⟨i, j, rfl, rfl, h⟩ := i2V_inv h
  obtain ⟨h1, rfl⟩ := bif_inv h
  rw [Bool.and_eq_true, Bool.and_eq_true] at h1
  exact ⟨i, j, rfl, rfl, ⟨of_decide_eq_true h1.1.1, of_decide_eq_true h1.1.2, of_decide_eq_true h1.2⟩, fun _ _ => .int _⟩

/-! equality -/
section
variable {S H : Hp} {ρ : List Addr}
mutual
theorem Rep.dp (hs : ∀ a o, S a = some o → H a = some o) : ∀ {v : V} {d : D} {p : PyData}, Rep E S ρ v d → toPy d = some p → Dp E.K H v p
  | _, _, _, .non, h => by cases h; exact .non
  | _, _, _, .bl b, h => by cases h; exact .bl b
  | _, _, _, .int i, h => by cases h; exact .int i
  | _, _, _, .str i, h => by cases h; exact .str i
  | _, .tup ds, p, .tup h r, e => by
    unfold toPy at e
    cases q : toPys ds with
    | none => rw [q] at e; cases e
    | some ps => rw [q] at e; cases e; exact .tup (sqT_mono hs h) (Reps.dp hs r q)
  | _, .lst ds, p, .lst h r, e => by
    unfold toPy at e
    cases q : toPys ds with
    | none => rw [q] at e; cases e
    | some ps => rw [q] at e; cases e; exact .lst (sqL_mono hs h) (Reps.dp hs r q)
  | _, _, _, .ins _ _ _, e => by cases e
  | _, _, _, .ref _, e => by cases e
theorem Reps.dp (hs : ∀ a o, S a = some o → H a = some o) : ∀ {v : List V} {d : List D} {p : List PyData}, Reps E S ρ v d → toPys d = some p → DpAll E.K H v p
  | _, _, _, .nil, h => by cases h; exact .nil
  | _, d :: ds, p, .cons h r, e => by
    unfold toPys at e
    split at e
    · rename_i x xs e1 e2
      cases e
      exact .cons (Rep.dp hs h e1) (Reps.dp hs r e2)
    · cases e
end
theorem Opd.dp {g : List MO} (w : Gr E ρ S g H) {v : V} {d : D} {p : PyData} (h : Opd E S ρ H v d) (e : toPy d = some p) : Dp E.K H v p := by
  cases h with
  | rep r => exact r.dp w.sub e
  | cell h r =>
    unfold toPy at e
    rename_i a vs ds
    cases q : toPys ds with
    | none => rw [q] at e; cases e
    | some ps => rw [q] at e; cases e; exact .lst (SqL.of h) (Reps.dp w.sub r q)
end
theorem deq_inv {a b : D} {k : Bool} (h : deq a b = some k) : ∃ p q, toPy a = some p ∧ toPy b = some q ∧ SeqAt.shaped p = true ∧ SeqAt.shaped q = true ∧ k = PyData.eqv p q := by
  unfold deq at h
  split at h
  · rename_i x y e1 e2
    cases hb : SeqAt.shaped x && SeqAt.shaped y with
    | true =>
      rw [hb] at h
      cases h
      rw [Bool.and_eq_true] at hb
      exact ⟨x, y, e1, e2, hb.1, hb.2, rfl⟩
    | false => rw [hb] at h; cases h
  · cases h
theorem map_inv {α β : Type} {x : Option α} {f : α → β} {z : β} (h : x.map f = some z) : ∃ a, x = some a ∧ f a = z := by
  cases x with
  | none => cases h
  | some a => cases h; exact ⟨a, rfl, rfl⟩
theorem eqV_inv {a b : D} {k : Bool} (h : eqV a b = some k) : (∃ i j, a = .int i ∧ b = .int j ∧ k = decide (i = j)) ∨ (∃ i j, a = .str i ∧ b = .str j ∧ k = decide (i = j)) ∨ (∃ i j, a = .bl i ∧ b = .bl j ∧ k = decide (i = j)) ∨ deq a b = some k := by
  unfold eqV at h
  split at h
  · cases h; exact .inl ⟨_, _, rfl, rfl, rfl⟩
  · cases h; exact .inr (.inl ⟨_, _, rfl, rfl, rfl⟩)
  · cases h; exact .inr (.inr (.inl ⟨_, _, rfl, rfl, rfl⟩))
  · exact .inr (.inr (.inr h))
theorem dec_congr {p q : Prop} [Decidable p] [Decidable q] (h : p ↔ q) : decide p = decide q := by
  by_cases z : p
  · rw [decide_eq_true z, decide_eq_true (h.mp z)]
  · rw [decide_eq_false z, decide_eq_false (fun y => z (h.mpr y))]
theorem opi_eq (hK : X.K = E.K) (hu : X.A.units + 64 < cLine) : OpR X (compareOp .Eq) (rOp E .eq) := by
  intro pins s σ H x y v u Q I rx ry h
  obtain ⟨ρ, S, g, d1, d2, z, w, h1, h2, e, gv⟩ := h
  obtain ⟨k, e1, rfl⟩ := map_inv (show (eqV d1 d2).map D.bl = some z from e)
  rcases eqV_inv e1 with ⟨i, j, rfl, rfl, rfl⟩ | ⟨i, j, rfl, rfl, rfl⟩ | ⟨i, j, rfl, rfl, rfl⟩ | q
  · cases h1.int
    cases h2.int
    exact op_eq pins s σ H _ _ v u Q I rx ry ⟨rfl, gv.old _ (by rw [dec_congr (q := i = j) ⟨fun z => V.int.inj z, fun z => by rw [z]⟩]; exact .bl _)⟩
  · cases h1.str
    cases h2.str
    exact op_eq pins s σ H _ _ v u Q I rx ry ⟨rfl, gv.old _ (by rw [dec_congr (q := i = j) ⟨fun z => V.str.inj z, fun z => by rw [z]⟩]; exact .bl _)⟩
  · cases h1.bl
    cases h2.bl
    exact op_eq pins s σ H _ _ v u Q I rx ry ⟨rfl, gv.old _ (by rw [dec_congr (q := i = j) ⟨fun z => V.bl.inj z, fun z => by rw [z]⟩]; exact .bl _)⟩
  · obtain ⟨p, q', e2, e3, s1, s2, rfl⟩ := deq_inv q
    exact op_eqD hu pins s σ H _ _ v u Q I rx ry ⟨p, q', hK ▸ h1.dp w e2, hK ▸ h2.dp w e3, s1, s2, gv.old _ (.bl _)⟩
theorem opi_ne (hK : X.K = E.K) (hu : X.A.units + 64 < cLine) : OpR X (compareOp .NotEq) (rOp E .ne) := by
  intro pins s σ H x y v u Q I rx ry h
  obtain ⟨ρ, S, g, d1, d2, z, w, h1, h2, e, gv⟩ := h
  obtain ⟨k, e1, rfl⟩ := map_inv (show (eqV d1 d2).map (fun k => D.bl !k) = some z from e)
  rcases eqV_inv e1 with ⟨i, j, rfl, rfl, rfl⟩ | ⟨i, j, rfl, rfl, rfl⟩ | ⟨i, j, rfl, rfl, rfl⟩ | q
  · cases h1.int
    cases h2.int
    exact op_ne pins s σ H _ _ v u Q I rx ry ⟨rfl, gv.old _ (by rw [dec_congr (q := i = j) ⟨fun z => V.int.inj z, fun z => by rw [z]⟩]; exact .bl _)⟩
  · cases h1.str
    cases h2.str
    exact op_ne pins s σ H _ _ v u Q I rx ry ⟨rfl, gv.old _ (by rw [dec_congr (q := i = j) ⟨fun z => V.str.inj z, fun z => by rw [z]⟩]; exact .bl _)⟩
  · cases h1.bl
    cases h2.bl
    exact op_ne pins s σ H _ _ v u Q I rx ry ⟨rfl, gv.old _ (by rw [dec_congr (q := i = j) ⟨fun z => V.bl.inj z, fun z => by rw [z]⟩]; exact .bl _)⟩
  · obtain ⟨p, q', e2, e3, s1, s2, rfl⟩ := deq_inv q
    exact op_neD hu pins s σ H _ _ v u Q I rx ry ⟨p, q', hK ▸ h1.dp w e2, hK ▸ h2.dp w e3, s1, s2, gv.old _ (.bl _)⟩
theorem rep_non {S : Hp} {ρ : List Addr} {v : V} {d : D} (h : Rep E S ρ v d) : decide (v = .non) = (match d with
    | .non => true
    | _ => false) := by
  cases h <;> rfl
theorem Opd.isn {S H : Hp} {ρ : List Addr} {v : V} {d : D} (h : Opd E S ρ H v d) : isnV d .non = some (decide (v = .non)) := by
  cases h with
  | rep r => cases r <;> rfl
  | cell _ _ => rfl
theorem isnV_inv {a b : D} {k : Bool} (h : isnV a b = some k) : b = .non := by
  cases b <;> first
    | rfl
    | (cases a <;> (cases (show (none : Option Bool) = some k from h)))
theorem opi_isn : OpR X (compareOp .Is) (rOp E .isn) := by
  intro pins s σ H x y v u Q I rx ry h
  obtain ⟨ρ, S, g, d1, d2, z, w, h1, h2, e, gv⟩ := h
  obtain ⟨k, e1, rfl⟩ := map_inv (show (isnV d1 d2).map D.bl = some z from e)
  obtain rfl := isnV_inv e1
  cases h2.non
  rw [h1.isn] at e1
  cases e1
  exact op_isN pins s σ H _ _ v u Q I rx ry ⟨rfl, gv.old _ (.bl _)⟩
theorem opi_ntn : OpR X (compareOp .IsNot) (rOp E .ntn) := by
  intro pins s σ H x y v u Q I rx ry h
  obtain ⟨ρ, S, g, d1, d2, z, w, h1, h2, e, gv⟩ := h
  obtain ⟨k, e1, rfl⟩ := map_inv (show (isnV d1 d2).map (fun k => D.bl !k) = some z from e)
  obtain rfl := isnV_inv e1
  cases h2.non
  rw [h1.isn] at e1
  cases e1
  exact op_notN pins s σ H _ _ v u Q I rx ry ⟨rfl, gv.old _ (.bl _)⟩
theorem opi_cat (hK : X.K = E.K) : OpR X (binaryOp .Add) (rOp E .cat) := by
  intro pins s σ H x y v u Q I rx ry h
  obtain ⟨ρ, S, g, d1, d2, z, w, h1, h2, e, gv⟩ := h
  have e' : catV d1 d2 = some z := e
  unfold catV at e'
  split at e'
  · rename_i d a d' b
    obtain ⟨hb, rfl⟩ := bif_inv e'
    obtain ⟨p, vs, rfl, sq, r⟩ := h1.tup (s := ⟨[], g⟩) w
    obtain ⟨p', vs', rfl, sq', r'⟩ := h2.tup (s := ⟨[], g⟩) w
    have l1 := r.len
    have l2 := r'.len
    have n1 : vs ≠ [] := fun z => by rw [z] at l1; cases l1
    have n2 : vs' ≠ [] := fun z => by rw [z] at l2; cases l2
    refine op_catT pins s σ H _ _ v u Q I rx ry ⟨p, p', vs, vs', rfl, rfl, hK ▸ sq, hK ▸ sq', n1, ?_, fun z => absurd z n2, fun _ q hq => ?_⟩
    · rw [l1, l2]
      exact le_line (of_decide_eq_true hb)
    · exact gv.tup q _ _ rfl (r.append r') hq
  · cases e'
end
end Pi
namespace Pi
open PySem L2

section
variable {c : Cn} {X : Cx} {e a b d : Expr} {ta tb td : T} {pos : Pos} {rest : List Expr}

/-! ### and, or, not, tests -/
theorem pi_one {op} {t : T} (h : PEI c X a t) : PEI c X (.BoolOp op [a] pos) t := pe_one h
theorem bl_of {E : En} {S : Hp} {ρ : List Addr} {v : V} {k : Bool} (r : Rep E S ρ v (.bl k)) : v = .bl k := by cases r; rfl
theorem pi_and (ha : PEI c X a ta) (hb : PEI c X (.BoolOp .And (b :: rest) pos) tb) : PEI c X (.BoolOp .And (a :: b :: rest) pos) (.and ta tb) :=
  pe_le (pe_and ha hb) fun σ H Q h => by
    obtain ⟨ρ, S, s, w, p⟩ := h
    refine ⟨ρ, S, s, w, (Post.bind p).imp ?_⟩
    rintro x H1 ⟨ρ1, S1, s1, d1, a1, r1, p1⟩
    cases d1 <;> first
      | (exact (show False from p1).elim)
      | skip
    rename_i k
    cases bl_of r1
    refine ⟨k, rfl, ?_⟩
    cases k with
    | true => rw [if_pos rfl]; exact ⟨ρ1, S1, s1, a1.wd, p1⟩
    | false => rw [if_neg Bool.false_ne_true]; exact Post.here a1.wd (.bl false) p1
theorem pi_or (ha : PEI c X a ta) (hb : PEI c X (.BoolOp .Or (b :: rest) pos) tb) : PEI c X (.BoolOp .Or (a :: b :: rest) pos) (.or ta tb) :=
  pe_le (pe_or ha hb) fun σ H Q h => by
    obtain ⟨ρ, S, s, w, p⟩ := h
    refine ⟨ρ, S, s, w, (Post.bind p).imp ?_⟩
    rintro x H1 ⟨ρ1, S1, s1, d1, a1, r1, p1⟩
    cases d1 <;> first
      | (exact (show False from p1).elim)
      | skip
    rename_i k
    cases bl_of r1
    refine ⟨k, rfl, ?_⟩
    cases k with
    | true => rw [if_pos rfl]; exact Post.here a1.wd (.bl true) p1
    | false => rw [if_neg Bool.false_ne_true]; exact ⟨ρ1, S1, s1, a1.wd, p1⟩
theorem pi_not (ha : PEI c X a ta) : PEI c X (.UnaryOp .Not a pos) (.not ta) :=
  pe_le (pe_not ha) fun σ H Q h => by
    obtain ⟨ρ, S, s, w, p⟩ := h
    refine ⟨ρ, S, s, w, (Post.bind p).imp ?_⟩
    rintro x H1 ⟨ρ1, S1, s1, d1, a1, r1, p1⟩
    cases d1 <;> first
      | (exact (show False from p1).elim)
      | skip
    rename_i k
    cases bl_of r1
    exact ⟨k, rfl, Post.here a1.wd (.bl _) p1⟩
theorem pwi_and1 (ha : PTI c X a ta) : PWI c X (.BoolOp .And [a] pos) ta := pw_and1 ha
theorem pwi_or1 (ha : PTI c X a ta) : PWI c X (.BoolOp .Or [a] pos) ta := pw_or1 ha
theorem pwi_and (ha : PTI c X a ta) (hb : PWI c X (.BoolOp .And (b :: rest) pos) tb) : PWI c X (.BoolOp .And (a :: b :: rest) pos) (.and ta tb) :=
  pw_le (pw_and ha hb) fun σ H Q h => by
    obtain ⟨ρ, S, s, w, p⟩ := h
    refine ⟨ρ, S, s, w, (Post.bind p).imp ?_⟩
    rintro x H1 ⟨ρ1, S1, s1, d1, a1, r1, p1⟩
    cases d1 <;> first
      | (exact (show False from p1).elim)
      | skip
    rename_i k
    cases bl_of r1
    refine ⟨k, rfl, ?_⟩
    cases k with
    | true => rw [if_pos rfl]; exact ⟨ρ1, S1, s1, a1.wd, p1⟩
    | false =>
      rw [if_neg Bool.false_ne_true]
      obtain ⟨q, e, h⟩ := Post.here a1.wd (.bl false) p1
      cases e
      exact h
theorem pwi_or (ha : PTI c X a ta) (hb : PWI c X (.BoolOp .Or (b :: rest) pos) tb) : PWI c X (.BoolOp .Or (a :: b :: rest) pos) (.or ta tb) :=
  pw_le (pw_or ha hb) fun σ H Q h => by
    obtain ⟨ρ, S, s, w, p⟩ := h
    refine ⟨ρ, S, s, w, (Post.bind p).imp ?_⟩
    rintro x H1 ⟨ρ1, S1, s1, d1, a1, r1, p1⟩
    cases d1 <;> first
      | (exact (show False from p1).elim)
      | skip
    rename_i k
    cases bl_of r1
    refine ⟨k, rfl, ?_⟩
    cases k with
    | true =>
      rw [if_pos rfl]
      obtain ⟨q, e, h⟩ := Post.here a1.wd (.bl true) p1
      cases e
      exact h
    | false => rw [if_neg Bool.false_ne_true]; exact ⟨ρ1, S1, s1, a1.wd, p1⟩
theorem pit_w {t : T} (h : PWI c X e t) : PTI c X e t := h.pt
theorem pit_not (ha : PTI c X a ta) : PTI c X (.UnaryOp .Not a pos) (.not ta) :=
  pt_le (pt_not ha) fun σ H Q h => by
    obtain ⟨ρ, S, s, w, p⟩ := h
    refine ⟨ρ, S, s, w, (Post.bind p).imp ?_⟩
    rintro x H1 ⟨ρ1, S1, s1, d1, a1, r1, p1⟩
    cases d1 <;> first
      | (exact (show False from p1).elim)
      | skip
    rename_i k
    cases bl_of r1
    obtain ⟨q, e, h⟩ := Post.here a1.wd (.bl _) p1
    cases e
    exact ⟨k, rfl, h⟩
theorem pit_val {t : T} (h : PEI c X e t) (he : ∀ whole, isTrue e X.env whole = (do let v ← whole; standAt e.pos; holding [v] (truthy v)) := by intro _; rfl) : PTI c X e t := pt_val h he
theorem pi_ite (hd : PTI c X d td) (ha : PEI c X a ta) (hb : PEI c X b tb) : PEI c X (.IfExp d a b pos) (.ite td ta tb) :=
  pe_le (pe_ifExp hd ha hb) fun σ H Q h => by
    obtain ⟨ρ, S, s, w, p⟩ := h
    refine ⟨ρ, S, s, w, (Post.bind p).imp ?_⟩
    rintro x H1 ⟨ρ1, S1, s1, d1, a1, r1, p1⟩
    cases d1 <;> first
      | (exact (show False from p1).elim)
      | skip
    rename_i k
    cases bl_of r1
    refine ⟨k, rfl, ?_⟩
    cases k with
    | true => rw [if_pos rfl]; exact ⟨ρ1, S1, s1, a1.wd, p1⟩
    | false => rw [if_neg Bool.false_ne_true]; exact ⟨ρ1, S1, s1, a1.wd, p1⟩

/-! ### rows of arguments, displays -/
theorem pai_nil : PAI c X [] .nil := pa_le pa_nil fun σ H Q h => by
  obtain ⟨ρ, S, s, w, p⟩ := h
  exact PostA.here w .nil p
theorem pai_cons {es : List Expr} (ha : PEI c X e ta) (hr : PAI c X es tb) (hs : starEach (e :: es) X.env = (false, eval e X.env) :: starEach es X.env := by rfl) : PAI c X (e :: es) (.cons ta tb) :=
  pa_le (pa_cons ha hr hs) fun σ H Q h => by
    obtain ⟨ρ, S, s, w, p⟩ := h
    refine ⟨ρ, S, s, w, (PostA.bind p).imp ?_⟩
    rintro x H1 ⟨ρ1, S1, s1, d1, a1, r1, p1⟩
    refine ⟨ρ1, S1, s1, a1.wd, ?_⟩
    have p2 := PostA.bindA p1
    cases q : evA c.o tb s1 with
    | ok ds s2 =>
      rw [q] at p2
      intro v ρ' S' H' st w' r'
      obtain ⟨ρ2, S2, s2', d2, a2, r2, p3⟩ := p2 v ρ' S' H' st w' r'
      exact PostA.here a2.wd (.cons (r1.mono a2.inc) r2) p3
    | ex k fs s2 => rw [q] at p2; exact p2
    | no => rw [q] at p2; exact p2
theorem PostA.imp {E : En} {W : WX} {σ : St} {ρ : List Addr} {S H : Hp} {l : List SV} {Q Q' : List V → Hp → Prop} {r : R (List D)} (p : PostA E W σ ρ S l H r Q) (h : ∀ v H, Q v H → Q' v H) : PostA E W σ ρ S l H r Q' := by
  cases r with
  | ok d s' => exact fun v ρ' S' H' st w r => h _ _ (p v ρ' S' H' st w r)
  | ex c fs s' => exact p
  | no => exact p
theorem Post.bif {E : En} {W : WX} {σ : St} {ρ : List Addr} {S H : Hp} {l : List SV} {Q : VK} {k : Bool} {r : R D} (p : Post E W σ ρ S l H (bif k then r else .no) Q) : k = true ∧ Post E W σ ρ S l H r Q := by
  cases k with
  | true => exact ⟨rfl, p⟩
  | false => exact p.elim
theorem pi_tup {es : List Expr} {x1} (h : PAI c X es ta) : PEI c X (.Tuple es x1 pos) (.tup ta) :=
  pe_le (pe_tup h) fun σ H Q h => by
    obtain ⟨ρ, S, s, w, p⟩ := h
    refine ⟨ρ, S, s, w, (Post.bindA p).imp ?_⟩
    rintro x H1 ⟨ρ1, S1, s1, d1, a1, r1, p1⟩
    obtain ⟨hb, p2⟩ := Post.bif p1
    refine ⟨by rw [r1.len]; exact le_line (of_decide_eq_true hb), fun q hq => ?_⟩
    exact (Post.give a1.wd p2).tup q _ _ rfl r1 hq
theorem pi_lst {es : List Expr} (h : PAI c X es ta) : PEI c X (.List es pos) (.lst ta) :=
  pe_le (pe_lst h) fun σ H Q h => by
    obtain ⟨ρ, S, s, w, p⟩ := h
    refine ⟨ρ, S, s, w, (Post.bindA p).imp ?_⟩
    rintro x H1 ⟨ρ1, S1, s1, d1, a1, r1, p1⟩
    obtain ⟨hb, p2⟩ := Post.bif p1
    refine ⟨by rw [r1.len]; exact le_line (of_decide_eq_true hb), fun q hq => ?_⟩
    exact (Post.give a1.wd p2).lst q _ _ rfl r1 hq

/-! ### what is called -/
abbrev noB : Bs := ⟨fun _ => False, fun _ => False⟩
def PostC (E : En) (ρ : List Addr) (S H : Hp) (r : Pi.C) (Q : VK) (Z : XK) : Prop := match r with
  | .ok d g' => ∀ v ρ' S' H', Step ρ S noB H ρ' S' noB H' → Gr E ρ' S' g' H' → Rep E S' ρ' v d → Q v H'
  | .ex c fs g' => ∀ ρ' S' H' x fv, Step ρ S noB H ρ' S' noB H' → Gr E ρ' S' g' H' → S' x = some (.xd fv) → RepF E S' ρ' fv fs → Z (.ref (E.cl c)) (some x) H'
  | .no => False
def spI (E : En) (n : Nat) (m : List D → List MO → Pi.C) : Sp := fun vs H Q Z => vs.length = n ∧ ∃ ρ S g ds, Gr E ρ S g H ∧ Reps E S ρ vs ds ∧ PostC E ρ S H (m ds g) Q Z
theorem lift {E : En} {ρ ρ' : List Addr} {S S' H H' : Hp} {s : Pi.S} {g' : List MO} {σ : St} (st : Step ρ S noB H ρ' S' noB H') (w : Wd E ρ S s σ H) (gr : Gr E ρ' S' g' H') :
    Wd E ρ' S' ⟨s.l, g'⟩ σ H' ∧ Step ρ S (Ow σ s.l) H ρ' S' (Ow σ s.l) H' := by
  have off : ∀ a, Ow σ s.l a → a ∉ ρ := fun a ⟨i, h1, h2⟩ => by
    rcases h2 with ⟨ds, h2⟩ | ⟨k, fs, h2⟩
    · obtain ⟨a', vs, q1, q2, q3, q4, q5⟩ := w.sl.own i ds h2
      rw [h1] at q1; cases q1; exact q5
    · obtain ⟨a', dx, fv, q1, q2, qf, q3, q4, q5⟩ := w.sl.ob i k fs h2
      rw [h1] at q1; cases q1; exact q5
  refine ⟨⟨gr, w.sl.keep st.inc (fun a o u e => st.fr a u e (off a o) fun z => z) (fun a _ ne e => ?_) fun a _ ne n z => ?_⟩, ⟨st.inc, st.nρ, fun a o e => ?_, fun a h => .inl h, fun a o e n _ => st.fr a o e n fun z => z, st.dom, fun _ h => h⟩⟩
  · cases q : S' a with
    | none => rfl
    | some o =>
      rcases st.nS a o q with z | z | z
      · rw [e] at z; cases z
      · exact absurd z ne
      · exact z.elim
  · rcases st.nρ a z with y | y
    · exact n y
    · exact ne y
  · rcases st.nS a o e with z | z | z
    · exact .inl z
    · exact .inr (.inl z)
    · exact z.elim
theorem Post.call {E : En} {W : WX} {ρ : List Addr} {S H : Hp} {s : Pi.S} {σ : St} {r : Pi.C} {Q : VK} (w : Wd E ρ S s σ H) (p : Post E W σ ρ S s.l H (R.ofC s.l r) Q) : PostC E ρ S H r Q (WE W σ) := by
  cases r with
  | ok d g => exact fun v ρ' S' H' st gr rp => p v ρ' S' H' (lift st w gr).2 (lift st w gr).1 rp
  | ex k fs g => exact fun ρ' S' H' x fv st gr e rf => p ρ' S' H' x fv (lift st w gr).2 (lift st w gr).1 e rf
  | no => exact p
theorem Post.bindA2 {E : En} {W : WX} {σ : St} {ρ : List Addr} {S H : Hp} {l : List SV} {Q : VK} {r : R (List D)} {k : List D → Pi.S → R D} (p : Post E W σ ρ S l H (r.bind k) Q) :
    PostA E W σ ρ S l H r (fun x H1 => ∃ ρ1 S1 s1 d, r = .ok d s1 ∧ At E ρ S ρ1 S1 s1 σ H1 ∧ Reps E S1 ρ1 x d ∧ Post E W σ ρ1 S1 s1.l H1 (k d s1) Q) := by
  cases r with
  | ok d s' => exact fun v ρ' S' H' st w r => ⟨ρ', S', s', d, rfl, ⟨st.inc, w⟩, r, Post.step st p⟩
  | ex c fs s' => exact p
  | no => exact p
def T.len : T → Nat
  | .cons _ b => b.len + 1
  | _ => 0
theorem evA_len {o : O} : ∀ {t : T} {s s' : Pi.S} {ds : List D}, evA o t s = .ok ds s' → ds.length = t.len
  | .nil, s, s', ds, h => by cases h; rfl
  | .cons a b, s, s', ds, h => by
    unfold evA at h
    cases q : ev o a s with
    | ok d s1 =>
      rw [q] at h
      cases q2 : evA o b s1 with
      | ok es s2 =>
        have h' : (R.ok (d :: es) s2) = R.ok ds s' := by
          have : (R.bind (R.ok d s1) fun x s => (evA o b s).bind fun xs s => R.ok (x :: xs) s) = R.ok ds s' := h
          have e : (R.bind (R.ok d s1) fun x s => (evA o b s).bind fun xs s => R.ok (x :: xs) s) = (evA o b s1).bind fun xs s => R.ok (d :: xs) s := rfl
          rw [e, q2] at this
          exact this
        cases h'
        show es.length + 1 = b.len + 1
        rw [evA_len q2]
      | ex k fs s2 =>
        have e : (R.bind (R.ok d s1) fun x s => (evA o b s).bind fun xs s => R.ok (x :: xs) s) = (evA o b s1).bind fun xs s => R.ok (d :: xs) s := rfl
        rw [e, q2] at h
        cases h
      | no =>
        have e : (R.bind (R.ok d s1) fun x s => (evA o b s).bind fun xs s => R.ok (x :: xs) s) = (evA o b s1).bind fun xs s => R.ok (d :: xs) s := rfl
        rw [e, q2] at h
        cases h
    | ex k fs s1 => rw [q] at h; cases h
    | no => rw [q] at h; cases h
  | .c _, _, _, _, h => by cases h
  | .v _, _, _, _, h => by cases h
  | .gl _, _, _, _, h => by cases h
  | .op2 _ _ _, _, _, _, h => by cases h
  | .opo _ _ _, _, _, _, h => by cases h
  | .ch _ _ _ _ _, _, _, _, h => by cases h
  | .neg _, _, _, _, h => by cases h
  | .and _ _, _, _, _, h => by cases h
  | .or _ _, _, _, _, h => by cases h
  | .not _, _, _, _, h => by cases h
  | .tru _, _, _, _, h => by cases h
  | .ite _ _ _, _, _, _, h => by cases h
  | .tup _, _, _, _, h => by cases h
  | .lst _, _, _, _, h => by cases h
  | .star _ _, _, _, _, h => by cases h
  | .ix _ _, _, _, _, h => by cases h
  | .ixo _ _, _, _, _, h => by cases h
  | .sl _ _ _, _, _, _, h => by cases h
  | .rev _, _, _, _, h => by cases h
  | .call _ _ _, _, _, _, h => by cases h
  | .mk _ _ _, _, _, _, h => by cases h
  | .meth _ _ _ _, _, _, _, h => by cases h
  | .fld _ _, _, _, _, h => by cases h
  | .inr _ _ _, _, _, _, h => by cases h
  | .ino _ _ _, _, _, _, h => by cases h
  | .isi _ _, _, _, _, h => by cases h
  | .bi _ _, _, _, _, h => by cases h
  | .bio _ _, _, _, _, h => by cases h
  | .comp _ _ _ _, _, _, _, h => by cases h
  | .rng1 _, _, _, _, h => by cases h
  | .rng2 _ _, _, _, _, h => by cases h
  | .it _, _, _, _, h => by cases h
  | .its _, _, _, _, h => by cases h
  | .popo _ _, _, _, _, h => by cases h
  | .mkr _, _, _, _, h => by cases h
  | .revr _, _, _, _, h => by cases h
  | .popr _, _, _, _, h => by cases h
/-- a def that may be called from here -/
structure Callee (c : Cn) (X : Cx) (x : Str) (f : Nat) (n : Nat) (df : List D) : Prop where
  ex : ∃ (k : Nat) (a : Addr) (fd : FuncData) (ps : List Str) (dvs : List V) (ds : List Value), FnOk X.prog X.w X.K X.mg X.base (L2.CX X.prog X.w) k a fd ps (spI c.E n (c.o.call f)) ∧ Room k X.A ∧
    X.mg x = some (.ref a) ∧ PySem.W.keepIn X.K (.ref a) = true ∧ Binds X.K fd ps ds ∧ Vals dvs ds ∧ ∀ S ρ, Reps c.E S ρ dvs df
theorem pi_call {x : Str} {p : Pos} {es : List Expr} {f n : Nat} {df : List D} (tk : Takes X c.W) (F : Callee c X x f n df) (hg : Gl X x) (ha : PAI c X (e :: es) ta) (hl : ta.len + df.length = n := by rfl) (hdb : (x == ("__debug__" : Str)) = false := by decide)
    (he : starEach (e :: es) X.env = (false, eval e X.env) :: starEach es X.env := by rfl) (hpl : (backTo pos (starEach es X.env)).any (·.1) = false := by rfl) : PEI c X (.Call (.Name x p) (e :: es) [] pos) (.call f ta df) := by
  obtain ⟨k, a, fd, ps, dvs, ds, G, hr, hm, hk, hb, hd, hdf⟩ := F.ex
  refine pe_le (pe_callSD (E := fun σ => WE c.W σ) G hr hg hm hk hb hd (fun σ => passAt tk σ) ha hdb he hpl) fun σ H Q h => ?_
  obtain ⟨ρ, S, s, w, p⟩ := h
  refine ⟨ρ, S, s, w, (Post.bindA2 p).imp ?_⟩
  rintro vs H1 ⟨ρ1, S1, s1, d1, e1, a1, r1, p1⟩
  refine ⟨?_, ρ1, S1, s1.g, _, a1.wd.gr, r1.append (hdf S1 ρ1), p1.call a1.wd⟩
  rw [List.length_append, r1.len, (hdf S1 ρ1).len, evA_len e1, hl]

/-! ### fields, items, slices -/
theorem pi_fld {n : Nat} {f : Str} (hK : X.K = c.E.K) (he : PEI c X e ta) (hf : c.E.at_ n = f) (hb : attributeBase e f X.env (eval e X.env) = eval e X.env := by rfl) : PEI c X (.Attribute e f pos) (.fld ta n) := by
  refine pe_le (pe_fld he hb) fun σ H Q h => ?_
  obtain ⟨ρ, S, s, w, p⟩ := h
  refine ⟨ρ, S, s, w, (Post.bind p).imp ?_⟩
  rintro x H1 ⟨ρ1, S1, s1, d1, a1, r1, p1⟩
  obtain ⟨z, e1, p2⟩ := Post.of p1
  have fin : ∀ {a dx : Addr} {k : Nat} {fv : List (Str × V)} {fs : List (Nat × D)}, H1 a = some (.ins (c.E.cl k) dx fv) → c.E.fits k fs → RepF c.E S1 ρ1 fv fs → fs.lookup n = some z →
      ∃ a' C dx fs v, V.ref a = .ref a' ∧ H1 a' = some (.ins C dx fs) ∧ Cls X.K C ∧ NoAttr X.K C f ∧ fs.lookup f = some v ∧ Q v H1 := fun {a dx k fv fs} h1 h2 h3 h4 => by
    have hin : (n, z) ∈ fs := by
      clear h1 h2 h3
      induction fs with
      | nil => cases h4
      | cons q r ih =>
        obtain ⟨m, y⟩ := q
        by_cases hq : n = m
        · subst hq
          simp at h4
          subst h4
          exact List.mem_cons_self
        · have hq' : (n == m) = false := by simpa using hq
          rw [List.lookup_cons, hq'] at h4
          exact List.mem_cons_of_mem _ (ih h4)
    obtain ⟨hn, ha⟩ := c.E.fok k n (h2.2 _ hin)
    have hc := (c.E.cok k h2.1).1
    obtain ⟨v, q1, q2⟩ := h3.look hn h4
    refine ⟨a, _, dx, fv, v, rfl, h1, hK ▸ hc, hf ▸ hK ▸ ha, hf ▸ q1, Post.here a1.wd q2 p2⟩
  cases r1 with
  | ins h1 h2 h3 => exact fin (a1.wd.gr.sub _ _ h1) h2 h3 e1
  | @ref a m h =>
    have e2 : (match s1.g[m]? with
      | some (.ins _ fs) => fs.lookup n
      | _ => none) = some z := e1
    split at e2
    · rename_i k fs q
      obtain ⟨dx, fv, q1, q2, q3⟩ := a1.wd.gr.ob m a _ h q
      exact fin q1 q2 q3 e2
    · cases e2
  | non => cases e1
  | bl _ => cases e1
  | int _ => cases e1
  | str _ => cases e1
  | tup _ _ => cases e1
  | lst _ _ => cases e1
/-- x[i], a list or a tuple -/
def rIx2 (K : PySem.W.Frag) : R2 := fun x y H Q => rIxL K x y H Q ∨ rIxT K x y H Q
theorem ix2 : IxR X (rIx2 X.K) := ix_list.or ix_tup
theorem atI_inv {α : Type} {xs : List α} {i : Int} {x : α} (h : atI xs i = some x) : ∃ j, ixN xs.length i = some j ∧ xs[j]? = some x := by
  unfold atI at h
  cases q : ixN xs.length i with
  | none => rw [q] at h; cases h
  | some j => rw [q] at h; exact ⟨j, rfl, h⟩
theorem Reps.atI {E : En} {S : Hp} {ρ : List Addr} {vs : List V} {ds : List D} {i : Int} {d : D} (r : Reps E S ρ vs ds) (h : L2.atI ds i = some d) : ∃ v, L2.atI vs i = some v ∧ Rep E S ρ v d := by
  obtain ⟨j, h1, h2⟩ := atI_inv h
  obtain ⟨v, q1, q2⟩ := r.get h2
  refine ⟨v, ?_, q2⟩
  unfold L2.atI
  rw [r.len, h1]
  exact q1
theorem ix_core {E : En} {K : PySem.W.Frag} (hK : K = E.K) {S H : Hp} {ρ : List Addr} {g : List MO} {x y : V} {d1 d2 z : D} {Q : VK} (w : Gr E ρ S g H) (h1 : Opd E S ρ H x d1) (h2 : Rep E S ρ y d2) (e : ixS d1 d2 = some z)
    (q : ∀ v, Rep E S ρ v z → Q v H) : rIx2 K x y H Q := by
  subst hK
  cases d1 with
  | lst ds =>
    cases h2 with
    | int i =>
      obtain ⟨a, vs, rfl, sq, r⟩ := h1.lst (s := ⟨[], g⟩) w
      obtain ⟨v, q1, q2⟩ := r.atI (show L2.atI ds i = some z from e)
      exact .inl ⟨a, vs, i, v, rfl, rfl, sq, q1, q v q2⟩
    | _ => cases (show (none : Option D) = some z from e)
  | tup ds =>
    cases h2 with
    | int i =>
      obtain ⟨a, vs, rfl, sq, r⟩ := h1.tup (s := ⟨[], g⟩) w
      obtain ⟨v, q1, q2⟩ := r.atI (show L2.atI ds i = some z from e)
      exact .inr ⟨a, vs, i, v, rfl, rfl, sq, q1, q v q2⟩
    | _ => cases (show (none : Option D) = some z from e)
  | _ => cases (show (none : Option D) = some z from e)
theorem pi_ix (hK : X.K = c.E.K) (ha : PEI c X a ta) (hb : PEI c X b tb) (hs : PlainIx b := by exact fun _ _ => rfl) : PEI c X (.Subscript a b pos) (.ix ta tb) := by
  refine pe_le (pe_ix ix2 ha hb hs) fun σ H Q h => ?_
  obtain ⟨ρ, S, s, w, p⟩ := h
  refine ⟨ρ, S, s, w, (Post.bind p).imp ?_⟩
  rintro x H1 ⟨ρ1, S1, s1, d1, a1, r1, p1⟩
  refine ⟨ρ1, S1, s1, a1.wd, (Post.bind p1).imp ?_⟩
  rintro y H2 ⟨ρ2, S2, s2, d2, a2, r2, p2⟩
  obtain ⟨z, e, p3⟩ := Post.of p2
  exact ix_core hK a2.wd.gr (Opd.view (s := s2) a2.wd.gr (r1.mono a2.inc)) r2 e fun v rv => Post.here a2.wd rv p3
theorem pi_ch {op op' : CmpOp} {k k' : Op} (ho : OpR X (compareOp op) (rOp c.E k)) (ho' : OpR X (compareOp op') (rOp c.E k')) (ha : PEI c X a ta) (hb : PEI c X b tb) (hd : PEI c X d td)
    (hm : lastMarks [op, op'] [b, d] = false := by with_unfolding_all rfl) : PEI c X (.Compare a [op, op'] [b, d] pos) (.ch k k' ta tb td) := pe_le (pe_chain ho ho' ha hb hd hm) fun _ _ _ => ch_le
theorem pit_ch {op op' : CmpOp} {k k' : Op} (ho : OpR X (compareOp op) (rOp c.E k)) (ho' : OpR X (compareOp op') (rOp c.E k')) (ha : PEI c X a ta) (hb : PEI c X b tb) (hd : PEI c X d td)
    (hm : lastMarks [op, op'] [b, d] = false := by with_unfolding_all rfl) : PTI c X (.Compare a [op, op'] [b, d] pos) (.ch k k' ta tb td) := pt_le (pt_chain ho ho' ha hb hd hm) fun _ _ _ => ch_le
theorem pi_neg (ha : PEI c X a ta) : PEI c X (.UnaryOp .USub a pos) (.neg ta) := by
  refine pe_le (pe_un un_neg ha) fun σ H Q h => ?_
  obtain ⟨ρ, S, s, w, p⟩ := h
  refine ⟨ρ, S, s, w, (Post.bind p).imp ?_⟩
  rintro x H1 ⟨ρ1, S1, s1, d1, a1, r1, p1⟩
  cases d1 <;> first
    | (exact (show False from p1).elim)
    | skip
  cases r1
  exact ⟨_, rfl, Post.here a1.wd (.int _) p1⟩
end
end Pi
namespace Pi
open PySem L2

section
variable {c : Cn} {X : Cx} {e a b d : Expr} {ta tb td tl th : T} {pos : Pos} {rest : List Expr}

/-! ### slices -/
def PostO (E : En) (W : WX) (σ : St) (ρ : List Addr) (S : Hp) (l : List SV) (H : Hp) (r : R (Option Int)) (Q : Option Int → Hp → Prop) : Prop := match r with
  | .ok d s' => ∀ ρ' S' H', Step ρ S (Ow σ l) H ρ' S' (Ow σ s'.l) H' → Wd E ρ' S' s' σ H' → Q d H'
  | .ex c fs s' => ∀ ρ' S' H' x fv, Step ρ S (Ow σ l) H ρ' S' (Ow σ s'.l) H' → Wd E ρ' S' s' σ H' → S' x = some (.xd fv) → RepF E S' ρ' fv fs → W (.ref (E.cl c)) (some x) σ H'
  | .no => False
def tIO (E : En) (W : WX) (m : Pi.S → R (Option Int)) : TO := fun σ H Q => ∃ ρ S s, Wd E ρ S s σ H ∧ PostO E W σ ρ S s.l H (m s) Q
abbrev POI (c : Cn) (X : Cx) (e : Option Expr) (t : T) : Prop := PO X e (tIO c.E c.W (evO c.o t))
theorem poi_none : POI c X none .nil := po_le po_none fun σ H Q h => by
  obtain ⟨ρ, S, s, w, p⟩ := h
  exact p ρ S H Step.refl w
theorem PostO.bind {E : En} {W : WX} {σ : St} {ρ : List Addr} {S H : Hp} {l : List SV} {r : R D} {k : D → Pi.S → R (Option Int)} {Q : Option Int → Hp → Prop} (p : PostO E W σ ρ S l H (r.bind k) Q) :
    Post E W σ ρ S l H r (fun x H1 => ∃ ρ1 S1 s1 d, At E ρ S ρ1 S1 s1 σ H1 ∧ Rep E S1 ρ1 x d ∧ PostO E W σ ρ1 S1 s1.l H1 (k d s1) Q) := by
  cases r with
  | ok d s' =>
    refine fun v ρ' S' H' st w r => ⟨ρ', S', s', d, ⟨st.inc, w⟩, r, ?_⟩
    have p' : PostO E W σ ρ S l H (k d s') Q := p
    show PostO E W σ ρ' S' s'.l H' (k d s') Q
    cases q : k d s' with
    | ok i s2 => rw [q] at p'; exact fun ρ2 S2 H2 st2 w2 => p' ρ2 S2 H2 (st.trans st2) w2
    | ex i fs s2 => rw [q] at p'; exact fun ρ2 S2 H2 x fv st2 => p' ρ2 S2 H2 x fv (st.trans st2)
    | no => rw [q] at p'; exact p'
  | ex c fs s' => exact p
  | no => exact p
theorem poi_some (h : PEI c X e ta) : POI c X (some e) (.cons ta .nil) := po_le (po_some h) fun σ H Q h => by
  obtain ⟨ρ, S, s, w, p⟩ := h
  refine ⟨ρ, S, s, w, (PostO.bind p).imp ?_⟩
  rintro x H1 ⟨ρ1, S1, s1, d1, a1, r1, p1⟩
  cases d1 <;> first
    | (exact (show False from p1).elim)
    | skip
  cases r1
  exact ⟨_, rfl, p1 ρ1 S1 H1 Step.refl a1.wd⟩
theorem Post.bindO {E : En} {W : WX} {σ : St} {ρ : List Addr} {S H : Hp} {l : List SV} {r : R (Option Int)} {k : Option Int → Pi.S → R D} {Q : VK} (p : Post E W σ ρ S l H (r.bind k) Q) :
    PostO E W σ ρ S l H r (fun i H1 => ∃ ρ1 S1 s1, At E ρ S ρ1 S1 s1 σ H1 ∧ Post E W σ ρ1 S1 s1.l H1 (k i s1) Q) := by
  cases r with
  | ok d s' => exact fun ρ' S' H' st w => ⟨ρ', S', s', ⟨st.inc, w⟩, Post.step st p⟩
  | ex c fs s' => exact p
  | no => exact p
theorem PostO.imp {E : En} {W : WX} {σ : St} {ρ : List Addr} {S H : Hp} {l : List SV} {Q Q' : Option Int → Hp → Prop} {r : R (Option Int)} (p : PostO E W σ ρ S l H r Q) (h : ∀ v H, Q v H → Q' v H) : PostO E W σ ρ S l H r Q' := by
  cases r with
  | ok d s' => exact fun ρ' S' H' st w => h _ _ (p ρ' S' H' st w)
  | ex c fs s' => exact p
  | no => exact p
def rSl3 (K : PySem.W.Frag) : V → Option Int → Option Int → Hp → VK → Prop := fun x lo hi H Q => rSlL K x lo hi H Q ∨ (rSlA K x lo hi H Q ∨ rSlS x lo hi H Q)
theorem sl3 : SlR X (rSl3 X.K) := sl_list.or (sl_tupA.or sl_str)
theorem cut_whole {α : Type} {n : Nat} {xs : List α} {lo hi : Option Int} (hn : xs.length = n) (h : HT.sIx n 0 lo = 0 ∧ HT.sIx n n hi = n) : (xs.drop (HT.sIx n 0 lo)).take (HT.sIx n n hi - HT.sIx n 0 lo) = xs := by
  rw [h.1, h.2, List.drop_zero, Nat.sub_zero, ← hn, List.take_length]
theorem sl_core {E : En} {K : PySem.W.Frag} (hK : K = E.K) {S H : Hp} {ρ : List Addr} {g : List MO} {x : V} {d1 z : D} {lo hi : Option Int} {Q : VK} (w : Gr E ρ S g H) (h1 : Opd E S ρ H x d1) (e : slS d1 lo hi = some z)
    (q : Give E S ρ H z Q) : rSl3 K x lo hi H Q := by
  subst hK
  cases d1 with
  | lst ds =>
    cases e
    obtain ⟨a, vs, rfl, sq, r⟩ := h1.lst (s := ⟨[], g⟩) w
    refine .inl ⟨a, vs, rfl, sq, fun p hp => q.lst p _ _ rfl ?_ hp⟩
    unfold cutV
    rw [r.len]
    exact (r.drop _).take _
  | tup ds =>
    cases e
    have h1' := h1
    obtain ⟨a, vs, rfl, sq, r⟩ := h1.tup (s := ⟨[], g⟩) w
    refine .inr (.inl ⟨a, vs, rfl, sq, fun hw => q.old _ ?_, fun hw p hp => q.tup p _ _ rfl ?_ hp⟩)
    · rw [r.len] at hw
      unfold cutD
      rw [cut_whole rfl hw]
      cases h1' with | rep r' => exact r'
    · unfold cutV
      rw [r.len]
      exact (r.drop _).take _
  | str y =>
    obtain ⟨hb, rfl⟩ := bif_inv (show (bif decide (y.length ≤ big) then some (D.str (L2.cutS y lo hi)) else none) = some z from e)
    cases h1.str
    exact .inr (.inr ⟨y, rfl, le_line (of_decide_eq_true hb), q.old _ (.str _)⟩)
  | _ => cases (show (none : Option D) = some z from e)
theorem pi_sl {lo hi : Option Expr} {p2 : Pos} (hK : X.K = c.E.K) (he : PEI c X e ta) (hl : POI c X lo tl) (hu : POI c X hi th) : PEI c X (.Subscript e (.Slice lo hi none p2) pos) (.sl ta tl th) := by
  refine pe_le (pe_slice sl3 he hl hu) fun σ H Q h => ?_
  obtain ⟨ρ, S, s, w, p⟩ := h
  refine ⟨ρ, S, s, w, (Post.bind p).imp ?_⟩
  rintro x H1 ⟨ρ1, S1, s1, d1, a1, r1, p1⟩
  refine ⟨ρ1, S1, s1, a1.wd, (Post.bindO p1).imp ?_⟩
  rintro i H2 ⟨ρ2, S2, s2, a2, p2⟩
  refine ⟨ρ2, S2, s2, a2.wd, (Post.bindO p2).imp ?_⟩
  rintro j H3 ⟨ρ3, S3, s3, a3, p3⟩
  obtain ⟨z, e, p4⟩ := Post.of p3
  exact sl_core hK a3.wd.gr (Opd.view (s := s3) a3.wd.gr (r1.mono (a2.inc.trans a3.inc))) e (Post.give a3.wd p4)

/-! ### isinstance -/
def kv (E : En) : D → Option Value
  | .non => some (.type "NoneType")
  | .bl _ => some (.type "bool")
  | .int _ => some (.type "int")
  | .str _ => some (.type "str")
  | .tup _ => some (.type "tuple")
  | .lst _ => some (.type "list")
  | .ins k _ => some (.ref (E.cl k))
  | .ref _ => none
def tu (E : En) : Ty → V
  | .int => .ty "int"
  | .bool => .ty "bool"
  | .str => .ty "str"
  | .tuple => .ty "tuple"
  | .list => .ty "list"
  | .cls k => .ref (E.cl k)
def tw (E : En) : Ty → Value
  | .int => .type "int"
  | .bool => .type "bool"
  | .str => .type "str"
  | .tuple => .type "tuple"
  | .list => .type "list"
  | .cls k => .ref (E.cl k)
theorem tu_cls (E : En) (t : Ty) : ClsV (tu E t) (tw E t) := by cases t <;> first | exact .ty _ | exact .own _
/-- what the text's classes are to isinstance -/
structure Kit (c : Cn) (t : Ty) : Prop where
  ok : ∀ d v, kv c.E d = some v → (∀ k fs, d = .ins k fs → c.E.co k = true) → PySem.W.kitOne c.E.K v (tw c.E t) = some (isiS c.o d t)
theorem Rep.ty {E : En} {S H : Hp} {ρ : List Addr} {g : List MO} {x : V} {d d' : D} (w : Gr E ρ S g H) (h : Rep E S ρ x d) (e : tyD g d = some d') : ∃ v, kv E d' = some v ∧ TyX E.K H x v ∧ ∀ k fs, d' = .ins k fs → E.co k = true := by
  have insq : ∀ {a dx k fv}, H a = some (.ins (E.cl k) dx fv) → E.co k = true → TyX E.K H (.ref a) (.ref (E.cl k)) := fun h f => by
    obtain ⟨q1, q2, q3, q4, q5⟩ := E.cok _ f
    exact .base (.ins h q1 q2 q3 q4 q5)
  cases h with
  | non => cases e; exact ⟨_, rfl, .base .non, fun _ _ z => (nomatch z)⟩
  | bl b => cases e; exact ⟨_, rfl, .base (.bl b), fun _ _ z => (nomatch z)⟩
  | int b => cases e; exact ⟨_, rfl, .base (.int b), fun _ _ z => (nomatch z)⟩
  | str b => cases e; exact ⟨_, rfl, .base (.str b), fun _ _ z => (nomatch z)⟩
  | tup h r =>
    cases e
    refine ⟨_, rfl, ?_, fun _ _ z => (nomatch z)⟩
    rcases h with (h | ⟨o, h⟩) | ⟨o, its, n, h, hc, _⟩
    · exact .base (.tup (w.sub _ _ h))
    · exact .fTuple (w.sub _ _ h)
    · exact .kTuple h hc
  | lst h r =>
    cases e
    refine ⟨_, rfl, ?_, fun _ _ z => (nomatch z)⟩
    rcases h with (h | ⟨o, h⟩) | ⟨o, its, n, h, hc, _⟩
    · exact .base (.lst (w.sub _ _ h))
    · exact .base (.frz (w.sub _ _ h))
    · exact .kList h hc
  | @ins a dx k fv fs h f r =>
    cases e
    exact ⟨_, rfl, insq (w.sub _ _ h) f.1, fun _ _ z => by cases z; exact f.1⟩
  | @ref a n h =>
    have e' : (match g[n]? with
      | some (.lst ds) => some (.lst ds)
      | some (.ins c fs) => some (.ins c fs)
      | none => none) = some d' := e
    split at e'
    · rename_i ds q
      cases e'
      obtain ⟨vs, q1, q2⟩ := w.ob n a _ h q
      exact ⟨_, rfl, .base (.lst q1), fun _ _ z => (nomatch z)⟩
    · rename_i k fs q
      cases e'
      obtain ⟨dx, fv, q1, q2, q3⟩ := w.ob n a _ h q
      exact ⟨_, rfl, insq q1 q2.1, fun _ _ z => by cases z; exact q2.1⟩
    · cases e'
/-- isinstance(x, T) -/
theorem pi_isi {t : Ty} {p : Pos} {et : Expr} (hK : X.K = c.E.K) (kt : Kit c t) (hg : Gl X "isinstance") (hm : X.mg "isinstance" = none) (ha : PEI c X a ta) (ht : PE X et (tC (tu c.E t)))
    (he : starEach (a :: [et]) X.env = (false, eval a X.env) :: starEach [et] X.env := by rfl) (hs2 : starEach (et :: []) X.env = (false, eval et X.env) :: starEach [] X.env := by rfl) (hpl : (backTo pos (starEach [et] X.env)).any (·.1) = false := by rfl) : PEI c X (.Call (.Name "isinstance" p) [a, et] [] pos) (.isi ta [t]) := by
  refine pe_le (pe_callB call_isi hg hm (by decide +kernel) (pa_cons ha (pa_cons ht pa_nil hs2) he) (by decide) (by decide) he hpl) fun σ H Q h => ?_
  obtain ⟨ρ, S, s, w, p⟩ := h
  refine ⟨ρ, S, s, w, (Post.bind p).imp ?_⟩
  rintro x H1 ⟨ρ1, S1, s1, d1, a1, r1, p1⟩
  split at p1
  · rename_i d' e1
    obtain ⟨v, q1, q2, q3⟩ := r1.ty a1.wd.gr e1
    refine ⟨x, tu c.E t, v, tw c.E t, _, rfl, tu_cls _ _, hK ▸ q2, ?_, Post.here a1.wd (.bl _) p1⟩
    rw [hK, kt.ok _ _ q1 q3]
    show some (isiS c.o d' t) = some (isiA c.o d' [t])
    simp [isiA]
  · exact p1.elim
/-- isinstance(x, (T, U)) -/
theorem kitAny_ok {c : Cn} {d : D} {v : Value} (q1 : kv c.E d = some v) (q3 : ∀ k fs, d = .ins k fs → c.E.co k = true) : ∀ {ts : List Ty}, (∀ t ∈ ts, Kit c t) → PySem.W.kitAny c.E.K v (ts.map (tw c.E)) = some (isiA c.o d ts)
  | [], _ => rfl
  | t :: ts, h => by
    have h1 := (h t List.mem_cons_self).ok d v q1 q3
    have h2 := kitAny_ok q1 q3 (ts := ts) fun u hu => h u (List.mem_cons_of_mem _ hu)
    show PySem.W.kitAny c.E.K v (tw c.E t :: ts.map (tw c.E)) = some (isiS c.o d t || isiA c.o d ts)
    unfold PySem.W.kitAny
    rw [h1]
    cases isiS c.o d t with
    | true => rfl
    | false => simpa using h2
theorem paired_tu (E : En) : ∀ ts : List Ty, Paired ClsV (ts.map (tu E)) (ts.map (tw E))
  | [] => .nil
  | t :: ts => .cons (tu_cls E t) (paired_tu E ts)
theorem pi_isiT {ts : List Ty} {p pt : Pos} {es : List Expr} {k1 : Nat} {tt : TA} (hK : X.K = c.E.K) (kt : ∀ t ∈ ts, Kit c t) (hg : Gl X "isinstance") (hm : X.mg "isinstance" = none) (ha : PEI c X a ta) (ht : PA X es tt)
    (hq : ∀ σ H (Q : List V → Hp → Prop), Q (ts.map (tu c.E)) H → tt σ H Q) (hl : ts.length ≤ big)
    (he : starEach (a :: [.Tuple es k1 pt]) X.env = (false, eval a X.env) :: starEach [.Tuple es k1 pt] X.env := by rfl) (hs2 : starEach (.Tuple es k1 pt :: []) X.env = (false, eval (.Tuple es k1 pt) X.env) :: starEach [] X.env := by rfl) (hpl : (backTo pos (starEach [.Tuple es k1 pt] X.env)).any (·.1) = false := by rfl) :
    PEI c X (.Call (.Name "isinstance" p) [a, .Tuple es k1 pt] [] pos) (.isi ta ts) := by
  refine pe_le (pe_callB call_isiT hg hm (by decide +kernel) (pa_cons ha (pa_cons (pe_tup ht) pa_nil hs2) he) (by decide) (by decide) he hpl) fun σ H Q h => ?_
  obtain ⟨ρ, S, s, w, p⟩ := h
  refine ⟨ρ, S, s, w, (Post.bind p).imp ?_⟩
  rintro x H1 ⟨ρ1, S1, s1, d1, a1, r1, p1⟩
  split at p1
  · rename_i d' e1
    refine hq _ _ _ ⟨by rw [List.length_map]; exact le_line hl, fun q hq => ?_⟩
    have w2 := a1.wd.new (o := .tup (ts.map (tu c.E))) hq
    have i2 := Inc.new (ρ := ρ1) (o := .tup (ts.map (tu c.E))) (a1.wd.gr.fresh hq).1
    obtain ⟨v, q1, q2, q3⟩ := (r1.mono i2).ty w2.gr e1
    refine ⟨x, q, _, v, ts.map (tw c.E), _, rfl, upd_same, paired_tu _ _, hK ▸ q2, ?_, p1 _ ρ1 _ _ (Step.new a1.wd.gr hq) w2 (.bl _)⟩
    rw [hK]
    exact kitAny_ok q1 q3 kt
  · exact p1.elim

/-! ### x in a row of plain things -/
theorem Rep.flat {E : En} {S : Hp} {ρ : List Addr} {v : V} {d : D} (h : Rep E S ρ v d) : flatV v = flat d := by cases h <;> rfl
theorem Rep.eqF {E : En} {S : Hp} {ρ : List Addr} {v v' : V} {d d' : D} (h : Rep E S ρ v d) (h' : Rep E S ρ v' d') : L2.eqV v v' = eqF d d' := by cases h <;> cases h' <;> rfl
theorem Reps.allF {E : En} {S : Hp} {ρ : List Addr} : ∀ {vs : List V} {ds : List D}, Reps E S ρ vs ds → vs.all flatV = ds.all flat
  | _, _, .nil => rfl
  | _, _, .cons h r => by rw [List.all_cons, List.all_cons, h.flat, Reps.allF r]
theorem Reps.inV {E : En} {S : Hp} {ρ : List Addr} {x : V} {y : D} (hx : Rep E S ρ x y) : ∀ {vs : List V} {ds : List D}, Reps E S ρ vs ds → L2.inV x vs = ds.any fun z => Pi.eqF z y
  | _, _, .nil => rfl
  | _, _, .cons h r => by
    unfold L2.inV
    rw [List.any_cons, List.any_cons, h.eqF hx]
    have := Reps.inV hx r
    unfold L2.inV at this
    rw [this]
theorem inr_le {neg : Bool} (hK : X.K = c.E.K) {σ : St} {H : Hp} {Q : VK} (h : tI c.E c.W (ev c.o (.inr neg ta tb)) σ H Q) : tOp (rIn X.K neg) (tI c.E c.W (ev c.o ta)) (tI c.E c.W (ev c.o tb)) σ H Q := by
  obtain ⟨ρ, S, s, w, p⟩ := h
  refine ⟨ρ, S, s, w, (Post.bind p).imp ?_⟩
  rintro x H1 ⟨ρ1, S1, s1, d1, a1, r1, p1⟩
  refine ⟨ρ1, S1, s1, a1.wd, (Post.bind p1).imp ?_⟩
  rintro y H2 ⟨ρ2, S2, s2, d2, a2, r2, p2⟩
  split at p2
  · rename_i ds e1
    obtain ⟨z, e2, p3⟩ := Post.of p2
    obtain ⟨k, e3, rfl⟩ := map_inv e2
    obtain ⟨hb, rfl⟩ := bif_inv (show (bif flat d1 && ds.all flat then some (ds.any fun y => eqF y d1) else none) = some k from e3)
    rw [Bool.and_eq_true] at hb
    have r1' := r1.mono a2.inc
    have ov : Opd c.E S2 ρ2 H2 y (view s2.g d2) := Opd.view (s := s2) a2.wd.gr r2
    have key : ∃ p xs, y = .ref p ∧ (SqL c.E.K H2 p xs ∨ SqT c.E.K H2 p xs) ∧ Reps c.E S2 ρ2 xs ds := by
      cases hv : view s2.g d2 with
      | lst es =>
        rw [hv] at e1 ov
        cases e1
        obtain ⟨a, vs, q1, q2, q3⟩ := ov.lst (s := s2) a2.wd.gr
        exact ⟨a, vs, q1, .inl q2, q3⟩
      | tup es =>
        rw [hv] at e1 ov
        cases e1
        obtain ⟨a, vs, q1, q2, q3⟩ := ov.tup (s := s2) a2.wd.gr
        exact ⟨a, vs, q1, .inr q2, q3⟩
      | _ => rw [hv] at e1; cases (show (none : Option (List D)) = some ds from e1)
    obtain ⟨pp, xs, rfl, sq, rs⟩ := key
    refine ⟨pp, xs, rfl, hK ▸ sq, by rw [r1'.flat]; exact hb.1, by rw [rs.allF]; exact hb.2, Post.here a2.wd ?_ p3⟩
    rw [rs.inV r1']
    cases neg with
    | true => exact .bl _
    | false => exact .bl _
  · exact p2.elim
theorem pi_inr {neg : Bool} {op : CmpOp} (hK : X.K = c.E.K) (ho : OpR X (compareOp op) (rIn X.K neg)) (ha : PEI c X a ta) (hb : PEI c X b tb) (hm : behindInMarks op b = false) : PEI c X (.Compare a [op] [b] pos) (.inr neg ta tb) :=
  pe_le (pe_cmpR ho ha hb hm) fun _ _ _ => inr_le hK
theorem pit_inr {neg : Bool} {op : CmpOp} (hK : X.K = c.E.K) (ho : OpR X (compareOp op) (rIn X.K neg)) (ha : PEI c X a ta) (hb : PEI c X b tb) (hm : behindInMarks op b = false) : PTI c X (.Compare a [op] [b] pos) (.inr neg ta tb) :=
  pt_le (pt_cmpR ho ha hb hm) fun _ _ _ => inr_le hK
end
end Pi
namespace Pi
open PySem L2

section
variable {c : Cn} {X : Cx} {e a b d : Expr} {ta tb td tl th : T} {pos : Pos} {rest : List Expr}

/-! ### built-in functions -/
inductive Opds (E : En) (S : Hp) (ρ : List Addr) (H : Hp) : List V → List D → Prop
  | nil : Opds E S ρ H [] []
  | cons {v : V} {d : D} {vs : List V} {ds : List D} : Opd E S ρ H v d → Opds E S ρ H vs ds → Opds E S ρ H (v :: vs) (d :: ds)
theorem Opds.view {E : En} {S H : Hp} {ρ : List Addr} {s : Pi.S} (w : Gr E ρ S s.g H) : ∀ {vs : List V} {ds : List D}, Reps E S ρ vs ds → Opds E S ρ H vs (ds.map (view s.g))
  | _, _, .nil => .nil
  | _, _, .cons h r => .cons (Opd.view w h) (Opds.view w r)
def rBi (E : En) (k : Bi) : List V → Hp → VK → Prop := fun vs H Q => ∃ ρ S g ds z, Gr E ρ S g H ∧ Opds E S ρ H vs ds ∧ biV k ds = some z ∧ Give E S ρ H z Q
theorem bi_le {k : Bi} {σ : St} {H : Hp} {Q : VK} (h : tI c.E c.W (ev c.o (.bi k ta)) σ H Q) : tCB (rBi c.E k) (tIA c.E c.W (evA c.o ta)) σ H Q := by
  obtain ⟨ρ, S, s, w, p⟩ := h
  refine ⟨ρ, S, s, w, (Post.bindA p).imp ?_⟩
  rintro x H1 ⟨ρ1, S1, s1, d1, a1, r1, p1⟩
  obtain ⟨z, e, p2⟩ := Post.of p1
  exact ⟨ρ1, S1, s1.g, _, z, a1.wd.gr, Opds.view (s := s1) a1.wd.gr r1, e, Post.give a1.wd p2⟩
theorem pi_bi {k : Bi} {x : Str} {id : String} {p : Pos} {es : List Expr} (ho : CallR X (.builtin id) (rBi c.E k)) (hg : Gl X x) (hm : X.mg x = none) (hv : bootBuiltins x = some (.builtin id)) (ha : PAI c X (e :: es) ta) (hn : x ≠ "__name__" := by decide) (hdb : (x == ("__debug__" : Str)) = false := by decide)
    (he : starEach (e :: es) X.env = (false, eval e X.env) :: starEach es X.env := by rfl) (hpl : (backTo pos (starEach es X.env)).any (·.1) = false := by rfl) : PEI c X (.Call (.Name x p) (e :: es) [] pos) (.bi k ta) :=
  pe_le (pe_callB ho hg hm hv ha hn hdb he hpl) fun _ _ _ => bi_le
theorem pi_bty {k : Bi} {x : Str} {id : String} {p : Pos} {es : List Expr} (ho : CallR X (.type id) (rBi c.E k)) (hg : Gl X x) (hm : X.mg x = none) (hv : bootBuiltins x = some (.type id)) (ha : PAI c X (e :: es) ta) (hn : x ≠ "__name__" := by decide) (hdb : (x == ("__debug__" : Str)) = false := by decide)
    (he : starEach (e :: es) X.env = (false, eval e X.env) :: starEach es X.env := by rfl) (hpl : (backTo pos (starEach es X.env)).any (·.1) = false := by rfl) : PEI c X (.Call (.Name x p) (e :: es) [] pos) (.bi k ta) :=
  pe_le (pe_callTy ho hg hm hv ha hn hdb he hpl) fun _ _ _ => bi_le
end
section
variable {X : Cx} {E : En}
theorem arg1_inv {f : D → Option D} {S H : Hp} {ρ : List Addr} {vs : List V} {ds : List D} {z : D} (o : Opds E S ρ H vs ds) (h : arg1 f ds = some z) : ∃ v d, vs = [v] ∧ Opd E S ρ H v d ∧ f d = some z := by
  cases o with
  | nil => cases (show (none : Option D) = some z from h)
  | cons h1 r =>
    cases r with
    | nil => exact ⟨_, _, rfl, h1, h⟩
    | cons _ _ => cases (show (none : Option D) = some z from h)
theorem arg2_inv {f : D → D → Option D} {S H : Hp} {ρ : List Addr} {vs : List V} {ds : List D} {z : D} (o : Opds E S ρ H vs ds) (h : arg2 f ds = some z) : ∃ v u d e, vs = [v, u] ∧ Opd E S ρ H v d ∧ Opd E S ρ H u e ∧ f d e = some z := by
  cases o with
  | nil => cases (show (none : Option D) = some z from h)
  | cons h1 r =>
    cases r with
    | nil => cases (show (none : Option D) = some z from h)
    | cons h2 r =>
      cases r with
      | nil => exact ⟨_, _, _, _, rfl, h1, h2, h⟩
      | cons _ _ => cases (show (none : Option D) = some z from h)
theorem seqD_inv {S H : Hp} {ρ : List Addr} {g : List MO} {v : V} {d : D} {ds : List D} (w : Gr E ρ S g H) (h : Opd E S ρ H v d) (e : seqD d = some ds) : ∃ a vs, v = .ref a ∧ Reps E S ρ vs ds ∧ ((SqL E.K H a vs ∧ d = .lst ds) ∨ (SqT E.K H a vs ∧ d = .tup ds)) := by
  cases d with
  | lst es =>
    cases e
    obtain ⟨a, vs, q1, q2, q3⟩ := h.lst (s := ⟨[], g⟩) w
    exact ⟨a, vs, q1, q3, .inl ⟨q2, rfl⟩⟩
  | tup es =>
    cases e
    obtain ⟨a, vs, q1, q2, q3⟩ := h.tup (s := ⟨[], g⟩) w
    exact ⟨a, vs, q1, q3, .inr ⟨q2, rfl⟩⟩
  | _ => cases (show (none : Option (List D)) = some ds from e)
theorem bii_len (hK : X.K = E.K) : CallR X (.builtin "len") (rBi E .len) := by
  intro pins s σ H xs us Q I r h
  obtain ⟨ρ, S, g, ds, z, w, ho, e, gv⟩ := h
  obtain ⟨v, d, rfl, ho, e⟩ := arg1_inv ho e
  obtain ⟨n, e1, rfl⟩ := map_inv e
  cases d with
  | lst es =>
    cases e1
    obtain ⟨a, vs, rfl, sq, rr⟩ := ho.lst (s := ⟨[], g⟩) w
    exact call_len_seq pins s σ H _ us Q I r ⟨a, vs, rfl, .inl (hK ▸ sq), by rw [rr.len]; exact gv.old _ (.int _)⟩
  | tup es =>
    cases e1
    obtain ⟨a, vs, rfl, sq, rr⟩ := ho.tup (s := ⟨[], g⟩) w
    exact call_len_seq pins s σ H _ us Q I r ⟨a, vs, rfl, .inr (hK ▸ sq), by rw [rr.len]; exact gv.old _ (.int _)⟩
  | str y =>
    obtain ⟨hb, rfl⟩ := bif_inv (show (bif decide (y.length ≤ big) then some y.length else none) = some n from e1)
    cases ho.str
    exact call_len_str pins s σ H _ us Q I r ⟨y, rfl, le_line (of_decide_eq_true hb), gv.old _ (.int _)⟩
  | _ => cases (show (none : Option Nat) = some n from e1)
theorem bii_abs : CallR X (.builtin "abs") (rBi E .abs) := by
  intro pins s σ H xs us Q I r h
  obtain ⟨ρ, S, g, ds, z, w, ho, e, gv⟩ := h
  obtain ⟨v, d, rfl, ho, e⟩ := arg1_inv ho e
  cases d with
  | int i =>
    cases e
    cases ho.int
    exact call_abs pins s σ H _ us Q I r ⟨i, rfl, gv.old _ (.int _)⟩
  | _ => cases (show (none : Option D) = some z from e)
theorem bii_int : CallR X (.type "int") (rBi E .int) := by
  intro pins s σ H xs us Q I r h
  obtain ⟨ρ, S, g, ds, z, w, ho, e, gv⟩ := h
  obtain ⟨v, d, rfl, ho, e⟩ := arg1_inv ho e
  cases d with
  | int i =>
    cases e
    cases ho.int
    exact call_int1 pins s σ H _ us Q I r (.inl ⟨i, rfl, gv.old _ (.int _)⟩)
  | _ => cases (show (none : Option D) = some z from e)
theorem bii_str : CallR X (.type "str") (rBi E .str) := by
  intro pins s σ H xs us Q I r h
  obtain ⟨ρ, S, g, ds, z, w, ho, e, gv⟩ := h
  obtain ⟨v, d, rfl, ho, e⟩ := arg1_inv ho e
  cases d with
  | int i =>
    obtain ⟨hb, rfl⟩ := bif_inv (show (bif decide (i.natAbs.log2 < 1920) then some (D.str (toString i)) else none) = some z from e)
    cases ho.int
    exact call_str_int pins s σ H _ us Q I r ⟨i, rfl, of_decide_eq_true hb, gv.old _ (.str _)⟩
  | str y =>
    cases e
    cases ho.str
    exact SkE.call_str_str pins s σ H _ us Q I r ⟨y, rfl, gv.old _ (.str _)⟩
  | _ => cases (show (none : Option D) = some z from e)
theorem bii_list (hK : X.K = E.K) : CallR X (.type "list") (rBi E .list) := by
  intro pins s σ H xs us Q I r h
  obtain ⟨ρ, S, g, ds, z, w, ho, e, gv⟩ := h
  obtain ⟨v, d, rfl, ho, e⟩ := arg1_inv ho e
  obtain ⟨es, e1, rfl⟩ := map_inv e
  obtain ⟨a, vs, rfl, rr, q⟩ := seqD_inv w ho e1
  refine call_list_of pins s σ H _ us Q I r ⟨a, vs, rfl, ?_, fun l hl => gv.lst l _ _ rfl rr hl⟩
  rcases q with ⟨q, _⟩ | ⟨q, _⟩
  · exact .inl (hK ▸ q)
  · exact .inr (hK ▸ q)
theorem bii_tuple (hK : X.K = E.K) : CallR X (.type "tuple") (rBi E .tuple) := by
  intro pins s σ H xs us Q I r h
  obtain ⟨ρ, S, g, ds, z, w, ho, e, gv⟩ := h
  obtain ⟨v, d, rfl, ho, e⟩ := arg1_inv ho e
  obtain ⟨es, e1, rfl⟩ := map_inv e
  obtain ⟨a, vs, rfl, rr, q⟩ := seqD_inv w ho e1
  refine call_tuple_of pins s σ H _ us Q I r ⟨a, vs, rfl, ?_⟩
  rcases q with ⟨q, _⟩ | ⟨q, rfl⟩
  · exact .inl ⟨hK ▸ q, fun l hl => gv.tup l _ _ rfl rr hl⟩
  · refine .inr ⟨hK ▸ q, gv.old _ ?_⟩
    cases ho with | rep r' => exact r'
theorem bools_inv {S : Hp} {ρ : List Addr} : ∀ {ds : List D} {bs : List Bool} {vs : List V}, bools ds = some bs → Reps E S ρ vs ds → vs = bs.map V.bl
  | [], bs, vs, e, r => by cases e; cases r; rfl
  | .bl b :: ds, bs, vs, e, r => by
    obtain ⟨cs, e1, rfl⟩ := map_inv (show (bools ds).map (b :: ·) = some bs from e)
    cases r with
    | cons h r =>
      cases h
      rw [bools_inv e1 r]
      rfl
  | .non :: _, _, _, e, _ => by cases e
  | .int _ :: _, _, _, e, _ => by cases e
  | .str _ :: _, _, _, e, _ => by cases e
  | .tup _ :: _, _, _, e, _ => by cases e
  | .lst _ :: _, _, _, e, _ => by cases e
  | .ins _ _ :: _, _, _, e, _ => by cases e
  | .ref _ :: _, _, _, e, _ => by cases e
theorem lst1_inv {f : List D → Option D} {d z : D} (h : lst1 f d = some z) : ∃ ds, d = .lst ds ∧ f ds = some z := by
  cases d with
  | lst ds => exact ⟨ds, rfl, h⟩
  | _ => cases (show (none : Option D) = some z from h)
theorem bii_all (hK : X.K = E.K) (hc : X.calm = true) : CallR X (.builtin "all") (rBi E .all) := by
  intro pins s σ H xs us Q I r h
  obtain ⟨ρ, S, g, ds, z, w, ho, e, gv⟩ := h
  obtain ⟨v, d, rfl, ho, e⟩ := arg1_inv ho e
  obtain ⟨es, rfl, e⟩ := lst1_inv e
  obtain ⟨k, e1, rfl⟩ := map_inv e
  obtain ⟨bs, e2, rfl⟩ := map_inv (show (bools es).map (·.all id) = some k from e1)
  obtain ⟨a, vs, rfl, sq, rr⟩ := ho.lst (s := ⟨[], g⟩) w
  cases bools_inv e2 rr
  exact cr_all hc pins s σ H _ us Q I r ⟨a, bs, rfl, hK ▸ sq, gv.old _ (.bl _)⟩
theorem bii_any (hK : X.K = E.K) (hc : X.calm = true) : CallR X (.builtin "any") (rBi E .any) := by
  intro pins s σ H xs us Q I r h
  obtain ⟨ρ, S, g, ds, z, w, ho, e, gv⟩ := h
  obtain ⟨v, d, rfl, ho, e⟩ := arg1_inv ho e
  obtain ⟨es, rfl, e⟩ := lst1_inv e
  obtain ⟨k, e1, rfl⟩ := map_inv e
  obtain ⟨bs, e2, rfl⟩ := map_inv (show (bools es).map (·.any id) = some k from e1)
  obtain ⟨a, vs, rfl, sq, rr⟩ := ho.lst (s := ⟨[], g⟩) w
  cases bools_inv e2 rr
  exact cr_any hc pins s σ H _ us Q I r ⟨a, bs, rfl, hK ▸ sq, gv.old _ (.bl _)⟩
theorem i2_inv {f : Int → Int → Option D} {S H : Hp} {ρ : List Addr} {x y : V} {d e z : D} (h1 : Opd E S ρ H x d) (h2 : Opd E S ρ H y e) (h : i2V f d e = some z) : ∃ i j, x = .int i ∧ y = .int j ∧ f i j = some z := by
  obtain ⟨i, j, rfl, rfl, q⟩ := i2V_inv h
  exact ⟨i, j, h1.int, h2.int, q⟩
theorem bii_max2 (hc : X.calm = true) : CallR X (.builtin "max") (rBi E .max2) := by
  intro pins s σ H xs us Q I r h
  obtain ⟨ρ, S, g, ds, z, w, ho, e, gv⟩ := h
  obtain ⟨v, u, d, d2, rfl, h1, h2, e⟩ := arg2_inv ho e
  obtain ⟨i, j, rfl, rfl, q⟩ := i2_inv h1 h2 e
  cases q
  exact call_max2 hc pins s σ H _ us Q I r ⟨i, j, rfl, gv.old _ (.int _)⟩
theorem bii_min2 (hc : X.calm = true) : CallR X (.builtin "min") (rBi E .min2) := by
  intro pins s σ H xs us Q I r h
  obtain ⟨ρ, S, g, ds, z, w, ho, e, gv⟩ := h
  obtain ⟨v, u, d, d2, rfl, h1, h2, e⟩ := arg2_inv ho e
  obtain ⟨i, j, rfl, rfl, q⟩ := i2_inv h1 h2 e
  cases q
  exact call_min2 hc pins s σ H _ us Q I r ⟨i, j, rfl, gv.old _ (.int _)⟩
end

/-! ### an instance is made -/
abbrev atB (p : Addr) : Bs := ⟨fun a => a = p, fun a => a = p⟩
def PostN (E : En) (ρ : List Addr) (S H : Hp) (p : Addr) (k : Nat) (r : CI) (Q : VK) (Z : XK) : Prop := match r with
  | .ok fs g' => ∀ ρ' S' H' dx fv, Step ρ S (atB p) H ρ' S' (atB p) H' → Gr E ρ' S' g' H' → H' p = some (.ins (E.cl k) dx fv) → E.fits k fs → RepF E S' ρ' fv fs → S' p = none → p ∉ ρ' → Q .non H'
  | .ex c fs g' => ∀ ρ' S' H' x fv, Step ρ S (atB p) H ρ' S' (atB p) H' → Gr E ρ' S' g' H' → S' x = some (.xd fv) → RepF E S' ρ' fv fs → Z (.ref (E.cl c)) (some x) H'
  | .no => False
def spN (E : En) (n k : Nat) (m : List D → List MO → CI) : Sp := fun vs H Q Z => ∃ p ws dx ρ S g ds, vs = .ref p :: ws ∧ ws.length = n ∧ H p = some (.ins (E.cl k) dx []) ∧ S p = none ∧ p ∉ ρ ∧ Gr E ρ S g H ∧ Reps E S ρ ws ds ∧ PostN E ρ S H p k (m ds g) Q Z
structure Maker (c : Cn) (X : Cx) (x : Str) (k n : Nat) (df : List D) : Prop where
  co : c.E.co k = true
  ex : ∃ (j : Nat) (f : Addr) (fd : FuncData) (ps : List Str) (dvs : List V) (ds : List Value), Mk X.K (c.E.cl k) f ∧ FnOk X.prog X.w X.K X.mg X.base (L2.CX X.prog X.w) j f fd ps (spN c.E n k (c.o.init k)) ∧ Room (j + 1) X.A ∧
    X.mg x = some (.ref (c.E.cl k)) ∧ Binds X.K fd ps ds ∧ Vals dvs ds ∧ ∀ S ρ, Reps c.E S ρ dvs df
theorem Gr.off2 {E : En} {ρ : List Addr} {S H H' : Hp} {g : List MO} (w : Gr E ρ S g H) (k : ∀ a, H a ≠ none → H' a = H a) : Gr E ρ S g H' := by
  refine ⟨fun a o e => ?_, w.len, w.nd, w.off, fun n a m e1 e2 => ?_⟩
  · have := w.sub a o e
    rw [k a (by rw [this]; exact fun z => nomatch z)]
    exact this
  · refine (w.ob n a m e1 e2).mono (Inc.refl _ _) fun o q => ?_
    rw [k a (by rw [q]; exact fun z => nomatch z)]
    exact q
/-- the made instance is handed on -/
theorem made {E : En} {ρ ρ' : List Addr} {S S' H H1 H' : Hp} {s : Pi.S} {g' : List MO} {σ : St} {x dx' : Addr} {k : Nat} {fv : List (Str × V)} (w : Wd E ρ S s σ H) (hx : H x = none) (h1 : ∀ a, H a ≠ none → H1 a = H a)
    (st : Step ρ S (atB x) H1 ρ' S' (atB x) H') (gr : Gr E ρ' S' g' H') (hp : H' x = some (.ins (E.cl k) dx' fv)) (sx : S' x = none) (nx : x ∉ ρ') :
    let S2 := upd S' x (.ins (E.cl k) dx' fv)
    Wd E ρ' S2 ⟨s.l, g'⟩ σ H' ∧ Step ρ S (Ow σ s.l) H ρ' S2 (Ow σ s.l) H' ∧ Inc S' ρ' S2 ρ' := by
  intro S2
  have i2 : Inc S' ρ' S2 ρ' := Inc.new sx
  have dom : ∀ a, H1 a = none → H a = none := fun a e => by
    cases q : H a with
    | none => rfl
    | some o => rw [h1 a (by rw [q]; exact fun z => nomatch z), q] at e; cases e
  have off : ∀ a, Ow σ s.l a → a ∉ ρ ∧ S a = none ∧ ∃ o, H a = some o := fun a ⟨i, q1, q2⟩ => by
    rcases q2 with ⟨ds, q2⟩ | ⟨k, fs, q2⟩
    · obtain ⟨a', vs, z1, z2, z3, z4, z5⟩ := w.sl.own i ds q2
      rw [q1] at z1; cases z1; exact ⟨z5, z4, _, z2⟩
    · obtain ⟨a', dx, fv, z1, z2, zf, z3, z4, z5⟩ := w.sl.ob i k fs q2
      rw [q1] at z1; cases z1; exact ⟨z5, z4, _, z2⟩
  have frH : ∀ a o, H a = some o → a ∉ ρ → H' a = some o := fun a o e n => by
    have e1 : H1 a = some o := by rw [h1 a (by rw [e]; exact fun z => nomatch z)]; exact e
    exact st.fr a o e1 n fun z => by rw [z, hx] at e; cases e
  have nS : ∀ a o, S2 a = some o → S a = some o ∨ H a = none := fun a o e => by
    by_cases q : a = x
    · subst q; exact .inr hx
    · have e' : S' a = some o := by rw [← upd_ne (H := S') (o := .ins (E.cl k) dx' fv) q]; exact e
      rcases st.nS a o e' with z | z | z
      · exact .inl z
      · exact .inr (dom a z)
      · exact absurd z q
  have gr2 : Gr E ρ' S2 g' H' := by
    refine ⟨fun a o e => ?_, gr.len, gr.nd, fun a ha => ?_, fun n a m e1 e2 => (gr.ob n a m e1 e2).mono i2 fun _ q => q⟩
    · by_cases q : a = x
      · subst q
        have e' : some (HO.ins (E.cl k) dx' fv) = some o := by rw [← upd_same (H := S') (a := a) (o := .ins (E.cl k) dx' fv)]; exact e
        rw [hp]
        exact e'
      · exact gr.sub a o (by rw [← upd_ne (H := S') (o := .ins (E.cl k) dx' fv) q]; exact e)
    · show upd S' x _ a = none
      rw [upd_ne (show a ≠ x from fun z => nx (z ▸ ha))]
      exact gr.off a ha
  refine ⟨⟨gr2, w.sl.keep (st.inc.trans i2) (fun a o u e => frH a u e (off a o).1) (fun a o ne e => ?_) fun a o ne n z => ?_⟩, ⟨st.inc.trans i2, fun a ha => ?_, fun a o e => ?_, fun a h => .inl h, fun a o e n _ => frH a o e n, fun a e => ?_, fun _ h => h⟩, i2⟩
  · cases q : S2 a with
    | none => rfl
    | some u =>
      rcases nS a u q with z | z
      · rw [e] at z; cases z
      · exact absurd z ne
  · rcases st.nρ a z with y | y
    · exact n y
    · exact ne (dom a y)
  · rcases st.nρ a ha with y | y
    · exact .inl y
    · exact .inr (dom a y)
  · rcases nS a o e with z | z
    · exact .inl z
    · exact .inr (.inl z)
  · exact dom a (st.dom a e)
section
variable {c : Cn} {X : Cx} {e a b d : Expr} {ta tb td tl th : T} {pos : Pos} {rest : List Expr}
/-- the exception of an __init__: the instance that was begun is left alone -/
theorem unmade {E : En} {ρ ρ' : List Addr} {S S' H H1 H' : Hp} {s : Pi.S} {g' : List MO} {σ : St} {x : Addr} (w : Wd E ρ S s σ H) (hx : H x = none) (h1 : ∀ a, H a ≠ none → H1 a = H a)
    (st : Step ρ S (atB x) H1 ρ' S' (atB x) H') (gr : Gr E ρ' S' g' H') :
    Wd E ρ' S' ⟨s.l, g'⟩ σ H' ∧ Step ρ S (Ow σ s.l) H ρ' S' (Ow σ s.l) H' := by
  have dom : ∀ a, H1 a = none → H a = none := fun a e => by
    cases q : H a with
    | none => rfl
    | some o => rw [h1 a (by rw [q]; exact fun z => nomatch z), q] at e; cases e
  have off : ∀ a, Ow σ s.l a → a ∉ ρ ∧ S a = none ∧ ∃ o, H a = some o := fun a ⟨i, q1, q2⟩ => by
    rcases q2 with ⟨ds, q2⟩ | ⟨k, fs, q2⟩
    · obtain ⟨a', vs, z1, z2, z3, z4, z5⟩ := w.sl.own i ds q2
      rw [q1] at z1; cases z1; exact ⟨z5, z4, _, z2⟩
    · obtain ⟨a', dx, fv, z1, z2, zf, z3, z4, z5⟩ := w.sl.ob i k fs q2
      rw [q1] at z1; cases z1; exact ⟨z5, z4, _, z2⟩
  have frH : ∀ a o, H a = some o → a ∉ ρ → H' a = some o := fun a o e n => by
    have e1 : H1 a = some o := by rw [h1 a (by rw [e]; exact fun z => nomatch z)]; exact e
    exact st.fr a o e1 n fun z => by rw [z, hx] at e; cases e
  have nS : ∀ a o, S' a = some o → S a = some o ∨ H a = none := fun a o e => by
    rcases st.nS a o e with z | z | z
    · exact .inl z
    · exact .inr (dom a z)
    · subst z; exact .inr hx
  refine ⟨⟨gr, w.sl.keep st.inc (fun a o u e => frH a u e (off a o).1) (fun a o ne e => ?_) fun a o ne n z => ?_⟩, ⟨st.inc, fun a ha => ?_, fun a o e => ?_, fun a h => .inl h, fun a o e n _ => frH a o e n, fun a e => dom a (st.dom a e), fun _ h => h⟩⟩
  · cases q : S' a with
    | none => rfl
    | some u =>
      rcases nS a u q with z | z
      · rw [e] at z; cases z
      · exact absurd z ne
  · rcases st.nρ a z with y | y
    · exact n y
    · exact ne (dom a y)
  · rcases st.nρ a ha with y | y
    · exact .inl y
    · exact .inr (dom a y)
  · rcases nS a o e with z | z
    · exact .inl z
    · exact .inr (.inl z)
theorem pi_mk {x : Str} {p : Pos} {es : List Expr} {k n : Nat} {df : List D} {Z : XK} (hz : c.W = fun k d _ H => Z k d H) (tk : Takes X c.W) (F : Maker c X x k n df) (hg : Gl X x) (ha : PAI c X (e :: es) ta) (hl : ta.len + df.length = n := by rfl) (hdb : (x == ("__debug__" : Str)) = false := by decide)
    (he : starEach (e :: es) X.env = (false, eval e X.env) :: starEach es X.env := by rfl) (hpl : (backTo pos (starEach es X.env)).any (·.1) = false := by rfl) : PEI c X (.Call (.Name x p) (e :: es) [] pos) (.mk k ta df) := by
  obtain ⟨j, f, fd, ps, dvs, ds, M, G, hr, hm, hb, hd, hdf⟩ := F.ex
  refine pe_le (pe_make (E := Z) M G hr hg hm hb hd (passes_call tk fun cls d σ H h => by rw [hz]; exact h) ha hdb he hpl) fun σ H Q h => ?_
  obtain ⟨ρ, S, s, w, p⟩ := h
  refine ⟨ρ, S, s, w, (Post.bindA2 p).imp ?_⟩
  rintro vs H1 ⟨ρ1, S1, s1, d1, e1, a1, r1, p1⟩
  intro q dx hq hdx hne
  have k1 : ∀ a, H1 a ≠ none → (upd (upd H1 dx (.own q)) q (.ins (c.E.cl k) dx [])) a = H1 a := fun a ne => by
    rw [upd_ne (show a ≠ q from fun z => ne (z ▸ hq)), upd_ne (show a ≠ dx from fun z => ne (z ▸ hdx))]
  obtain ⟨f1, f2⟩ := a1.wd.gr.fresh hq
  refine ⟨q, _, dx, ρ1, S1, s1.g, d1 ++ df, rfl, ?_, upd_same, f1, f2, a1.wd.gr.off2 k1, r1.append (hdf S1 ρ1), ?_⟩
  · rw [List.length_append, r1.len, (hdf S1 ρ1).len, evA_len e1, hl]
  · show PostN c.E ρ1 S1 _ q k (c.o.init k (d1 ++ df) s1.g) _ Z
    have p2 : Post c.E c.W σ ρ1 S1 s1.l H1 (R.ofCI s1.l k (c.o.init k (d1 ++ df) s1.g)) Q := p1
    cases hc : c.o.init k (d1 ++ df) s1.g with
    | ok fs g' =>
      rw [hc] at p2
      intro ρ' S' H' dx' fv st gr hp hf rf sp np
      obtain ⟨w3, st3, i3⟩ := made (E := c.E) a1.wd hq k1 st gr hp sp np
      exact ⟨rfl, p2 _ ρ' _ H' st3 w3 (.ins upd_same hf (rf.mono i3))⟩
    | ex k' fs g' =>
      rw [hc] at p2
      intro ρ' S' H' y fv st gr hy rf
      obtain ⟨w3, st3⟩ := unmade (E := c.E) a1.wd hq k1 st gr
      have := p2 ρ' S' H' y fv st3 w3 hy rf
      rw [hz] at this
      exact this
    | no => rw [hc] at p2; exact p2
end
end Pi
namespace Pi
open PySem L2

section
variable {c : Cn} {X : Cx} {e a b d o : Expr} {ta tb td tl th : T} {pos apos : Pos} {rest es : List Expr}

/-! ### methods: the class is found where the call is done -/
structure Way (c : Cn) (X : Cx) (m : Str) (f n : Nat) (C : Addr) (df : List D) : Prop where
  ex : ∃ (k : Nat) (a : Addr) (fd : FuncData) (ps : List Str) (dvs : List V) (ds : List Value), FnOk X.prog X.w X.K X.mg X.base (L2.CX X.prog X.w) k a fd ps (spI c.E (n + 1) (c.o.call f)) ∧ Room k X.A ∧
    Meth X.K C m a ∧ Binds X.K fd ps ds ∧ Vals dvs ds ∧ ∀ S ρ, Reps c.E S ρ dvs df
/-- every class that has the method -/
structure Ways (c : Cn) (X : Cx) (m : Str) (mi n : Nat) (df : List D) : Prop where
  no : ∀ i, i < c.E.nat → c.E.at_ i ≠ m
  ex : ∀ k f, c.E.co k = true → c.o.meth k mi = some f → Way c X m f n (c.E.cl k) df
theorem clsS_inv {E : En} {S H : Hp} {ρ : List Addr} {g : List MO} {x : V} {d : D} {k : Nat} (w : Gr E ρ S g H) (r : Rep E S ρ x d) (h : clsS g d = some k) : ∃ a dx fv fs, x = .ref a ∧ H a = some (.ins (E.cl k) dx fv) ∧ E.fits k fs ∧ RepF E S ρ fv fs := by
  cases r with
  | ins h1 h2 h3 =>
    cases h
    exact ⟨_, _, _, _, rfl, w.sub _ _ h1, h2, h3⟩
  | @ref a n h1 =>
    have e2 : (match g[n]? with
      | some (.ins c _) => some c
      | _ => none) = some k := h
    split at e2
    · rename_i k' fs q
      cases e2
      obtain ⟨dx, fv, q1, q2, q3⟩ := w.ob n a _ h1 q
      exact ⟨a, dx, fv, fs, rfl, q1, q2, q3⟩
    · cases e2
  | non => cases h
  | bl _ => cases h
  | int _ => cases h
  | str _ => cases h
  | tup _ _ => cases h
  | lst _ _ => cases h
theorem pi_meth {m : Str} {mi n : Nat} {df : List D} {pl : Sem Bool} (hK : X.K = c.E.K) (tk : Takes X c.W) (F : Ways c X m mi n df) (he : PEI c X o ta) (ha : PAI c X (e :: es) tb) (hl : tb.len + df.length = n := by rfl)
    (hst : starEach (e :: es) X.env = (false, eval e X.env) :: starEach es X.env := by rfl) (hpl : (backTo pos (starEach es X.env)).any (·.1) = false := by rfl)
    (ht : eval (.Call (.Attribute o m apos) (e :: es) [] pos) X.env = (do
      let ov ← eval o X.env
      standAt apos.atName
      let (f, first) ← holding [ov] (getMethod ov m pl)
      callWith pos f first (backTo pos (starEach (e :: es) X.env)) (backToKw pos (keywordEach [] X.env))) := by rfl) : PEI c X (.Call (.Attribute o m apos) (e :: es) [] pos) (.meth mi ta tb df) := by
  refine ⟨fun pins s0 σ H Q I h => ?_⟩
  obtain ⟨ρ, S, s, w, p⟩ := h
  refine methcall_of (te := tI c.E c.W (ev c.o ta)) he I ?_ ht
  refine ⟨ρ, S, s, w, (Post.bind p).imp ?_⟩
  rintro x H1 ⟨ρ1, S1, s1, d1, a1, r1, p1⟩
  split at p1
  · rename_i k hk
    split at p1
    · rename_i f hf
      obtain ⟨q, dx, fv, fs, rfl, h1, h2, h3⟩ := clsS_inv a1.wd.gr r1 hk
      obtain ⟨j, g, fd, ps, dvs, ds, G, hr, hm, hb, hd, hdf⟩ := (F.ex k f h2.1 hf).ex
      refine ⟨q, _, dx, fv, g, rfl, h1, hK ▸ (c.E.cok k h2.1).1, hm, h3.out F.no, fun s2 I2 => ?_⟩
      refine PySem.W.callWith_K (first := [.ref q]) (h₀ := X.base) I2.ok.mod.kin hm.kp (thn (ha.run pos pins s2 σ H1 (fun vs H2 => spI c.E (n + 1) (c.o.call f) (.ref q :: (vs ++ dvs)) H2 Q (WE c.W σ)) I2 ?_) fun us s3 ⟨vs, H2, I3, r, q2⟩ => ⟨I3.kIn, ?_⟩) hst hpl
      · refine ⟨ρ1, S1, s1, a1.wd, (Post.bindA2 p1).imp ?_⟩
        rintro vs H2 ⟨ρ2, S2, s2, d2, e2, a2, r2, p2⟩
        refine ⟨?_, ρ2, S2, s2.g, _, a2.wd.gr, .cons (r1.mono a2.inc) (r2.append (hdf S2 ρ2)), p2.call a2.wd⟩
        rw [List.length_cons, List.length_append, r2.len, (hdf S2 ρ2).len, evA_len e2, hl]
      · exact run_fnSD (us := .ref q :: us) (vs := .ref q :: vs) G hr hb hd (passAt tk σ) I3 (.cons rfl r) q2
    · exact p1.elim
  · exact p1.elim
theorem pi_meth0 {m : Str} {mi n : Nat} {df : List D} {pl : Sem Bool} (hK : X.K = c.E.K) (tk : Takes X c.W) (F : Ways c X m mi n df) (he : PEI c X o ta) (hl : df.length = n := by rfl)
    (ht : eval (.Call (.Attribute o m apos) [] [] pos) X.env = (do
      let ov ← eval o X.env
      standAt apos.atName
      let (f, first) ← holding [ov] (getMethod ov m pl)
      callWith pos f first (backTo pos (starEach [] X.env)) (backToKw pos (keywordEach [] X.env))) := by rfl) : PEI c X (.Call (.Attribute o m apos) [] [] pos) (.meth mi ta .nil df) := by
  refine ⟨fun pins s0 σ H Q I h => ?_⟩
  obtain ⟨ρ, S, s, w, p⟩ := h
  refine methcall_of (te := tI c.E c.W (ev c.o ta)) he I ?_ ht
  refine ⟨ρ, S, s, w, (Post.bind p).imp ?_⟩
  rintro x H1 ⟨ρ1, S1, s1, d1, a1, r1, p1⟩
  split at p1
  · rename_i k hk
    split at p1
    · rename_i f hf
      obtain ⟨q, dx, fv, fs, rfl, h1, h2, h3⟩ := clsS_inv a1.wd.gr r1 hk
      obtain ⟨j, g, fd, ps, dvs, ds, G, hr, hm, hb, hd, hdf⟩ := (F.ex k f h2.1 hf).ex
      refine ⟨q, _, dx, fv, g, rfl, h1, hK ▸ (c.E.cok k h2.1).1, hm, h3.out F.no, fun s2 I2 => ?_⟩
      have p2 : Post c.E c.W σ ρ1 S1 s1.l H1 (R.ofC s1.l (c.o.call f (d1 :: ([] ++ df)) s1.g)) Q := p1
      have hsp : spI c.E (n + 1) (c.o.call f) (.ref q :: dvs) H1 Q (WE c.W σ) := by
        refine ⟨?_, ρ1, S1, s1.g, _, a1.wd.gr, .cons r1 (hdf S1 ρ1), p2.call a1.wd⟩
        rw [List.length_cons, (hdf S1 ρ1).len, hl]
      exact PySem.W.callWith_K0 (first := [.ref q]) I2.kIn hm.kp (run_fnSD (us := [.ref q]) (vs := [.ref q]) G hr hb hd (passAt tk σ) I2 (.cons rfl .nil) hsp)
    · exact p1.elim
  · exact p1.elim
end
end Pi
namespace Pi
open PySem L2

/-! ### slots -/
section
variable {E : En} {ρ : List Addr} {S H : Hp} {s : Pi.S} {σ : St} {l : List SV}
theorem Ow_set {i : Nat} {v : V} {d : D} {a : Addr} (hl : σ.length = l.length) (h : Ow (σ.set i (some v)) (l.set i (.v d)) a) : Ow σ l a := by
  obtain ⟨j, h1, h2⟩ := h
  by_cases q : i = j
  · subst q
    exfalso
    by_cases hi : i < l.length
    · rcases h2 with ⟨ds, h2⟩ | ⟨k, fs, h2⟩
      · rw [List.getElem?_set_self hi] at h2; cases h2
      · rw [List.getElem?_set_self hi] at h2; cases h2
    · rw [List.getElem?_eq_none (by rw [List.length_set]; omega)] at h1
      cases h1
  · rw [List.getElem?_set_ne q] at h1
    refine ⟨j, h1, ?_⟩
    rcases h2 with ⟨ds, h2⟩ | ⟨k, fs, h2⟩
    · rw [List.getElem?_set_ne q] at h2; exact .inl ⟨ds, h2⟩
    · rw [List.getElem?_set_ne q] at h2; exact .inr ⟨k, fs, h2⟩
theorem Ob_set {i : Nat} {v : V} {d : D} {a : Addr} (hl : σ.length = l.length) (h : ObP (σ.set i (some v)) (l.set i (.v d)) a) : ObP σ l a := by
  obtain ⟨j, h1, c, fs, h2⟩ := h
  by_cases q : i = j
  · subst q
    exfalso
    by_cases hi : i < l.length
    · rw [List.getElem?_set_self hi] at h2; cases h2
    · rw [List.getElem?_eq_none (by rw [List.length_set]; omega)] at h1
      cases h1
  · rw [List.getElem?_set_ne q] at h1 h2
    exact ⟨j, h1, c, fs, h2⟩
theorem Sl.set {i : Nat} {v : V} {d : D} (w : Sl E ρ S H σ l) (r : Rep E S ρ v d) : Sl E ρ S H (σ.set i (some v)) (l.set i (.v d)) := by
  have ne : ∀ {j : Nat} {x : SV}, (l.set i (.v d))[j]? = some x → (∀ d, x ≠ .v d) → i ≠ j ∧ l[j]? = some x := fun {j x} e n => by
    by_cases q : i = j
    · subst q
      by_cases hi : i < l.length
      · rw [List.getElem?_set_self hi] at e; cases e; exact absurd rfl (n _)
      · rw [List.getElem?_eq_none (by rw [List.length_set]; omega)] at e; cases e
    · rw [List.getElem?_set_ne q] at e; exact ⟨q, e⟩
  refine ⟨by simp [w.len], fun j d' e => ?_, fun j ds e => ?_, fun j k fs e => ?_, fun j k a hjk h1 h2 e => ?_⟩
  · by_cases q : i = j
    · subst q
      by_cases hi : i < l.length
      · rw [List.getElem?_set_self hi] at e
        cases e
        exact ⟨v, by rw [List.getElem?_set_self (by rw [w.len]; exact hi)], r⟩
      · rw [List.getElem?_eq_none (by rw [List.length_set]; omega)] at e; cases e
    · rw [List.getElem?_set_ne q] at e
      rw [List.getElem?_set_ne q]
      exact w.v j d' e
  · obtain ⟨q, e'⟩ := ne e fun _ z => nomatch z
    rw [List.getElem?_set_ne q]
    exact w.own j ds e'
  · obtain ⟨q, e'⟩ := ne e fun _ z => nomatch z
    rw [List.getElem?_set_ne q]
    exact w.ob j k fs e'
  · have g : ∀ {m : Nat}, ((∃ ds, (l.set i (.v d))[m]? = some (.own ds)) ∨ ∃ c fs, (l.set i (.v d))[m]? = some (.ob c fs)) → i ≠ m ∧ ((∃ ds, l[m]? = some (.own ds)) ∨ ∃ c fs, l[m]? = some (.ob c fs)) := fun {m} h => by
      rcases h with ⟨ds, h⟩ | ⟨c, fs, h⟩
      · obtain ⟨q, e'⟩ := ne h fun _ z => nomatch z
        exact ⟨q, .inl ⟨ds, e'⟩⟩
      · obtain ⟨q, e'⟩ := ne h fun _ z => nomatch z
        exact ⟨q, .inr ⟨c, fs, e'⟩⟩
    obtain ⟨q1, g1⟩ := g h1
    obtain ⟨q2, g2⟩ := g h2
    rw [List.getElem?_set_ne q1] at e
    rw [List.getElem?_set_ne q2]
    exact w.dist j k a hjk g1 g2 e
theorem Step.ow {B B' B2 : Bs} {ρ' : List Addr} {S' H' : Hp} (st : Step ρ S B H ρ' S' B' H') (h : ∀ a, (B2 a → B' a) ∧ (B2.o a → B'.o a)) : Step ρ S B H ρ' S' B2 H' :=
  ⟨st.inc, st.nρ, st.nS, fun a z => st.nB a ((h a).1 z), st.fr, st.dom, fun a z => st.nO a ((h a).2 z)⟩
end

/-! ### targets -/
/-- a target stores a value as the semantics says -/
def TgOk (E : En) (g : TG) (t : Tgt) : Prop := ∀ (ρ : List Addr) (S : Hp) (s : Pi.S) (σ : St) (H : Hp) (x : V) (d : D) (l : List SV) (Q : St → Hp → Prop), Wd E ρ S s σ H → Rep E S ρ x d → tgS t d s.l = some l →
  (∀ σ', Wd E ρ S ⟨l, s.g⟩ σ' H → (∀ a, ((Ow σ' l) a → (Ow σ s.l) a) ∧ (ObP σ' l a → ObP σ s.l a)) → Q σ' H) → g x σ H Q
structure PGI (c : Cn) (X : Cx) (tg : Expr) (t : Tgt) : Prop where
  ex : ∃ g, PG X tg g ∧ TgOk c.E g t
theorem pgi_one {c : Cn} {X : Cx} {i : Nat} {x : Str} {pos : Pos} (hN : X.N.Nodup) (hi : X.N[i]? = some x) (hx : Loc X.env.scope x) (hf : X.fn x = true ∨ X.env.scope.names.lookup x = some .local := by first | exact .inl rfl | exact .inr rfl) : PGI c X (.Name x pos) (.one i) :=
  ⟨_, pg_name hN hi hx hf, fun ρ S s σ H x d l Q w r e k => by
    cases e
    exact k _ ⟨w.gr, w.sl.set r⟩ fun a => ⟨Ow_set w.sl.len, Ob_set w.sl.len⟩⟩
def gAll : List Nat → TGs
  | [] => gNil
  | i :: is => gCons (gName i) (gAll is)
theorem gAll_ok {E : En} : ∀ (is : List Nat) {ρ : List Addr} {S : Hp} {s : Pi.S} {σ : St} {H : Hp} {xs : List V} {ds : List D} {l : List SV} {Q : St → Hp → Prop}, Wd E ρ S s σ H → Reps E S ρ xs ds → setAll is ds s.l = some l →
    (∀ σ', Wd E ρ S ⟨l, s.g⟩ σ' H → (∀ a, ((Ow σ' l) a → (Ow σ s.l) a) ∧ (ObP σ' l a → ObP σ s.l a)) → Q σ' H) → gAll is xs σ H Q
  | [], ρ, S, s, σ, H, _, _, l, Q, w, .nil, e, k => by
    cases e
    exact ⟨rfl, k σ w fun _ => ⟨fun h => h, fun h => h⟩⟩
  | [], ρ, S, s, σ, H, _, _, l, Q, w, .cons _ _, e, k => by cases e
  | i :: is, ρ, S, s, σ, H, _, _, l, Q, w, .nil, e, k => by cases e
  | i :: is, ρ, S, s, σ, H, _, _, l, Q, w, .cons (v := v) (vs := vs) (d := d) (ds := ds) h r, e, k => by
    refine ⟨v, vs, rfl, ?_⟩
    have w1 : Wd E ρ S ⟨s.l.set i (.v d), s.g⟩ (σ.set i (some v)) H := ⟨w.gr, w.sl.set h⟩
    exact gAll_ok is w1 r e fun σ' w' ow => k σ' w' fun a => ⟨fun z => Ow_set w.sl.len ((ow a).1 z), fun z => Ob_set w.sl.len ((ow a).2 z)⟩
theorem pgi_tup {c : Cn} {X : Cx} {es : List Expr} {k : Nat} {is : List Nat} {pos : Pos} (hK : X.K = c.E.K) (hc : X.calm = true) (h : PGs X es (gAll is)) (hl : is.length = es.length)
    (hn : (assignEach es X.env).length = es.length := by rfl) (hst : (assignEach es X.env).findIdx? (·.1) = none := by rfl) : PGI c X (.Tuple es k pos) (.tup is) :=
  ⟨_, pg_tup hc h hn hst, fun ρ S s σ H x d l Q w r e kk => by
    cases r with
    | tup h r =>
      rename_i a vs ds
      have e' : setAll is ds s.l = some l := e
      have hlen : ∀ (is : List Nat) (ds : List D) (l l' : List SV), setAll is ds l = some l' → ds.length = is.length := by
        intro is
        induction is with
        | nil => intro ds l l' e; cases ds with | nil => rfl | cons _ _ => cases e
        | cons i is ih => intro ds l l' e; cases ds with | nil => cases e | cons d ds => simp [ih ds _ _ e]
      refine ⟨a, vs, rfl, hK ▸ sqT_mono w.gr.sub h, ?_, gAll_ok is w r e' kk⟩
      rw [r.len, hlen _ _ _ _ e', hl]
    | non => cases e
    | bl _ => cases e
    | int _ => cases e
    | str _ => cases e
    | lst _ _ => cases e
    | ins _ _ _ => cases e
    | ref _ => cases e⟩
end Pi
namespace Pi
open PySem L2 PyProof.Rows

/-! ### what is walked -/
def Dl (J : It) (vs : List V) (S : Hp) : Prop := ∀ H, (∀ a o, S a = some o → H a = some o) → ∀ i, (∀ x, vs[i]? = some x → J.go i H ∧ ∀ y H3, J.yld i H y H3 → H3 = H ∧ y = x) ∧ (vs[i]? = none → J.stop i H)
def PostI (E : En) (W : WX) (σ : L2.St) (ρ : List Addr) (S : Hp) (l : List SV) (H : Hp) (r : R (List D)) (Q : It → Hp → Prop) : Prop := match r with
  | .ok ds s' => ∀ J vs ρ' S' H', Step ρ S (Ow σ l) H ρ' S' (Ow σ s'.l) H' → Wd E ρ' S' s' σ H' → Reps E S' ρ' vs ds → Dl J vs S' → Q J H'
  | .ex c fs s' => ∀ ρ' S' H' x fv, Step ρ S (Ow σ l) H ρ' S' (Ow σ s'.l) H' → Wd E ρ' S' s' σ H' → S' x = some (.xd fv) → RepF E S' ρ' fv fs → W (.ref (E.cl c)) (some x) σ H'
  | .no => False
def tII (E : En) (W : WX) (m : Pi.S → R (List D)) : TI := fun σ H Q => ∃ ρ S s, Wd E ρ S s σ H ∧ PostI E W σ ρ S s.l H (m s) Q
abbrev PII (c : Cn) (X : Cx) (tg e : Expr) (t : T) : Prop := PI X tg e (tII c.E c.W (evI c.o t))
theorem pI_le {X : Cx} {tg e : Expr} {t t' : TI} (h : PI X tg e t) (k : ∀ σ H Q, t' σ H Q → t σ H Q) : PI X tg e t' := ⟨fun pins s σ H Q I w => h.run pins s σ H Q I (k σ H Q w)⟩
section
variable {E : En} {W : WX} {σ : L2.St} {ρ : List Addr} {S H : Hp} {l : List SV}
theorem PostI.bind {r : R D} {k : D → Pi.S → R (List D)} {Q : It → Hp → Prop} (p : PostI E W σ ρ S l H (r.bind k) Q) :
    Post E W σ ρ S l H r (fun x H1 => ∃ ρ1 S1 s1 d, At E ρ S ρ1 S1 s1 σ H1 ∧ Rep E S1 ρ1 x d ∧ PostI E W σ ρ1 S1 s1.l H1 (k d s1) Q) := by
  cases r with
  | ok d s' =>
    refine fun v ρ' S' H' st w r => ⟨ρ', S', s', d, ⟨st.inc, w⟩, r, ?_⟩
    have p' : PostI E W σ ρ S l H (k d s') Q := p
    show PostI E W σ ρ' S' s'.l H' (k d s') Q
    cases q : k d s' with
    | ok i s2 => rw [q] at p'; exact fun J vs ρ2 S2 H2 st2 w2 => p' J vs ρ2 S2 H2 (st.trans st2) w2
    | ex i fs s2 => rw [q] at p'; exact fun ρ2 S2 H2 x fv st2 => p' ρ2 S2 H2 x fv (st.trans st2)
    | no => rw [q] at p'; exact p'
  | ex c fs s' => exact p
  | no => exact p
theorem PostI.here {s : Pi.S} {ds : List D} {Q : It → Hp → Prop} {J : It} {vs : List V} (w : Wd E ρ S s σ H) (r : Reps E S ρ vs ds) (d : Dl J vs S) (p : PostI E W σ ρ S s.l H (.ok ds s) Q) : Q J H := p J vs ρ S H Step.refl w r d
end
theorem dl_list {K : PySem.W.Frag} {a : Addr} {vs : List V} {S : Hp} (h : SqL K S a vs) : Dl (Itl K a) vs S := fun H k i => by
  have h' := sqL_mono k h
  refine ⟨fun x e => ⟨⟨vs, x, h', e⟩, fun y H3 z => ⟨z.1, ?_⟩⟩, fun e => ⟨vs, h', List.getElem?_eq_none_iff.mp e⟩⟩
  have := z.2 vs h'
  rw [e] at this
  exact (Option.some.inj this).symm
theorem dl_tup {K : PySem.W.Frag} {a : Addr} {vs : List V} {S : Hp} (h : SqT K S a vs) : Dl (Itt K a) vs S := fun H k i => by
  have h' := sqT_mono k h
  refine ⟨fun x e => ⟨⟨vs, x, h', e⟩, fun y H3 z => ⟨z.1, ?_⟩⟩, fun e => ⟨vs, h', List.getElem?_eq_none_iff.mp e⟩⟩
  have := z.2 vs h'
  rw [e] at this
  exact (Option.some.inj this).symm
theorem dl_rng {lo : Int} {n : Nat} {S : Hp} : Dl (Itr lo n) ((List.range n).map fun (k : Nat) => V.int (lo + k)) S := fun H k i => by
  refine ⟨fun x e => ?_, fun e => ?_⟩
  · rw [List.getElem?_map] at e
    by_cases q : i < n
    · rw [List.getElem?_range q] at e
      cases e
      exact ⟨q, fun y H3 z => ⟨z.1, z.2⟩⟩
    · rw [List.getElem?_eq_none (by simpa using q)] at e
      cases e
  · show n ≤ i
    have := List.getElem?_eq_none_iff.mp e
    simpa using this
theorem reps_rng {E : En} {S : Hp} {ρ : List Addr} {lo : Int} : ∀ ks : List Nat, Reps E S ρ (ks.map fun (k : Nat) => V.int (lo + k)) (ks.map fun (k : Nat) => D.int (lo + k))
  | [] => .nil
  | k :: ks => .cons (.int _) (reps_rng ks)
section
variable {c : Cn} {X : Cx} {tg e a b : Expr} {ta tb : T} {pos p : Pos}
def iAny (K : PySem.W.Frag) (tl : TE) : TI := fun σ H R => tl σ H fun x H1 => ∃ a, x = .ref a ∧ (((∃ xs, SqL K H1 a xs) ∧ R (Itl K a) H1) ∨ ((∃ xs, SqT K H1 a xs) ∧ R (Itt K a) H1))
theorem pI_any {tl : TE} (hl : PE X e tl) : PI X tg e (iAny X.K tl) := by
  refine ⟨fun pins s σ H R I h => thn (hl.run pins s σ H _ I h) ?_⟩
  rintro v s1 ⟨x, H1, I1, r1, a, rfl, q | q⟩
  · obtain ⟨⟨xs, hq⟩, q⟩ := q
    cases r1
    obtain ⟨its, rv, pl, hz⟩ := I1.list hq
    refine wpAny_pyIter_list pl.isList ⟨s1.heap.objs.size, [s1.heap.objs.size], _, _, H1, rfl, I1.kept (t' := s1.toks) fun b o e => Heap.get?_push_of_some _ e, turn_list a _, ⟨_, Heap.get?_push_size _ rfl, rfl, rfl⟩, fun b hb => ?_, q⟩
    cases List.mem_singleton.mp hb
    exact I1.fpOk (Nat.le_refl _) (I1.hok.fresh (Nat.le_refl _))
  · obtain ⟨⟨xs, hq⟩, q⟩ := q
    cases r1
    obtain ⟨its, rv, pl, hz⟩ := I1.tuple hq
    refine wpAny_pyIter_tuple (show s1.heap.IsTuple a its.toArray from pl) ⟨s1.heap.objs.size, [s1.heap.objs.size], _, _, H1, rfl, I1.kept (t' := s1.toks) fun b o e => Heap.get?_push_of_some _ e, turn_tuple a _, ⟨_, Heap.get?_push_size _ rfl, rfl, rfl⟩, fun b hb => ?_, q⟩
    cases List.mem_singleton.mp hb
    exact I1.fpOk (Nat.le_refl _) (I1.hok.fresh (Nat.le_refl _))
theorem pii_it (hK : X.K = c.E.K) (he : PEI c X e ta) : PII c X tg e (.it ta) := by
  refine pI_le (pI_any he) fun σ H Q h => ?_
  obtain ⟨ρ, S, s, w, p⟩ := h
  refine ⟨ρ, S, s, w, (PostI.bind p).imp ?_⟩
  rintro x H1 ⟨ρ1, S1, s1, d1, a1, r1, p1⟩
  rw [hK]
  cases r1 with
  | lst h r => exact ⟨_, rfl, .inl ⟨⟨_, sqL_mono a1.wd.gr.sub h⟩, PostI.here a1.wd r (dl_list h) p1⟩⟩
  | tup h r => exact ⟨_, rfl, .inr ⟨⟨_, sqT_mono a1.wd.gr.sub h⟩, PostI.here a1.wd r (dl_tup h) p1⟩⟩
  | non => exact (show False from p1).elim
  | bl _ => exact (show False from p1).elim
  | int _ => exact (show False from p1).elim
  | str _ => exact (show False from p1).elim
  | ins _ _ _ => exact (show False from p1).elim
  | ref _ => exact (show False from p1).elim
theorem PostI.bif {E : En} {W : WX} {σ : L2.St} {ρ : List Addr} {S H : Hp} {l : List SV} {Q : It → Hp → Prop} {k : Bool} {r : R (List D)} (p : PostI E W σ ρ S l H (bif k then r else .no) Q) : k = true ∧ PostI E W σ ρ S l H r Q := by
  cases k with
  | true => exact ⟨rfl, p⟩
  | false => exact p.elim
theorem pii_rng1 (hg : Gl X "range") (hm : X.mg "range" = none) (ha : PEI c X a ta) (hs : starEach [a] X.env = [(false, eval a X.env)] := by rfl) (hs2 : starEach (a :: []) X.env = (false, eval a X.env) :: starEach [] X.env := by rfl) : PII c X tg (.Call (.Name "range" p) [a] [] pos) (.rng1 ta) := by
  refine pI_le (pi_range1 hg hm (pa_cons ha pa_nil hs2) hs) fun σ H Q h => ?_
  obtain ⟨ρ, S, s, w, p⟩ := h
  refine ⟨ρ, S, s, w, (PostI.bind p).imp ?_⟩
  rintro x H1 ⟨ρ1, S1, s1, d1, a1, r1, p1⟩
  cases d1 <;> first
    | (exact (show False from p1).elim)
    | skip
  rename_i j
  cases r1
  obtain ⟨hb, p2⟩ := PostI.bif p1
  rw [Bool.and_eq_true] at hb
  refine ⟨j, rfl, of_decide_eq_true hb.1, of_decide_eq_true hb.2, PostI.here a1.wd ?_ dl_rng p2⟩
  have := reps_rng (E := c.E) (S := S1) (ρ := ρ1) (lo := 0) (List.range j.toNat)
  simpa using this
theorem pii_rng2 (hg : Gl X "range") (hm : X.mg "range" = none) (ha : PEI c X a ta) (hb : PEI c X b tb) (hs : starEach [a, b] X.env = [(false, eval a X.env), (false, eval b X.env)] := by rfl) (hs2 : starEach [b] X.env = [(false, eval b X.env)] := by rfl)
    (h1 : starEach (a :: [b]) X.env = (false, eval a X.env) :: starEach [b] X.env := by rfl) (h2 : starEach (b :: []) X.env = (false, eval b X.env) :: starEach [] X.env := by rfl) : PII c X tg (.Call (.Name "range" p) [a, b] [] pos) (.rng2 ta tb) := by
  refine pI_le (pi_range2 hg hm (pa_cons ha (pa_cons hb pa_nil h2) h1) hs hs2) fun σ H Q h => ?_
  obtain ⟨ρ, S, s, w, p⟩ := h
  refine ⟨ρ, S, s, w, (PostI.bind p).imp ?_⟩
  rintro x H1 ⟨ρ1, S1, s1, d1, a1, r1, p1⟩
  refine ⟨ρ1, S1, s1, a1.wd, (PostI.bind p1).imp ?_⟩
  rintro y H2 ⟨ρ2, S2, s2, d2, a2, r2, p2⟩
  cases d1 <;> cases d2 <;> first
    | (exact (show False from p2).elim)
    | skip
  rename_i i j
  cases r1
  cases r2
  obtain ⟨hb, p3⟩ := PostI.bif p2
  simp only [Bool.and_eq_true, decide_eq_true_eq] at hb
  exact ⟨i, j, rfl, ⟨hb.1.1.1, hb.1.1.2, hb.1.2, hb.2⟩, PostI.here a2.wd (reps_rng _) dl_rng p3⟩
end
end Pi
namespace Pi
open PySem L2

/-! ### statements -/
def Reach (E : En) (D : Ends) (f : F) (ρ' : List Addr) (S' : Hp) (σ' : St) (H' : Hp) : Prop := match f with
  | .nx => D.nx σ' H'
  | .rt d => ∀ v, Rep E S' ρ' v d → D.rt v H'
  | .bk => D.bk σ' H'
  | .ct => D.ct σ' H'
def PostS (E : En) (W : WX) (σ : St) (ρ : List Addr) (S : Hp) (l : List SV) (H : Hp) (r : R F) (D : Ends) : Prop := match r with
  | .ok f s' => ∀ ρ' S' H' σ', Step ρ S (Ow σ l) H ρ' S' (Ow σ' s'.l) H' → Wd E ρ' S' s' σ' H' → Reach E D f ρ' S' σ' H'
  | .ex c fs s' => ∀ ρ' S' H' σ' x fv, Step ρ S (Ow σ l) H ρ' S' (Ow σ' s'.l) H' → Wd E ρ' S' s' σ' H' → S' x = some (.xd fv) → RepF E S' ρ' fv fs → W (.ref (E.cl c)) (some x) σ' H'
  | .no => False
def tIS (E : En) (W : WX) (m : Pi.S → R F) : L2.TS := fun D σ H => ∃ ρ S s, Wd E ρ S s σ H ∧ PostS E W σ ρ S s.l H (m s) D
abbrev PSI (c : Cn) (X : Cx) (st : Stmt) (t : Pi.TS) : Prop := PS X st (tIS c.E c.W (evS c.o t))
abbrev PSsI (c : Cn) (X : Cx) (st : List Stmt) (t : Pi.TS) : Prop := PSs X st (tIS c.E c.W (evS c.o t))
theorem ps_le {X : Cx} {e : Stmt} {t t' : L2.TS} (h : PS X e t) (k : ∀ D σ H, t' D σ H → t D σ H) : PS X e t' := ⟨fun pins s σ H D I w => h.run pins s σ H D I (k D σ H w)⟩
theorem pss_le {X : Cx} {e : List Stmt} {t t' : L2.TS} (h : PSs X e t) (k : ∀ D σ H, t' D σ H → t D σ H) : PSs X e t' := ⟨fun pins s σ H D I w => h.run pins s σ H D I (k D σ H w)⟩
section
variable {E : En} {W : WX} {σ σ1 : St} {ρ ρ1 : List Addr} {S S1 H H1 : Hp} {l l1 : List SV} {D D' : Ends} {s : Pi.S}
theorem PostS.step {r : R F} (st : Step ρ S (Ow σ l) H ρ1 S1 (Ow σ1 l1) H1) (p : PostS E W σ ρ S l H r D) : PostS E W σ1 ρ1 S1 l1 H1 r D := by
  cases r with
  | ok d s' => exact fun ρ' S' H' σ' st' => p ρ' S' H' σ' (st.trans st')
  | ex c fs s' => exact fun ρ' S' H' σ' x fv st' => p ρ' S' H' σ' x fv (st.trans st')
  | no => exact p
theorem PostS.bind {r : R Pi.D} {k : Pi.D → Pi.S → R F} {D : Ends} (p : PostS E W σ ρ S l H (r.bind k) D) :
    Post E W σ ρ S l H r (fun x H1 => ∃ ρ1 S1 s1 d, At E ρ S ρ1 S1 s1 σ H1 ∧ Step ρ S (Ow σ l) H ρ1 S1 (Ow σ s1.l) H1 ∧ Rep E S1 ρ1 x d ∧ PostS E W σ ρ1 S1 s1.l H1 (k d s1) D) := by
  cases r with
  | ok d s' => exact fun v ρ' S' H' st w r => ⟨ρ', S', s', d, ⟨st.inc, w⟩, st, r, PostS.step (l1 := s'.l) st p⟩
  | ex c fs s' => exact fun ρ' S' H' x fv st => p ρ' S' H' σ x fv st
  | no => exact p
theorem PostS.bindA {r : R (List Pi.D)} {k : List Pi.D → Pi.S → R F} {D : Ends} (p : PostS E W σ ρ S l H (r.bind k) D) :
    PostA E W σ ρ S l H r (fun x H1 => ∃ ρ1 S1 s1 d, r = .ok d s1 ∧ At E ρ S ρ1 S1 s1 σ H1 ∧ Step ρ S (Ow σ l) H ρ1 S1 (Ow σ s1.l) H1 ∧ Reps E S1 ρ1 x d ∧ PostS E W σ ρ1 S1 s1.l H1 (k d s1) D) := by
  cases r with
  | ok d s' => exact fun v ρ' S' H' st w r => ⟨ρ', S', s', d, rfl, ⟨st.inc, w⟩, st, r, PostS.step (l1 := s'.l) st p⟩
  | ex c fs s' => exact fun ρ' S' H' x fv st => p ρ' S' H' σ x fv st
  | no => exact p
theorem PostS.here {f : F} (w : Wd E ρ S s σ H) (p : PostS E W σ ρ S s.l H (.ok f s) D) : Reach E D f ρ S σ H := p ρ S H σ Step.refl w
end
section
variable {c : Cn} {X : Cx} {e tg it : Expr} {te ti : T} {t u : Pi.TS} {st : Stmt} {rest body a b : List Stmt} {pos : Pos}
theorem psi_nil : PSsI c X [] .nil := pss_le pss_nil fun D σ H h => by
  obtain ⟨ρ, S, s, w, p⟩ := h
  exact PostS.here w p
theorem seq_le {D : Ends} {σ : St} {H : Hp} (h : tIS c.E c.W (evS c.o (.seq t u)) D σ H) : tSeq (tIS c.E c.W (evS c.o t)) (tIS c.E c.W (evS c.o u)) D σ H := by
  obtain ⟨ρ, S, s, w, p⟩ := h
  refine ⟨ρ, S, s, w, ?_⟩
  unfold evS at p
  cases q : evS c.o t s with
  | ok f s1 =>
    rw [q] at p
    intro ρ1 S1 H1 σ1 st1 w1
    cases f with
    | nx => exact ⟨ρ1, S1, s1, w1, PostS.step st1 p⟩
    | rt d => exact p ρ1 S1 H1 σ1 st1 w1
    | bk => exact p ρ1 S1 H1 σ1 st1 w1
    | ct => exact p ρ1 S1 H1 σ1 st1 w1
  | ex k fs s1 => rw [q] at p; exact p
  | no => rw [q] at p; exact p
theorem psi_cons (h1 : PSI c X st t) (h2 : PSsI c X rest u) : PSsI c X (st :: rest) (.seq t u) := pss_le (pss_cons h1 h2) fun _ _ _ => seq_le
theorem psi_one (h1 : PSI c X st t) : PSsI c X [st] t := pss_one h1
theorem psi_pass : PSI c X (.Pass pos) .nil := ps_le ps_pass fun D σ H h => by
  obtain ⟨ρ, S, s, w, p⟩ := h
  exact PostS.here w p
theorem psi_doc {x j p'} : PSI c X (.Expr (.Constant (.str x) j p') pos) .nil := ps_le ps_doc fun D σ H h => by
  obtain ⟨ρ, S, s, w, p⟩ := h
  exact PostS.here w p
theorem psi_break : PSI c X (.Break pos) .brk := ps_le ps_break fun D σ H h => by
  obtain ⟨ρ, S, s, w, p⟩ := h
  exact PostS.here w p
theorem psi_continue : PSI c X (.Continue pos) .cnt := ps_le ps_continue fun D σ H h => by
  obtain ⟨ρ, S, s, w, p⟩ := h
  exact PostS.here w p
theorem psi_expr (he : PEI c X e te) (hs : swapsWith e none pos.line X.env = pure false := by rfl) : PSI c X (.Expr e pos) (.ex te) := ps_le (ps_expr he hs) fun D σ H h => by
  obtain ⟨ρ, S, s, w, p⟩ := h
  refine ⟨ρ, S, s, w, (PostS.bind p).imp ?_⟩
  rintro x H1 ⟨ρ1, S1, s1, d1, a1, _, r1, p1⟩
  exact PostS.here a1.wd p1
theorem psi_ret (he : PEI c X e te) : PSI c X (.Return (some e) pos) (.ret te) := ps_le (ps_ret he) fun D σ H h => by
  obtain ⟨ρ, S, s, w, p⟩ := h
  refine ⟨ρ, S, s, w, (PostS.bind p).imp ?_⟩
  rintro x H1 ⟨ρ1, S1, s1, d1, a1, _, r1, p1⟩
  exact PostS.here a1.wd p1 x r1
theorem psi_retn : PSI c X (.Return none pos) .retn := ps_le ps_retN fun D σ H h => by
  obtain ⟨ρ, S, s, w, p⟩ := h
  exact PostS.here w p _ .non
theorem psi_if (hc : PTI c X e te) (ha : PSsI c X a t) (hb : PSsI c X b u) : PSI c X (.If e a b pos) (.ite te t u) := ps_le (ps_if hc ha hb) fun D σ H h => by
  obtain ⟨ρ, S, s, w, p⟩ := h
  refine ⟨ρ, S, s, w, (PostS.bind p).imp ?_⟩
  rintro x H1 ⟨ρ1, S1, s1, d1, a1, _, r1, p1⟩
  cases d1 <;> first
    | (exact (show False from p1).elim)
    | skip
  rename_i k
  cases bl_of r1
  refine ⟨k, rfl, ?_⟩
  cases k with
  | true => rw [if_pos rfl]; exact ⟨ρ1, S1, s1, a1.wd, p1⟩
  | false => rw [if_neg Bool.false_ne_true]; exact ⟨ρ1, S1, s1, a1.wd, p1⟩
theorem psi_asg {tt : Tgt} (he : PEI c X e te) (hg : PGI c X tg tt) (hs : swapsWithSole [tg] e pos.line X.env = pure false := by rfl) (hw : swappedStores [tg] e X.env = pure none := by rfl)
    (h1 : (assignEach [tg] X.env).map (·.2) = [assign tg X.env] := by rfl) : PSI c X (.Assign [tg] e pos) (.asg tt te) := by
  obtain ⟨g, hg, ok⟩ := hg.ex
  refine ps_le (ps_asg he hg hs hw h1) fun D σ H h => ?_
  obtain ⟨ρ, S, s, w, p⟩ := h
  refine ⟨ρ, S, s, w, (PostS.bind p).imp ?_⟩
  rintro x H1 ⟨ρ1, S1, s1, d1, a1, _, r1, p1⟩
  split at p1
  · rename_i l' e1
    exact ok ρ1 S1 s1 σ H1 x d1 l' _ a1.wd r1 e1 fun σ' w' ow => p1 ρ1 S1 H1 σ' (Step.refl.ow ow) w'
  · exact p1.elim
/-- the rows of a for -/
theorem loop_core {E : En} {W : WX} {g : TG} {tb : L2.TS} {tt : Tgt} {bd : Pi.S → R F} (ok : TgOk E g tt) (hb : ∀ D σ H, tIS E W bd D σ H → tb D σ H) {D : Ends} {σ : St} {ρ : List Addr} {S H : Hp} {l : List SV} {ds : List Pi.D} {s0 : Pi.S} {J : It} {vs : List V} {ρ1 : List Addr} {S1 H1 : Hp} {σ1 : St}
    (p : PostS E W σ ρ S l H (loopS (fun d s => match tgS tt d s.l with
      | some l => bd ⟨l, s.g⟩
      | none => .no) ds s0) D) (st : Step ρ S (Ow σ l) H ρ1 S1 (Ow σ1 s0.l) H1) (w : Wd E ρ1 S1 s0 σ1 H1) (r : Reps E S1 ρ1 vs ds) (dl : Dl J vs S1) :
    ∃ V : Nat → Nat → St → Hp → Prop, (∃ m, V 0 m σ1 H1) ∧ ∀ i m σ H, V i m σ H →
      (J.stop i H ∧ D.nx σ H) ∨ (J.go i H ∧ ∃ N : St → Hp → Prop, (∀ σ' H', N σ' H' → ∃ m', m' < m ∧ V (i + 1) m' σ' H') ∧ ∀ x H', J.yld i H x H' → g x σ H' fun σ2 H2 => tb { D with nx := N, ct := N, bk := D.nx } σ2 H2) := by
  let f := fun (d : Pi.D) (s : Pi.S) => match tgS tt d s.l with
      | some l => bd ⟨l, s.g⟩
      | none => R.no
  obtain ⟨Tt, hT⟩ : ∃ Tt, loopS f ds s0 = Tt := ⟨_, rfl⟩
  have p : PostS E W σ ρ S l H Tt D := by rw [← hT]; exact p
  let V : Nat → Nat → St → Hp → Prop := fun i m σ' H' => m = vs.length - i ∧ i ≤ vs.length ∧ ∃ ρ' S' s', Step ρ S (Ow σ l) H ρ' S' (Ow σ' s'.l) H' ∧ Wd E ρ' S' s' σ' H' ∧ Inc S1 ρ1 S' ρ' ∧ loopS f (ds.drop i) s' = Tt
  refine ⟨V, ⟨vs.length, by simp, Nat.zero_le _, ρ1, S1, s0, st, w, Inc.refl _ _, hT⟩, ?_⟩
  rintro i m σ2 H2 ⟨rfl, hi, ρ2, S2, s2, st2, w2, i2, e2⟩
  have hsub : ∀ a o, S1 a = some o → H2 a = some o := fun a o z => w2.gr.sub a o (i2.sub a o z)
  by_cases hlt : i < vs.length
  · right
    have hx : vs[i]? = some vs[i] := List.getElem?_eq_getElem hlt
    obtain ⟨d, hd, rd⟩ := r.get' hx
    obtain ⟨go, yl⟩ := (dl H2 hsub i).1 _ hx
    refine ⟨go, fun σ' H' => V (i + 1) (vs.length - (i + 1)) σ' H', fun σ' H' v => ⟨_, by omega, v⟩, fun y H3 hy => ?_⟩
    obtain ⟨rfl, rfl⟩ := yl y H3 hy
    have hdrop : ds.drop i = d :: ds.drop (i + 1) := by
      obtain ⟨hl, hg⟩ := List.getElem?_eq_some_iff.mp hd
      rw [List.drop_eq_getElem_cons hl, hg]
    rw [hdrop] at e2
    have p2 : PostS E W σ ρ S l H (loopS f (d :: ds.drop (i + 1)) s2) D := by rw [e2]; exact p
    cases ht : tgS tt d s2.l with
    | none =>
      have : f d s2 = .no := by show (match tgS tt d s2.l with | some l => bd ⟨l, s2.g⟩ | none => R.no) = _; rw [ht]
      unfold loopS at p2
      rw [this] at p2
      exact p2.elim
    | some l' =>
      have fe : f d s2 = bd ⟨l', s2.g⟩ := by show (match tgS tt d s2.l with | some l => bd ⟨l, s2.g⟩ | none => R.no) = _; rw [ht]
      refine ok ρ2 S2 s2 σ2 H3 _ d l' _ w2 (rd.mono i2) ht fun σ3 w3 ow => hb _ _ _ ⟨ρ2, S2, ⟨l', s2.g⟩, w3, ?_⟩
      have st3 : Step ρ S (Ow σ l) H ρ2 S2 (Ow σ3 l') H3 := st2.ow ow
      unfold loopS at p2 e2
      rw [fe] at p2 e2
      have again : ∀ {s4 : Pi.S} {ρ4 : List Addr} {S4 H4 : Hp} {σ4 : St}, loopS f (ds.drop (i + 1)) s4 = Tt → Step ρ2 S2 (Ow σ3 l') H3 ρ4 S4 (Ow σ4 s4.l) H4 → Wd E ρ4 S4 s4 σ4 H4 → V (i + 1) (vs.length - (i + 1)) σ4 H4 := fun {s4 ρ4 S4 H4 σ4} e st4 w4 =>
        ⟨rfl, hlt, ρ4, S4, s4, st3.trans st4, w4, i2.trans st4.inc, e⟩
      show PostS E W σ3 ρ2 S2 l' H3 (bd ⟨l', s2.g⟩) _
      cases hq : bd ⟨l', s2.g⟩ with
      | ok fl s4 =>
        rw [hq] at p2 e2
        intro ρ4 S4 H4 σ4 st4 w4
        cases fl with
        | nx => exact again e2 st4 w4
        | ct => exact again e2 st4 w4
        | bk => exact p2 ρ4 S4 H4 σ4 (st3.trans st4) w4
        | rt d => exact p2 ρ4 S4 H4 σ4 (st3.trans st4) w4
      | ex k fs s4 =>
        rw [hq] at p2
        exact fun ρ4 S4 H4 σ4 x fv st4 => p2 ρ4 S4 H4 σ4 x fv (st3.trans st4)
      | no => rw [hq] at p2; exact p2
  · left
    have hn : vs[i]? = none := List.getElem?_eq_none (by omega)
    refine ⟨(dl H2 hsub i).2 hn, ?_⟩
    have hd : ds.drop i = [] := List.drop_eq_nil_of_le (by rw [← r.len]; omega)
    rw [hd] at e2
    have p2 : PostS E W σ ρ S l H (.ok .nx s2) D := by
      show PostS E W σ ρ S l H (loopS f [] s2) D
      rw [e2]
      exact p
    exact p2 ρ2 S2 H2 σ2 st2 w2
theorem psi_for {tt : Tgt} (hp : PassesOwn (model X.prog X.w) X.A X.env X.xe) (hc : X.calm = true) (hi : PII c X tg it ti) (hg : PGI c X tg tt) (hb : PSsI c X body t) (hs : ∀ x, foldedSetIterable it X.env x = pure x := by intro _; rfl) : PSI c X (.For tg it body [] pos) (.fr tt ti t) := by
  obtain ⟨g, hg, ok⟩ := hg.ex
  refine ps_le (ps_for hp hc hi hg hb hs) fun D σ H h => ?_
  obtain ⟨ρ, S, s, w, p⟩ := h
  refine ⟨ρ, S, s, w, ?_⟩
  unfold evS at p
  cases q : evI c.o ti s with
  | ok ds s1 =>
    rw [q] at p
    intro J vs ρ1 S1 H1 st w1 r dl
    exact loop_core ok (fun _ _ _ h => h) p st w1 r dl
  | ex k fs s1 =>
    rw [q] at p
    exact fun ρ' S' H' x fv st => p ρ' S' H' σ x fv st
  | no => rw [q] at p; exact p
end
end Pi
namespace Pi
open PySem L2

section
variable {E : En} {ρ : List Addr} {S H : Hp} {s : Pi.S} {σ : St} {l : List SV}
theorem Inc.put {p : Addr} {o : HO} (hp : S p = none) : Inc S ρ (upd S p o) ρ := Inc.new hp
theorem Gr.freeze {g : List MO} (w : Gr E ρ S g H) {p : Addr} {o : HO} (hp : H p = some o) (sp : S p = none) (np : p ∉ ρ) : Gr E ρ (upd S p o) g H := by
  refine ⟨fun a u e => ?_, w.len, w.nd, fun a ha => ?_, fun n a m e1 e2 => (w.ob n a m e1 e2).mono (Inc.new sp) fun _ q => q⟩
  · by_cases q : a = p
    · subst q; rw [upd_same] at e; rw [hp]; exact e
    · rw [upd_ne q] at e; exact w.sub _ _ e
  · rw [upd_ne (show a ≠ p from fun z => np (z ▸ ha))]; exact w.off a ha
theorem Wd.freeze (w : Wd E ρ S s σ H) {p : Addr} {o : HO} (hp : H p = some o) (sp : S p = none) (np : p ∉ ρ) (no : ¬ Ow σ s.l p) : Wd E ρ (upd S p o) s σ H :=
  ⟨w.gr.freeze hp sp np, w.sl.keep (Inc.new sp) (fun _ _ _ e => e) (fun a ow _ e => by rw [upd_ne (show a ≠ p from fun z => no (z ▸ ow))]; exact e) fun _ _ _ h => h⟩

theorem wipeOwn_len : ∀ l : List SV, (wipeOwn l).length = l.length
  | [] => rfl
  | .un :: r => by simp [wipeOwn, wipeOwn_len r]
  | .v _ :: r => by simp [wipeOwn, wipeOwn_len r]
  | .own _ :: r => by simp [wipeOwn, wipeOwn_len r]
  | .ob _ _ :: r => by simp [wipeOwn, wipeOwn_len r]
theorem wipeOwn_get : ∀ {l : List SV} {i : Nat} {x : SV}, (wipeOwn l)[i]? = some x → x = .un ∨ ∃ d, x = .v d ∧ l[i]? = some (.v d)
  | [], _, _, h => by simp [wipeOwn] at h
  | .un :: r, 0, x, h => by simp [wipeOwn] at h; exact .inl h.symm
  | .own _ :: r, 0, x, h => by simp [wipeOwn] at h; exact .inl h.symm
  | .ob _ _ :: r, 0, x, h => by simp [wipeOwn] at h; exact .inl h.symm
  | .v d :: r, 0, x, h => by simp [wipeOwn] at h; exact .inr ⟨d, h.symm, by simp⟩
  | .un :: r, i + 1, x, h => by
    have := wipeOwn_get (l := r) (i := i) (x := x) (by simpa [wipeOwn] using h)
    simpa using this
  | .own _ :: r, i + 1, x, h => by
    have := wipeOwn_get (l := r) (i := i) (x := x) (by simpa [wipeOwn] using h)
    simpa using this
  | .ob _ _ :: r, i + 1, x, h => by
    have := wipeOwn_get (l := r) (i := i) (x := x) (by simpa [wipeOwn] using h)
    simpa using this
  | .v _ :: r, i + 1, x, h => by
    have := wipeOwn_get (l := r) (i := i) (x := x) (by simpa [wipeOwn] using h)
    simpa using this
theorem Sl.wipe (w : Sl E ρ S H σ l) : Sl E ρ S H σ (wipeOwn l) := by
  refine ⟨by rw [wipeOwn_len]; exact w.len, fun i d e => ?_, fun i ds e => ?_, fun i k fs e => ?_, fun i j a _ h1 _ _ => ?_⟩
  · rcases wipeOwn_get e with z | ⟨d', z, e'⟩
    · cases z
    · cases z; exact w.v i d e'
  · rcases wipeOwn_get e with z | ⟨d', z, e'⟩ <;> cases z
  · rcases wipeOwn_get e with z | ⟨d', z, e'⟩ <;> cases z
  · rcases h1 with ⟨ds, e⟩ | ⟨k, fs, e⟩
    · rcases wipeOwn_get e with z | ⟨d', z, e'⟩ <;> cases z
    · rcases wipeOwn_get e with z | ⟨d', z, e'⟩ <;> cases z
theorem no_Ow_wipe {i : Nat} {d : D} {a : Addr} : ¬ Ow σ ((wipeOwn l).set i (.v d)) a := by
  rintro ⟨j, h1, h2⟩
  have g : ∀ {x : SV}, ((wipeOwn l).set i (.v d))[j]? = some x → x = .un ∨ ∃ d, x = .v d := fun {x} e => by
    by_cases q : i = j
    · subst q
      by_cases hi : i < (wipeOwn l).length
      · rw [List.getElem?_set_self hi] at e; cases e; exact .inr ⟨_, rfl⟩
      · rw [List.getElem?_eq_none (by rw [List.length_set]; omega)] at e; cases e
    · rw [List.getElem?_set_ne q] at e
      rcases wipeOwn_get e with z | ⟨d', z, _⟩
      · exact .inl z
      · exact .inr ⟨d', z⟩
  rcases h2 with ⟨ds, e⟩ | ⟨k, fs, e⟩
  · rcases g e with z | ⟨_, z⟩ <;> cases z
  · rcases g e with z | ⟨_, z⟩ <;> cases z
end

/-! ### comprehensions -/
abbrev W0 : WX := fun _ _ _ _ => False
abbrev Cn.bl (c : Cn) : Cn := { c with W := W0 }
structure PTsI (c : Cn) (X : Cx) (ifs : List Expr) (t : T) : Prop where
  run : PTs X ifs (tB (tI c.E c.W (ev c.o t)))
theorem ptsi_nil {c : Cn} {X : Cx} : PTsI c X [] (.c (.bl true)) := ⟨⟨fun pins s σ H Q I h => by
  refine pts_nil.run pins s σ H Q I ?_
  obtain ⟨ρ, S, s, w, p⟩ := h
  obtain ⟨q, e, h⟩ := Post.here w (.bl true) p
  cases e
  exact h⟩⟩
theorem ptsi_one {c : Cn} {X : Cx} {e : Expr} {t : T} (h : PTI c X e t) : PTsI c X [e] t := ⟨pts_one h⟩
def bodyC (o : O) (l : List SV) (i : Nat) (c e : T) : Pi.D → List MO → R (Option Pi.D) := fun d g => (ev o c ⟨(wipeOwn l).set i (.v d), g⟩).bind fun t s' => match t with
      | .bl true => (ev o e s').bind fun x s'' => .ok (some x) s''
      | .bl false => .ok none s'
      | _ => .no
theorem loopC_ok {f : Pi.D → List MO → R (Option Pi.D)} {d : Pi.D} {ds acc xs : List Pi.D} {g : List MO} {s' : Pi.S} (h : loopC f (d :: ds) acc g = .ok xs s') :
    (∃ x s1, f d g = .ok (some x) s1 ∧ loopC f ds (acc ++ [x]) s1.g = .ok xs s') ∨ ∃ s1, f d g = .ok none s1 ∧ loopC f ds acc s1.g = .ok xs s' := by
  unfold loopC at h
  split at h
  · rename_i x s1 e; exact .inl ⟨x, s1, e, h⟩
  · rename_i s1 e; exact .inr ⟨s1, e, h⟩
  · cases h
  · cases h
theorem bind_ok {α β : Type} {r : R α} {k : α → Pi.S → R β} {b : β} {s' : Pi.S} (h : r.bind k = .ok b s') : ∃ a s, r = .ok a s ∧ k a s = .ok b s' := by
  cases r with
  | ok a s => exact ⟨a, s, rfl, h⟩
  | ex _ _ _ => cases h
  | no => cases h
theorem bodyC_ok {o : O} {l : List SV} {i : Nat} {c e : T} {d : Pi.D} {g : List MO} {x : Option Pi.D} {s1 : Pi.S} (h : bodyC o l i c e d g = .ok x s1) :
    (∃ s2 y, ev o c ⟨(wipeOwn l).set i (.v d), g⟩ = .ok (.bl true) s2 ∧ ev o e s2 = .ok y s1 ∧ x = some y) ∨ (ev o c ⟨(wipeOwn l).set i (.v d), g⟩ = .ok (.bl false) s1 ∧ x = none) := by
  obtain ⟨t, s2, h1, h2⟩ := bind_ok h
  split at h2
  · obtain ⟨y, s3, h3, h4⟩ := bind_ok h2
    cases h4
    exact .inl ⟨s2, y, h1, h3, rfl⟩
  · cases h2
    exact .inr ⟨h1, rfl⟩
  · cases h2
section
variable {E : En} {ρ ρ' ρ1 : List Addr} {S S' S1 H H' H1 : Hp} {g g' : List MO} {p : Addr} {o : HO}
theorem Gr.at (w : Gr E ρ S g H) (sp : S p = none) (np : p ∉ ρ) : Gr E ρ S g (upd H p o) := by
  refine ⟨fun a u e => ?_, w.len, w.nd, w.off, fun n a m e1 e2 => (w.ob n a m e1 e2).mono (Inc.refl _ _) fun u q => ?_⟩
  · rw [upd_ne (show a ≠ p from fun z => by rw [z, sp] at e; cases e)]; exact w.sub _ _ e
  · rw [upd_ne (show a ≠ p from fun z => np (z ▸ List.mem_iff_getElem?.mpr ⟨n, e1⟩))]; exact q
/-- a step, then the object at p (new since the beginning) is laid anew -/
theorem Step.then {B : Bs} (a : Step ρ1 S1 noB H1 ρ S noB H) (b : Step ρ S B H ρ' S' B H') (hB : ∀ x, ¬ B x) : Step ρ1 S1 noB H1 ρ' S' noB H' where
  inc := a.inc.trans b.inc
  nρ := fun x h => by
    rcases b.nρ x h with h | h
    · exact a.nρ x h
    · exact .inr (a.dom x h)
  nS := fun x o h => by
    rcases b.nS x o h with h | h | h
    · exact a.nS x o h
    · exact .inr (.inl (a.dom x h))
    · exact absurd h (hB x)
  nB := fun _ h => h.elim
  fr := fun x o h n _ => b.fr x o (a.fr x o h n fun z => z) (fun z => by
    rcases a.nρ x z with z | z
    · exact n z
    · rw [h] at z; cases z) (hB x)
  dom := fun x h => a.dom x (b.dom x h)
  nO := fun _ h => h.elim
theorem Step.put (a : Step ρ1 S1 noB H1 ρ S noB H) (hp : H1 p = none) : Step ρ1 S1 noB H1 ρ S noB (upd H p o) where
  inc := a.inc
  nρ := a.nρ
  nS := a.nS
  nB := fun _ h => h.elim
  fr := fun x u h n m => by rw [upd_ne (show x ≠ p from fun z => by rw [z, hp] at h; cases h)]; exact a.fr x u h n m
  dom := fun x h => by
    by_cases q : x = p
    · subst q; exact hp
    · rw [upd_ne q] at h; exact a.dom x h
  nO := fun _ h => h.elim
theorem Step.noBs {B B' : Bs} (a : Step ρ S B H ρ' S' B' H') (h : ∀ x, ¬ B x) : Step ρ S B H ρ' S' B H' := ⟨a.inc, a.nρ, a.nS, fun x h => .inl h, a.fr, a.dom, fun _ h => h⟩
end
theorem comp_core {E : En} {W : WX} {o : O} {i0 : Nat} {tc te : T} {σ : St} {ρ1 : List Addr} {S1 H1 : Hp} {s1 : Pi.S} {ds : List Pi.D} {J : It} {vs : List V} {Q : VK} (w : Wd E ρ1 S1 s1 σ H1) (r : Reps E S1 ρ1 vs ds) (dl : Dl J vs S1) (hb : ds.length ≤ big)
    (p : Post E W σ ρ1 S1 s1.l H1 (match loopC (bodyC o s1.l i0 tc te) ds [] s1.g with
      | .ok xs s' => .ok (.lst xs) ⟨s1.l, s'.g⟩
      | _ => .no) Q) {Dd : Addr} (hD : H1 Dd = none) :
    ∃ V : Nat → Nat → Hp → Prop, (∃ m, V 0 m (upd H1 Dd (.lst []))) ∧ ∀ i m H, V i m H →
      (J.stop i H ∧ Q (.ref Dd) H) ∨ (J.go i H ∧ ∃ Nx : Hp → Prop, (∀ H', Nx H' → ∃ m', m' < m ∧ V (i + 1) m' H') ∧ ∀ x H', J.yld i H x H' → gName i0 x (wipe σ [i0]) H' fun σ2 H2 => wipe σ2 [i0] = wipe σ [i0] ∧ (tB (tI E W0 (ev o tc))) σ2 H2 fun b H3 =>
        if b = true then tI E W0 (ev o te) σ2 H3 fun y H4 => ∃ acc, H4 Dd = some (.lst acc) ∧ acc.length < sizeLine ∧ Nx (upd H4 Dd (.lst (acc ++ [y]))) else Nx H3) := by
  obtain ⟨xs, sT, hT⟩ : ∃ xs sT, loopC (bodyC o s1.l i0 tc te) ds [] s1.g = .ok xs sT := by
    cases q : loopC (bodyC o s1.l i0 tc te) ds [] s1.g with
    | ok xs sT => exact ⟨xs, sT, rfl⟩
    | ex _ _ _ => rw [q] at p; exact p.elim
    | no => rw [q] at p; exact p.elim
  rw [hT] at p
  let V : Nat → Nat → Hp → Prop := fun i m H' => m = vs.length - i ∧ i ≤ vs.length ∧ ∃ ρ' S' g' acc accD, Step ρ1 S1 noB H1 ρ' S' noB H' ∧ Gr E ρ' S' g' H' ∧ H' Dd = some (.lst acc) ∧ S' Dd = none ∧ Dd ∉ ρ' ∧ Reps E S' ρ' acc accD ∧ accD.length ≤ i ∧ loopC (bodyC o s1.l i0 tc te) (ds.drop i) accD g' = .ok xs sT
  obtain ⟨f1, f2⟩ := w.gr.fresh hD
  refine ⟨V, ⟨vs.length, by simp, Nat.zero_le _, ρ1, S1, s1.g, [], [], Step.refl.put hD, w.gr.at f1 f2, upd_same, f1, f2, .nil, Nat.le_refl _, hT⟩, ?_⟩
  rintro i m H3 ⟨rfl, hi, ρ3, S3, g3, acc, accD, st3, gr3, hD3, sD3, nD3, ra3, la3, e3⟩
  obtain ⟨w3, st3'⟩ := lift st3 w gr3
  have hsub : ∀ a o, S1 a = some o → H3 a = some o := fun a o z => gr3.sub a o (st3.inc.sub a o z)
  by_cases hlt : i < vs.length
  · right
    have hx : vs[i]? = some vs[i] := List.getElem?_eq_getElem hlt
    obtain ⟨d, hd, rd⟩ := r.get' hx
    obtain ⟨go, yl⟩ := (dl H3 hsub i).1 _ hx
    refine ⟨go, fun H' => V (i + 1) (vs.length - (i + 1)) H', fun H' v => ⟨_, by omega, v⟩, fun y H4 hy => ?_⟩
    obtain ⟨rfl, rfl⟩ := yl y H4 hy
    have hdrop : ds.drop i = d :: ds.drop (i + 1) := by
      obtain ⟨hl, hg⟩ := List.getElem?_eq_some_iff.mp hd
      rw [List.drop_eq_getElem_cons hl, hg]
    rw [hdrop] at e3
    have hσ : (wipe σ [i0]).set i0 (some vs[i]) = σ.set i0 (some vs[i]) := by
      show (σ.set i0 none).set i0 _ = _
      rw [List.set_set]
    show (wipe ((wipe σ [i0]).set i0 (some vs[i])) [i0] = wipe σ [i0] ∧ _)
    rw [hσ]
    refine ⟨by show (σ.set i0 (some vs[i])).set i0 none = σ.set i0 none; rw [List.set_set], ?_⟩
    have w4 : Wd E ρ3 S3 ⟨(wipeOwn s1.l).set i0 (.v d), g3⟩ (σ.set i0 (some vs[i])) H4 := ⟨gr3, w3.sl.wipe.set (rd.mono st3.inc)⟩
    refine ⟨ρ3, S3, _, w4, ?_⟩
    have nB := fun a => no_Ow_wipe (σ := σ.set i0 (some vs[i])) (l := s1.l) (i := i0) (d := d) (a := a)
    -- what stands when the turn is done
    have at5 : ∀ {ρ5 : List Addr} {S5 H5 : Hp} {B5 : Bs}, Step ρ3 S3 (Ow (σ.set i0 (some vs[i])) ((wipeOwn s1.l).set i0 (.v d))) H4 ρ5 S5 B5 H5 → H5 Dd = some (.lst acc) ∧ S5 Dd = none ∧ Dd ∉ ρ5 := fun {ρ5 S5 H5 B5} st5 => by
      refine ⟨st5.fr Dd _ hD3 nD3 (nB Dd), ?_, fun z => ?_⟩
      · cases q : S5 Dd with
        | none => rfl
        | some u =>
          rcases st5.nS Dd u q with z | z | z
          · rw [sD3] at z; cases z
          · rw [hD3] at z; cases z
          · exact absurd z (nB Dd)
      · rcases st5.nρ Dd z with z | z
        · exact nD3 z
        · rw [hD3] at z; cases z
    rcases loopC_ok e3 with ⟨y0, s5, h1, h2⟩ | ⟨s5, h1, h2⟩
    · rcases bodyC_ok h1 with ⟨s4, y1, q1, q2, q3⟩ | ⟨_, q3⟩
      · cases q3
        show Post E W0 _ ρ3 S3 _ H4 (ev o tc ⟨(wipeOwn s1.l).set i0 (.v d), g3⟩) _
        rw [q1]
        intro v ρ5 S5 H5 st5 w5 r5
        refine ⟨true, bl_of r5, iteT ?_⟩
        refine ⟨ρ5, S5, s4, w5, ?_⟩
        rw [q2]
        intro y ρ6 S6 H6 st6 w6 r6
        have st46 := (st5.trans st6).noBs nB
        obtain ⟨a1, a2, a3⟩ := at5 st46
        refine ⟨acc, a1, ?_, rfl, hlt, ρ6, S6, s5.g, acc ++ [y], accD ++ [y0], (st3.then st46 nB).put hD, w6.gr.at a2 a3, upd_same, a2, a3, (ra3.mono st46.inc).append (.cons r6 .nil), by simp; omega, h2⟩
        have := ra3.len
        have := r.len
        exact lt_line (by omega)
      · cases q3
    · rcases bodyC_ok h1 with ⟨s4, y1, q1, q2, q3⟩ | ⟨q1, q3⟩
      · cases q3
      · show Post E W0 _ ρ3 S3 _ H4 (ev o tc ⟨(wipeOwn s1.l).set i0 (.v d), g3⟩) _
        rw [q1]
        intro v ρ5 S5 H5 st5 w5 r5
        refine ⟨false, bl_of r5, iteF ?_⟩
        have st45 := st5.noBs nB
        obtain ⟨a1, a2, a3⟩ := at5 st45
        exact ⟨rfl, hlt, ρ5, S5, s5.g, acc, accD, st3.then st45 nB, w5.gr, a1, a2, a3, ra3.mono st45.inc, by omega, h2⟩
  · left
    have hn : vs[i]? = none := List.getElem?_eq_none (by omega)
    refine ⟨(dl H3 hsub i).2 hn, ?_⟩
    have hd : ds.drop i = [] := List.drop_eq_nil_of_le (by rw [← r.len]; omega)
    rw [hd] at e3
    cases e3
    have no : ¬ Ow σ s1.l Dd := fun ⟨j, h1, h2⟩ => by
      rcases h2 with ⟨es, h2⟩ | ⟨k, fs, h2⟩
      · obtain ⟨a', vs', z1, z2, _⟩ := w.sl.own j es h2
        rw [h1] at z1; cases z1; rw [hD] at z2; cases z2
      · obtain ⟨a', dx, fv, z1, z2, _⟩ := w.sl.ob j k fs h2
        rw [h1] at z1; cases z1; rw [hD] at z2; cases z2
    have wF : Wd E ρ3 (upd S3 Dd (.lst acc)) ⟨s1.l, g3⟩ σ H3 := w3.freeze hD3 sD3 nD3 no
    have iF : Inc S3 ρ3 (upd S3 Dd (.lst acc)) ρ3 := Inc.new sD3
    refine p (.ref Dd) ρ3 _ H3 ⟨st3'.inc.trans iF, st3'.nρ, fun a u e => ?_, st3'.nB, st3'.fr, st3'.dom, st3'.nO⟩ wF (.lst (SqL.of upd_same) (ra3.mono iF))
    by_cases q : a = Dd
    · subst q; exact .inr (.inl hD)
    · rw [upd_ne q] at e; exact st3'.nS a u e
section
variable {c : Cn} {X : Cx} {elt it : Expr} {ifs : List Expr} {ti tc te : T} {pos : Pos}
theorem pi_lc {i : Nat} {x : Str} {scope : Scope} {tpos : Pos} (hc : X.calm = true) (hN : X.N.Nodup) (hi : PII c X (.Name x tpos) it ti) (ok : BlkOk X.N X.env.scope scope [(x, i)])
    (hg : ∀ (s : Shared) (H : Hp) (C : Addr) (cl : List (Str × Addr)) (fp : List Addr), PG (X.blk s H scope (compEnvC scope cl C X.env) fp) (.Name x tpos) (gName i))
    (ht : ∀ (s : Shared) (H : Hp) (C : Addr) (cl : List (Str × Addr)) (fp : List Addr), PTsI c.bl (X.blk s H scope (compEnvC scope cl C X.env) fp) ifs tc)
    (he : ∀ (s : Shared) (H : Hp) (C : Addr) (cl : List (Str × Addr)) (fp : List Addr), PEI c.bl (X.blk s H scope (compEnvC scope cl C X.env) fp) elt te) (hs : ∀ x, foldedSetIterable it X.env x = pure x := by intro _; rfl) :
    PEI c X (.ListComp elt [⟨.Name x tpos, it, ifs, 0⟩] scope pos) (.comp i ti tc te) := by
  refine pe_le (pe_lc hc hN hi ok hg (fun s H C cl fp => (ht s H C cl fp).run) he hs) fun σ H Q h => ?_
  obtain ⟨ρ, S, s, w, p⟩ := h
  refine ⟨ρ, S, s, w, ?_⟩
  unfold ev at p
  cases q : evI c.o ti s with
  | ok ds s1 =>
    rw [q] at p
    obtain ⟨hb, p⟩ := Post.bif p
    intro J vs ρ1 S1 H1 st w1 r dl Dd hD
    exact comp_core w1 r dl (of_decide_eq_true hb) (Post.step (l1 := s1.l) st p) hD
  | ex k fs s1 => rw [q] at p; exact p
  | no => rw [q] at p; exact p
theorem psi_setLc {i j : Nat} {x y : Str} {scope : Scope} {tpos py spos : Pos} (hc : X.calm = true) (hN : X.N.Nodup) (hy : X.N[j]? = some y) (hyl : X.env.scope.names.lookup y = some .local)
    (hsw : swapsWith (.ListComp elt [⟨.Name x tpos, it, ifs, 0⟩] scope pos) (some (.Name y py)) spos.line X.env = pure true) (hi : PII c X (.Name x tpos) it ti) (ok : BlkOk X.N X.env.scope scope [(x, i)])
    (hg : ∀ (s : Shared) (H : Hp) (C : Addr) (cl : List (Str × Addr)) (fp : List Addr), PG (X.blk s H scope (compEnvC scope cl C X.env) fp) (.Name x tpos) (gName i))
    (ht : ∀ (s : Shared) (H : Hp) (C : Addr) (cl : List (Str × Addr)) (fp : List Addr), PTsI c.bl (X.blk s H scope (compEnvC scope cl C X.env) fp) ifs tc)
    (he : ∀ (s : Shared) (H : Hp) (C : Addr) (cl : List (Str × Addr)) (fp : List Addr), PEI c.bl (X.blk s H scope (compEnvC scope cl C X.env) fp) elt te) (hs : ∀ x, foldedSetIterable it X.env x = pure x := by intro _; rfl) :
    PSI c X (.Assign [.Name y py] (.ListComp elt [⟨.Name x tpos, it, ifs, 0⟩] scope pos) spos) (.asg (.one j) (.comp i ti tc te)) := by
  refine ps_le (ps_setLc hc hN hy hyl hsw hi ok hg (fun s H C cl fp => (ht s H C cl fp).run) he hs) fun D σ H h => ?_
  obtain ⟨ρ, S, s, w, p⟩ := h
  have p2 := PostS.bind p
  refine ⟨ρ, S, s, w, ?_⟩
  unfold ev at p2
  cases q : evI c.o ti s with
  | ok ds s1 =>
    rw [q] at p2
    obtain ⟨hb, p3⟩ := Post.bif p2
    intro J vs ρ1 S1 H1 st w1 r dl Dd hD
    refine comp_core (Q := fun x H1 => gName j x σ H1 D.nx) w1 r dl (of_decide_eq_true hb) ((Post.step (l1 := s1.l) st p3).imp ?_) hD
    rintro v H2 ⟨ρ2, S2, s2, d2, a2, st2, r2, p4⟩
    exact p4 ρ2 S2 H2 _ (Step.refl.ow fun a => ⟨Ow_set a2.wd.sl.len, Ob_set a2.wd.sl.len⟩) ⟨a2.wd.gr, a2.wd.sl.set r2⟩
  | ex k fs s1 => rw [q] at p2; exact p2
  | no => rw [q] at p2; exact p2
end
end Pi
namespace Pi
open PySem L2

section
variable {E : En} {ρ : List Addr} {S H : Hp} {s : Pi.S} {σ : St} {l : List SV}
theorem own_get {l : List SV} {i j : Nat} {x y : SV} (e : (l.set i x)[j]? = some y) : (i = j ∧ y = x ∧ i < l.length) ∨ (i ≠ j ∧ l[j]? = some y) := by
  by_cases q : i = j
  · subst q
    by_cases hi : i < l.length
    · rw [List.getElem?_set_self hi] at e; cases e; exact .inl ⟨rfl, rfl, hi⟩
    · rw [List.getElem?_eq_none (by rw [List.length_set]; omega)] at e; cases e
  · rw [List.getElem?_set_ne q] at e; exact .inr ⟨q, e⟩
/-- a slot takes a list that nothing else holds -/
theorem Wd.own {p : Addr} {vs : List V} {ds : List D} {i : Nat} (w : Wd E ρ S s σ H) (hp : H p = some (.lst vs)) (sp : S p = none) (np : p ∉ ρ) (r : Reps E S ρ vs ds) (hi : i < σ.length)
    (no : ∀ j, j ≠ i → σ[j]? = some (some (.ref p)) → ¬ ((∃ ds, s.l[j]? = some (.own ds)) ∨ ∃ c fs, s.l[j]? = some (.ob c fs))) :
    Wd E ρ S ⟨s.l.set i (.own ds), s.g⟩ (σ.set i (some (.ref p))) H := by
  have hl := w.sl.len
  refine ⟨w.gr, by simp [hl], fun j d e => ?_, fun j es e => ?_, fun j c fs e => ?_, fun j k a hjk h1 h2 e => ?_⟩
  · rcases own_get e with ⟨_, z, _⟩ | ⟨q, e'⟩
    · cases z
    · rw [List.getElem?_set_ne q]; exact w.sl.v j d e'
  · rcases own_get e with ⟨q, z, _⟩ | ⟨q, e'⟩
    · cases z
      subst q
      exact ⟨p, vs, List.getElem?_set_self hi, hp, r, sp, np⟩
    · rw [List.getElem?_set_ne q]; exact w.sl.own j es e'
  · rcases own_get e with ⟨_, z, _⟩ | ⟨q, e'⟩
    · cases z
    · rw [List.getElem?_set_ne q]; exact w.sl.ob j c fs e'
  · have old : ∀ {m : Nat}, i ≠ m → ((∃ ds', (s.l.set i (.own ds))[m]? = some (.own ds')) ∨ ∃ c fs, (s.l.set i (.own ds))[m]? = some (.ob c fs)) → ((∃ ds', s.l[m]? = some (.own ds')) ∨ ∃ c fs, s.l[m]? = some (.ob c fs)) := fun {m} q h => by
      rw [List.getElem?_set_ne q] at h; exact h
    intro e2
    by_cases q1 : i = j
    · subst q1
      rw [List.getElem?_set_self hi] at e
      cases e
      rw [List.getElem?_set_ne hjk] at e2
      exact no k (Ne.symm hjk) e2 (old hjk h2)
    · rw [List.getElem?_set_ne q1] at e
      by_cases q2 : i = k
      · subst q2
        rw [List.getElem?_set_self hi] at e2
        cases e2
        exact no j hjk e (old q1 h1)
      · rw [List.getElem?_set_ne q2] at e2
        exact w.sl.dist j k a hjk (old q1 h1) (old q2 h2) e e2
theorem Ob_own {i : Nat} {p a : Addr} {ds : List D} (h : ObP (σ.set i (some (.ref p))) (l.set i (.own ds)) a) : ObP σ l a := by
  obtain ⟨j, h1, c, fs, h2⟩ := h
  rcases own_get h2 with ⟨_, z, _⟩ | ⟨q, e⟩
  · cases z
  · rw [List.getElem?_set_ne q] at h1
    exact ⟨j, h1, c, fs, e⟩
theorem Ow_own {i : Nat} {p a : Addr} {ds : List D} (hl : σ.length = l.length) (h : Ow (σ.set i (some (.ref p))) (l.set i (.own ds)) a) : Ow σ l a ∨ a = p := by
  obtain ⟨j, h1, h2⟩ := h
  by_cases q : i = j
  · subst q
    by_cases hi : i < σ.length
    · rw [List.getElem?_set_self hi] at h1; cases h1; exact .inr rfl
    · rw [List.getElem?_eq_none (by rw [List.length_set]; omega)] at h1; cases h1
  · rw [List.getElem?_set_ne q] at h1 h2
    exact .inl ⟨j, h1, h2⟩
end
section
variable {c : Cn} {X : Cx} {e tg it : Expr} {te ti : T} {t u : Pi.TS} {st : Stmt} {rest body a b es : List Stmt} {pos : Pos}
theorem Reach.nx {E : En} {D : Ends} {ρ' : List Addr} {S' : Hp} {σ' : St} {H' : Hp} (h : Reach E D .nx ρ' S' σ' H') : D.nx σ' H' := h
theorem PostS.bif {E : En} {W : WX} {σ : St} {ρ : List Addr} {S H : Hp} {l : List SV} {D : Ends} {k : Bool} {r : R F} (p : PostS E W σ ρ S l H (bif k then r else .no) D) : k = true ∧ PostS E W σ ρ S l H r D := by
  cases k with
  | true => exact ⟨rfl, p⟩
  | false => exact p.elim
/-- x = [a, b, ..], which will grow -/
theorem psi_mko {i : Nat} {x : Str} {es : List Expr} {p' lp : Pos} (hN : X.N.Nodup) (hi : X.N[i]? = some x) (hx : Loc X.env.scope x) (h : PAI c X es te) (hf : X.fn x = true ∨ X.env.scope.names.lookup x = some .local := by first | exact .inl rfl | exact .inr rfl) : PSI c X (.Assign [.Name x p'] (.List es lp) pos) (.mko i te) :=
  ⟨fun pins s0 σ H D I hh => by
    have hlen : i < σ.length := by rw [I.len]; exact (List.getElem?_eq_some_iff.mp hi).1
    refine (ps_set hN hi hx (pe_lst h) (by rfl) hf).run pins s0 σ H D I ?_
    obtain ⟨ρ, S, s, w, p⟩ := hh
    refine ⟨ρ, S, s, w, (PostS.bindA p).imp ?_⟩
    rintro vs H1 ⟨ρ1, S1, s1, d1, e1, a1, st1, r1, p1⟩
    obtain ⟨hb, p2⟩ := PostS.bif p1
    refine ⟨by rw [r1.len]; exact le_line (of_decide_eq_true hb), fun q hq => ?_⟩
    obtain ⟨f1, f2⟩ := a1.wd.gr.fresh hq
    have w2 : Wd c.E ρ1 S1 s1 σ (upd H1 q (.lst vs)) := ⟨a1.wd.gr.at f1 f2, a1.wd.sl.keep (Inc.refl _ _) (fun a _ u z => by rw [upd_ne (ne_of_none z hq)]; exact z) (fun _ _ _ z => z) fun _ _ _ z => z⟩
    have no : ∀ j, j ≠ i → σ[j]? = some (some (.ref q)) → ¬ ((∃ ds, s1.l[j]? = some (.own ds)) ∨ ∃ c fs, s1.l[j]? = some (.ob c fs)) := fun j _ hj h2 => by
      rcases h2 with ⟨es, h2⟩ | ⟨k, fs, h2⟩
      · obtain ⟨a', vs', z1, z2, _⟩ := a1.wd.sl.own j es h2
        rw [hj] at z1; cases z1; rw [hq] at z2; cases z2
      · obtain ⟨a', dx, fv, z1, z2, _⟩ := a1.wd.sl.ob j k fs h2
        rw [hj] at z1; cases z1; rw [hq] at z2; cases z2
    refine p2 ρ1 S1 _ _ ⟨Inc.refl _ _, fun _ z => .inl z, fun _ _ z => .inl z, fun a z => ?_, fun a u z _ _ => by rw [upd_ne (ne_of_none z hq)]; exact z, fun a z => ?_, fun a z => Ob_own z⟩ (w2.own upd_same f1 f2 r1 hlen no)
    · rcases Ow_own a1.wd.sl.len z with z | z
      · exact .inl z
      · subst z; exact .inr hq
    · by_cases y : a = q
      · subst y; exact hq
      · rw [upd_ne y] at z; exact z⟩
end
end Pi
namespace Pi
open PySem L2

section
variable {E : En} {ρ : List Addr} {S H : Hp} {s : Pi.S} {σ : St} {l : List SV}
theorem Ob_re {i : Nat} {a : Addr} {es : List D} (h : ObP σ (l.set i (.own es)) a) : ObP σ l a := by
  obtain ⟨j, h1, c, fs, h2⟩ := h
  rcases own_get h2 with ⟨_, z, _⟩ | ⟨q, e⟩
  · cases z
  · exact ⟨j, h1, c, fs, e⟩
theorem Ow_re {i : Nat} {a : Addr} {ds es : List D} (h0 : l[i]? = some (.own ds)) (h : Ow σ (l.set i (.own es)) a) : Ow σ l a := by
  obtain ⟨j, h1, h2⟩ := h
  refine ⟨j, h1, ?_⟩
  by_cases q : i = j
  · subst q; exact .inl ⟨ds, h0⟩
  · rw [List.getElem?_set_ne q] at h2; exact h2
/-- the content of an owned list is another one -/
theorem Wd.regrow {p : Addr} {vs : List V} {ds es : List D} {i : Nat} (w : Wd E ρ S s σ H) (h0 : s.l[i]? = some (.own ds)) (hp : σ[i]? = some (some (.ref p))) (r : Reps E S ρ vs es) :
    Wd E ρ S ⟨s.l.set i (.own es), s.g⟩ σ (upd H p (.lst vs)) ∧ Step ρ S (Ow σ s.l) H ρ S (Ow σ (s.l.set i (.own es))) (upd H p (.lst vs)) := by
  obtain ⟨a', vs0, q1, q2, q3, q4, q5⟩ := w.sl.own i ds h0
  rw [hp] at q1
  cases q1
  have hi : i < s.l.length := (List.getElem?_eq_some_iff.mp h0).1
  have ne : ∀ {j : Nat} {a : Addr}, i ≠ j → ((∃ ds, s.l[j]? = some (.own ds)) ∨ ∃ c fs, s.l[j]? = some (.ob c fs)) → σ[j]? = some (some (.ref a)) → a ≠ p := fun {j a} hj h2 h1 z => by
    subst z
    exact w.sl.dist i j a hj (.inl ⟨ds, h0⟩) h2 hp h1
  refine ⟨⟨w.gr.at q4 q5, by simp [w.sl.len], fun j d e => ?_, fun j fs e => ?_, fun j c fs e => ?_, fun j k a hjk h1 h2 e => ?_⟩, Inc.refl _ _, fun _ z => .inl z, fun _ _ z => .inl z, fun a z => .inl (Ow_re h0 z), fun a u e _ no => ?_, fun a z => ?_, fun a z => Ob_re z⟩
  · rcases own_get e with ⟨_, z, _⟩ | ⟨q, e'⟩
    · cases z
    · exact w.sl.v j d e'
  · rcases own_get e with ⟨q, z, _⟩ | ⟨q, e'⟩
    · cases z
      subst q
      exact ⟨p, vs, hp, upd_same, r, q4, q5⟩
    · obtain ⟨a', vs1, z1, z2, z3, z4, z5⟩ := w.sl.own j fs e'
      exact ⟨a', vs1, z1, by rw [upd_ne (ne q (.inl ⟨_, e'⟩) z1)]; exact z2, z3, z4, z5⟩
  · rcases own_get e with ⟨_, z, _⟩ | ⟨q, e'⟩
    · cases z
    · obtain ⟨a', dx, fv, z1, z2, zf, z3, z4, z5⟩ := w.sl.ob j c fs e'
      exact ⟨a', dx, fv, z1, by rw [upd_ne (ne q (.inr ⟨_, _, e'⟩) z1)]; exact z2, zf, z3, z4, z5⟩
  · have old : ∀ {m : Nat}, ((∃ ds', (s.l.set i (.own es))[m]? = some (.own ds')) ∨ ∃ c fs, (s.l.set i (.own es))[m]? = some (.ob c fs)) → ((∃ ds', s.l[m]? = some (.own ds')) ∨ ∃ c fs, s.l[m]? = some (.ob c fs)) := fun {m} h => by
      by_cases q : i = m
      · subst q; exact .inl ⟨ds, h0⟩
      · rw [List.getElem?_set_ne q] at h; exact h
    exact w.sl.dist j k a hjk (old h1) (old h2) e
  · rw [upd_ne (show a ≠ p from fun z => no (z ▸ ⟨i, hp, .inl ⟨ds, h0⟩⟩))]
    exact e
  · by_cases y : a = p
    · subst y; rw [upd_same] at z; cases z
    · rw [upd_ne y] at z; exact z
theorem isOwn_inv {i : Nat} (h : isOwn l i = true) : ∃ ds, l[i]? = some (.own ds) := by
  unfold isOwn at h
  split at h
  · exact ⟨_, by assumption⟩
  · cases h
end
section
variable {c : Cn} {X : Cx} {e tg it : Expr} {te ti : T} {t u : Pi.TS} {st : Stmt} {rest body a b : List Stmt} {pos : Pos}
/-- x.append(e) -/
theorem psi_app {i : Nat} {x : Str} {p' ap cp : Pos} (hK : X.K = c.E.K) (he : PEI c X e te) (hN : X.N[i]? = some x := by rfl) (hv : Vis X.env.scope x := by first | exact Or.inl rfl | exact Or.inr (Or.inl rfl) | exact Or.inr (Or.inr rfl))
    (hbase : attributeBase (.Name x p') "append" X.env (eval (.Name x p') X.env) = eval (.Name x p') X.env := by rfl)
    (hfew : ((backTo cp (starEach [e] X.env)).all (fun x => !x.1) && (backToKw cp (keywordEach [] X.env)).all (fun x => x.1.isSome) && decide ([e].length + ([] : List Keyword).length + (if ([] : List Keyword).isEmpty then 0 else 1) < 30)) = true := by rfl)
    (hline : (ap.endLine == cp.line) = true := by rfl) (hs : starEach [e] X.env = (false, eval e X.env) :: starEach [] X.env := by rfl) (hplain : (backTo cp (starEach [] X.env)).any (·.1) = false := by rfl)
    (hd : (x == ("__debug__" : Str)) = false := by decide) (hcd : (x == ("__classdict__" : Str)) = false := by decide)
    (hsw : swapsWith (.Call (.Attribute (.Name x p') "append" ap) [e] [] cp) none pos.line X.env = pure false := by rfl) : PSI c X (.Expr (.Call (.Attribute (.Name x p') "append" ap) [e] [] cp) pos) (.app i te) := by
  refine ps_le (ps_expr (pe_bm PySem.F.plainAttrs_list PySem.F.slot_list_append PySem.F.type_list_append mt_append (pe_var hN hv hd hcd) (pa_cons he pa_nil hs) hbase hfew hline hs hplain) hsw) fun D σ H h => ?_
  obtain ⟨ρ, S, s, w, p⟩ := h
  obtain ⟨ho, p⟩ := PostS.bif (show PostS c.E c.W σ ρ S s.l H (bif isOwn s.l i then _ else .no) D from p)
  obtain ⟨ds0, h0⟩ := isOwn_inv ho
  obtain ⟨q, vs0, q1, q2, q3, q4, q5⟩ := w.sl.own i ds0 h0
  refine ⟨.ref q, q1, .inl ⟨rfl, vs0, SqL.of q2⟩, ρ, S, s, w, (PostS.bind p).imp ?_⟩
  rintro y H1 ⟨ρ1, S1, s1, d1, a1, st1, r1, p1⟩
  split at p1
  · rename_i ds h1
    obtain ⟨hb, p2⟩ := PostS.bif p1
    obtain ⟨q', vs, z1, z2, z3, z4, z5⟩ := a1.wd.sl.own i ds h1
    rw [q1] at z1
    cases z1
    obtain ⟨w2, st2⟩ := a1.wd.regrow h1 q1 (z3.append (.cons r1 .nil))
    refine ⟨q, vs, y, rfl, rfl, z2, by rw [z3.len]; exact lt_line (of_decide_eq_true hb), p2 ρ1 S1 _ σ st2 w2⟩
  · exact p1.elim
/-- from here on the list stands -/
theorem psi_frz {i : Nat} (h : PSsI c X rest t) : PSsI c X rest (.seq (.frz i) t) := pss_le h fun D σ H h => by
  obtain ⟨ρ, S, s, w, p⟩ := h
  have p' : PostS c.E c.W σ ρ S s.l H (match (match s.l[i]? with
    | some (.own ds) => R.ok F.nx ⟨s.l.set i (.v (.lst ds)), s.g⟩
    | _ => R.no) with
    | .ok .nx s => evS c.o t s
    | r => r) D := p
  obtain ⟨ds, h0⟩ : ∃ ds, s.l[i]? = some (.own ds) := by
    cases h0 : s.l[i]? with
    | none => rw [h0] at p'; exact p'.elim
    | some x =>
      cases x with
      | own ds => exact ⟨ds, rfl⟩
      | un => rw [h0] at p'; exact p'.elim
      | v _ => rw [h0] at p'; exact p'.elim
      | ob _ _ => rw [h0] at p'; exact p'.elim
  rw [h0] at p'
  obtain ⟨q, vs, z1, z2, z3, z4, z5⟩ := w.sl.own i ds h0
  have hi : i < s.l.length := (List.getElem?_eq_some_iff.mp h0).1
  have i2 : Inc S ρ (upd S q (.lst vs)) ρ := Inc.new z4
  have ow : ∀ a, Ow σ (s.l.set i (.v (.lst ds))) a → Ow σ s.l a := fun a ⟨j, h1, h2⟩ => by
    by_cases y : i = j
    · subst y
      rw [List.getElem?_set_self hi] at h2
      rcases h2 with ⟨_, h2⟩ | ⟨_, _, h2⟩ <;> cases h2
    · rw [List.getElem?_set_ne y] at h2; exact ⟨j, h1, h2⟩
  have ob : ∀ a, ObP σ (s.l.set i (.v (.lst ds))) a → ObP σ s.l a := fun a ⟨j, h1, k, fs, h2⟩ => by
    rcases own_get h2 with ⟨_, z, _⟩ | ⟨_, e⟩
    · cases z
    · exact ⟨j, h1, k, fs, e⟩
  have noq : ¬ Ow σ (s.l.set i (.v (.lst ds))) q := fun ⟨j, h1, h2⟩ => by
    by_cases y : i = j
    · subst y
      rw [List.getElem?_set_self hi] at h2
      rcases h2 with ⟨_, h2⟩ | ⟨_, _, h2⟩ <;> cases h2
    · rw [List.getElem?_set_ne y] at h2
      exact w.sl.dist i j q y (.inl ⟨ds, h0⟩) h2 z1 h1
  have w1 : Wd c.E ρ S ⟨s.l.set i .un, s.g⟩ σ H := by
    refine ⟨w.gr, by simp [w.sl.len], fun j d e => ?_, fun j fs e => ?_, fun j k fs e => ?_, fun j k a hjk h1 h2 e => ?_⟩
    · rcases own_get e with ⟨_, z, _⟩ | ⟨y, e'⟩
      · cases z
      · exact w.sl.v j d e'
    · rcases own_get e with ⟨_, z, _⟩ | ⟨y, e'⟩
      · cases z
      · exact w.sl.own j fs e'
    · rcases own_get e with ⟨_, z, _⟩ | ⟨y, e'⟩
      · cases z
      · exact w.sl.ob j k fs e'
    · have old : ∀ {m : Nat}, ((∃ ds', (s.l.set i .un)[m]? = some (.own ds')) ∨ ∃ c fs, (s.l.set i .un)[m]? = some (.ob c fs)) → ((∃ ds', s.l[m]? = some (.own ds')) ∨ ∃ c fs, s.l[m]? = some (.ob c fs)) := fun {m} h => by
        by_cases y : i = m
        · subst y; exact .inl ⟨ds, h0⟩
        · rw [List.getElem?_set_ne y] at h; exact h
      exact w.sl.dist j k a hjk (old h1) (old h2) e
  have nou : ¬ Ow σ (s.l.set i .un) q := fun ⟨j, h1, h2⟩ => by
    by_cases y : i = j
    · subst y
      rw [List.getElem?_set_self hi] at h2
      rcases h2 with ⟨_, h2⟩ | ⟨_, _, h2⟩ <;> cases h2
    · rw [List.getElem?_set_ne y] at h2
      exact w.sl.dist i j q y (.inl ⟨ds, h0⟩) h2 z1 h1
  have w2 := w1.freeze z2 z4 z5 nou
  have w3 : Wd c.E ρ (upd S q (.lst vs)) ⟨s.l.set i (.v (.lst ds)), s.g⟩ σ H := by
    have hσ : σ.set i (some (.ref q)) = σ := by
      apply List.ext_getElem?
      intro j
      by_cases y : i = j
      · subst y
        rw [List.getElem?_set_self (by rw [w.sl.len]; exact hi), z1]
      · rw [List.getElem?_set_ne y]
    have w4 := w2.sl.set (i := i) (v := .ref q) (d := .lst ds) (.lst (SqL.of upd_same) (z3.mono i2))
    rw [List.set_set, hσ] at w4
    exact ⟨w2.gr, w4⟩
  refine ⟨ρ, _, _, w3, PostS.step (l1 := s.l.set i (.v (.lst ds))) ⟨i2, fun _ z => .inl z, fun a o z => ?_, fun a z => .inl (ow a z), fun _ _ z _ _ => z, fun _ z => z, fun a z => ob a z⟩ p'⟩
  by_cases y : a = q
  · subst y; exact .inr (.inr ⟨i, z1, .inl ⟨ds, h0⟩⟩)
  · rw [upd_ne y] at z; exact .inl z
end
end Pi
namespace Pi
open PySem PySem.Spec L2

section
variable {ρ ρ' : List Addr} {S S' H H' : Hp} {B B' : Bs}
theorem Step.toNo (a : Step ρ S B H ρ' S' B' H') (h : ∀ x, ¬ B x) : Step ρ S noB H ρ' S' noB H' :=
  ⟨a.inc, a.nρ, fun x o z => by
    rcases a.nS x o z with z | z | z
    · exact .inl z
    · exact .inr (.inl z)
    · exact absurd z (h x), fun _ z => z.elim, fun x o e n _ => a.fr x o e n (h x), a.dom, fun _ z => z⟩
end

/-! ### a def keeps what its body means -/
theorem slots_get {n : Nat} {ds : List D} {i : Nat} {x : SV} (h : (slots n ds)[i]? = some x) : x = .un ∨ ∃ d, x = .v d ∧ ds[i]? = some d := by
  unfold slots at h
  by_cases q : i < ds.length
  · rw [List.getElem?_append_left (by simpa using q), List.getElem?_map] at h
    cases hd : ds[i]? with
    | none => rw [hd] at h; cases h
    | some d => rw [hd] at h; cases h; exact .inr ⟨d, rfl, rfl⟩
  · rw [List.getElem?_append_right (by simpa using q), List.getElem?_replicate] at h
    split at h
    · cases h; exact .inl rfl
    · cases h
theorem sl_start {E : En} {ρ : List Addr} {S H : Hp} {N : List Str} {vs : List V} {ds : List D} (r : Reps E S ρ vs ds) (hl : vs.length ≤ N.length) : Sl E ρ S H (L2.start N vs) (slots N.length ds) := by
  have hlen := r.len
  refine ⟨?_, fun i d e => ?_, fun i fs e => ?_, fun i c fs e => ?_, fun i j a _ h1 _ _ => ?_⟩
  · unfold L2.start slots
    simp [hlen]
  · rcases slots_get e with z | ⟨d', z, e'⟩
    · cases z
    · cases z
      obtain ⟨v, h1, h2⟩ := r.get e'
      refine ⟨v, ?_, h2⟩
      unfold L2.start
      have hi := (List.getElem?_eq_some_iff.mp h1).1
      rw [List.getElem?_append_left (by simpa using hi), List.getElem?_map, h1]
      rfl
  · rcases slots_get e with z | ⟨d', z, e'⟩ <;> cases z
  · rcases slots_get e with z | ⟨d', z, e'⟩ <;> cases z
  · rcases h1 with ⟨fs, e⟩ | ⟨k, fs, e⟩
    · rcases slots_get e with z | ⟨d', z, e'⟩ <;> cases z
    · rcases slots_get e with z | ⟨d', z, e'⟩ <;> cases z
theorem no_Ow_start {σ : St} {n : Nat} {ds : List D} {a : Addr} : ¬ Ow σ (slots n ds) a := by
  rintro ⟨j, _, h2⟩
  rcases h2 with ⟨fs, e⟩ | ⟨k, fs, e⟩
  · rcases slots_get e with z | ⟨d', z, e'⟩ <;> cases z
  · rcases slots_get e with z | ⟨d', z, e'⟩ <;> cases z
abbrev WZ (Z : XK) : WX := fun cls d _ H => Z cls d H
section
variable {P : Program} {w : World} {K : PySem.W.Frag} {mg : Str → Option Value} {base : Heap} {E : En} {o : O}
theorem fnI {x qual : Str} {st : Stmt} {f : Addr} {fd : FuncData} {N ps : List Str} {k : Nat} {t : Pi.TS} {dvs : List V} {kws : List (Str × V)} (F : FunD K x qual (defArgs st) (defBody st) (defScope st) dvs kws f fd) (Sc : FnScope N ps (defScope st)) (hN : ps.length ≤ N.length)
    (hb : ∀ (cdv : Value) (A : Around) (outer : List Env) (s : Shared) (H : Hp) (Z : XK), Room k (A.deeper (PyProof.Rows.envOfC qual (defScope st) s.heap.objs.size f cdv)) →
      PSsI ⟨E, o, WZ Z⟩ (cxOf (L2.CX P w) P w K mg base N qual (defScope st) f cdv A outer s H Z) (defBody st) t) :
    FnOk P w K mg base (L2.CX P w) (k + 1) f fd ps (spI E ps.length (runD o N.length t)) := by
  refine F.ok (CX := L2.CX P w) Sc (fun vs H Q Z h => h.1) fun cdv A outer s H vs Q Z hr h => ?_
  obtain ⟨hl, ρ, S, g, ds, gr, r, p⟩ := h
  refine ⟨_, hb cdv A outer s H Z hr, ρ, S, ⟨slots N.length ds, g⟩, ⟨gr, sl_start r (by omega)⟩, ?_⟩
  have p' : PostC E ρ S H (evS o t ⟨slots N.length ds, g⟩).toC Q Z := p
  cases q : evS o t ⟨slots N.length ds, g⟩ with
  | ok fl s' =>
    rw [q] at p'
    intro ρ' S' H' σ' stp wd
    have st0 := stp.toNo fun a => no_Ow_start
    cases fl with
    | nx => exact p' .non ρ' S' H' st0 wd.gr .non
    | rt d => exact fun v rv => p' v ρ' S' H' st0 wd.gr rv
    | bk => exact p'.elim
    | ct => exact p'.elim
  | ex k fs s' =>
    rw [q] at p'
    exact fun ρ' S' H' σ' y fv stp wd hy rf => p' ρ' S' H' y fv (stp.toNo fun a => no_Ow_start) wd.gr hy rf
  | no => rw [q] at p'; exact p'
/-- another function in its place, where it says something -/
theorem fnI_as {f : Addr} {fd : FuncData} {ps : List Str} {k n : Nat} {m m' : List D → List MO → Pi.C} (F : FnOk P w K mg base (L2.CX P w) k f fd ps (spI E n m)) (h : ∀ ds g, ds.length = n → m' ds g ≠ .no → m ds g = m' ds g) : FnOk P w K mg base (L2.CX P w) k f fd ps (spI E n m') :=
  F.imp fun vs H Q Z q => by
    obtain ⟨hl, ρ, S, g, ds, gr, r, p⟩ := q
    refine ⟨hl, ρ, S, g, ds, gr, r, ?_⟩
    by_cases z : m' ds g = .no
    · rw [z] at p; exact p.elim
    · rw [h ds g (by rw [← r.len]; exact hl) z]; exact p
theorem initI_as {f : Addr} {fd : FuncData} {ps : List Str} {k n c : Nat} {m m' : List D → List MO → CI} (F : FnOk P w K mg base (L2.CX P w) k f fd ps (spN E n c m)) (h : ∀ ds g, ds.length = n → m' ds g ≠ .no → m ds g = m' ds g) : FnOk P w K mg base (L2.CX P w) k f fd ps (spN E n c m') :=
  F.imp fun vs H Q Z q => by
    obtain ⟨p, ws, dx, ρ, S, g, ds, e, hl, hp, sp, np, gr, r, pp⟩ := q
    refine ⟨p, ws, dx, ρ, S, g, ds, e, hl, hp, sp, np, gr, r, ?_⟩
    by_cases z : m' ds g = .no
    · rw [z] at pp; exact pp.elim
    · rw [h ds g (by rw [← r.len]; exact hl) z]; exact pp
theorem initI {x qual : Str} {st : Stmt} {f : Addr} {fd : FuncData} {N ps : List Str} {k n c : Nat} {t : Pi.TS} {dvs : List V} {kws : List (Str × V)} (F : FunD K x qual (defArgs st) (defBody st) (defScope st) dvs kws f fd) (Sc : FnScope N ps (defScope st)) (hps : ps.length = n + 1) (hN : ps.length ≤ N.length) (hco : E.co c = true)
    (hb : ∀ (cdv : Value) (A : Around) (outer : List Env) (s : Shared) (H : Hp) (Z : XK), Room k (A.deeper (PyProof.Rows.envOfC qual (defScope st) s.heap.objs.size f cdv)) →
      PSsI ⟨E, o, WZ Z⟩ (cxOf (L2.CX P w) P w K mg base N qual (defScope st) f cdv A outer s H Z) (defBody st) t) :
    FnOk P w K mg base (L2.CX P w) (k + 1) f fd ps (spN E n c (runN o N.length c t)) := by
  refine F.ok (CX := L2.CX P w) Sc (fun vs H Q Z h => ?_) fun cdv A outer s H vs Q Z hr h => ?_
  · obtain ⟨p, ws, dx, ρ, S, g, ds, e, hl, _⟩ := h
    rw [e, List.length_cons, hl, hps]
  obtain ⟨p, ws, dx, ρ, S, g, ds, rfl, hl, hp, sp, np, gr, r, pp⟩ := h
  obtain ⟨M, hM⟩ : ∃ M : List Str, N.length = M.length + 1 := ⟨N.tail, by simp; omega⟩
  have e1 : L2.start N (.ref p :: ws) = some (.ref p) :: L2.start M ws := by
    unfold L2.start
    have : N.length - (V.ref p :: ws).length = M.length - ws.length := by simp; omega
    rw [this]
    rfl
  have e2 : N.length - 1 = M.length := by omega
  have s0 := sl_start (E := E) (S := S) (ρ := ρ) (H := H) (N := M) r (by omega)
  have own1 : ∀ a, Ow (L2.start N (.ref p :: ws)) (.ob c [] :: slots M.length ds) a → a = p := fun a ⟨j, h1, h2⟩ => by
    rw [e1] at h1
    cases j with
    | zero => cases h1; rfl
    | succ j => exact absurd ⟨j, by simpa using h1, by simpa using h2⟩ (no_Ow_start (σ := L2.start M ws) (n := M.length) (ds := ds) (a := a))
  have wd0 : Wd E ρ S ⟨.ob c [] :: slots M.length ds, g⟩ (L2.start N (.ref p :: ws)) H := by
    refine ⟨gr, ?_⟩
    rw [e1]
    refine ⟨by simp [s0.len], fun i d e => ?_, fun i fs e => ?_, fun i k fs e => ?_, fun i j a hij h1 h2 e => ?_⟩
    · cases i with
      | zero => cases e
      | succ i => simpa using s0.v i d (by simpa using e)
    · cases i with
      | zero => cases e
      | succ i => simpa using s0.own i fs (by simpa using e)
    · cases i with
      | zero =>
        simp at e
        obtain ⟨rfl, rfl⟩ := e
        exact ⟨p, dx, [], rfl, hp, ⟨hco, fun _ z => nomatch z⟩, .nil, sp, np⟩
      | succ i => simpa using s0.ob i k fs (by simpa using e)
    · have nope : ∀ (m : Nat), ¬ ((∃ ds', (slots M.length ds)[m]? = some (.own ds')) ∨ ∃ c fs, (slots M.length ds)[m]? = some (.ob c fs)) := fun m h => by
        rcases h with ⟨fs, e⟩ | ⟨k, fs, e⟩
        · rcases slots_get e with z | ⟨d', z, e'⟩ <;> cases z
        · rcases slots_get e with z | ⟨d', z, e'⟩ <;> cases z
      cases i with
      | succ i => exact absurd (by simpa using h1) (nope i)
      | zero =>
        cases j with
        | zero => exact absurd rfl hij
        | succ j => exact absurd (by simpa using h2) (nope j)
  refine ⟨_, hb cdv A outer s H Z hr, ρ, S, _, wd0, ?_⟩
  have pp' : PostN E ρ S H p c ((evS o t ⟨.ob c [] :: slots (N.length - 1) ds, g⟩).toCI c) Q Z := pp
  rw [e2] at pp'
  have toP : ∀ {ρ' : List Addr} {S' H' : Hp} {B' : Bs}, Step ρ S (Ow (L2.start N (.ref p :: ws)) (.ob c [] :: slots M.length ds)) H ρ' S' B' H' → Step ρ S (atB p) H ρ' S' (atB p) H' := fun {ρ' S' H' B'} a =>
    ⟨a.inc, a.nρ, fun x u z => by
      rcases a.nS x u z with z | z | z
      · exact .inl z
      · exact .inr (.inl z)
      · exact .inr (.inr (own1 x z)), fun _ z => .inl z, fun x u e n m => a.fr x u e n fun z => m (own1 x z), a.dom, fun _ z => z⟩
  have ob1 : ∀ a, ObP (L2.start N (.ref p :: ws)) (.ob c [] :: slots M.length ds) a → a = p := fun a ⟨j, h1, k, fs, h2⟩ => own1 a ⟨j, h1, .inr ⟨k, fs, h2⟩⟩
  have fin : ∀ {ρ' : List Addr} {S' H' : Hp} {s' : Pi.S} {σ' : L2.St}, PostN E ρ S H p c (R.fin c s') Q Z → Step ρ S (Ow (L2.start N (.ref p :: ws)) (.ob c [] :: slots M.length ds)) H ρ' S' (Ow σ' s'.l) H' → Wd E ρ' S' s' σ' H' → Q .non H' := fun {ρ' S' H' s' σ'} pn stp wd => by
    unfold R.fin at pn
    split at pn
    · rename_i k' fs e
      cases hk : k' == c with
      | false => rw [hk] at pn; exact pn.elim
      | true =>
        rw [hk] at pn
        obtain rfl := eq_of_beq hk
        obtain ⟨a, dx', fv, z1, z2, z3, z4, z5, z6⟩ := wd.sl.ob 0 k' fs e
        obtain rfl := ob1 a (stp.nO a ⟨0, z1, k', fs, e⟩)
        exact pn ρ' S' H' dx' fv (toP stp) wd.gr z2 z3 z4 z5 z6
    · exact pn.elim
  cases q : evS o t ⟨.ob c [] :: slots M.length ds, g⟩ with
  | ok fl s' =>
    rw [q] at pp'
    intro ρ' S' H' σ' stp wd
    cases fl with
    | nx => exact fin pp' stp wd
    | rt d =>
      cases d <;> first
        | (exact pp'.elim)
        | skip
      intro v rv
      cases rv
      exact fin pp' stp wd
    | bk => exact pp'.elim
    | ct => exact pp'.elim
  | ex k fs s' =>
    rw [q] at pp'
    intro ρ' S' H' σ' y fv stp wd hy rf
    exact pp' ρ' S' H' y fv (toP stp) wd.gr hy rf
  | no => rw [q] at pp'; exact pp'.elim
end
end Pi
namespace Pi
open PySem PySem.W L2
theorem in_own {prog : Program} {w : World} {A : Around} {E : Value → Shared → Prop} {s : Shared} {K : Frag} {C f x : Addr} {ox : Obj} {od : Option Obj} {y : Value} {Q : Value → Shared → Prop} (X : K.In s.heap) (I : InstAt s.heap x ox C od)
    (hs : findIn K (.ref C) "__contains__" = some (some (.ref f))) (hf : typeIn K (.ref f) = some (.type "function"))
    (h : wpAny (model prog w) A (call (.ref f) [.ref x, y]) (fun v s' => wpAny (model prog w) A (truthy v) (fun b s'' => Q (.bool b) s'') E s') E s) : wpAny (model prog w) A (compareOp .In y (.ref x)) Q E s := by
  show wpAny _ A (do return .bool (← contains (.ref x) y)) Q E s
  unfold contains
  refine wpAny_bind (wpAny_holding ?_)
  show wpAny _ A (do
    if (← specialOf (.ref x) "__contains__") == some .none then
      rule "in.none"; raiseError "TypeError" s!"'{← typeNameOf (.ref x)}' object is not a container"
    match ← callSpecialUnlessNone? (.ref x) "__contains__" [y] (do rule "in.none"; raiseError "TypeError" s!"'{← typeNameOf (.ref x)}' object is not a container") with
    | some r => truthy r
    | none => _) _ E s
  refine wpAny_bind (wpAny_bind (I.type.here ((looks_findIn X hs).here ?_)))
  show wpAny _ A (do
    match ← callSpecialUnlessNone? (.ref x) "__contains__" [y] (do rule "in.none"; raiseError "TypeError" s!"'{← typeNameOf (.ref x)}' object is not a container") with
    | some r => truthy r
    | none => _) _ E s
  refine wpAny_bind ?_
  unfold callSpecialUnlessNone?
  refine wpAny_bind (wpAny_bind (I.type.here ((looks_findIn X hs).here ?_)))
  refine wpAny_holding (wpAny_bind ((bind_fn X _ hf).here ?_))
  show wpAny _ A (do return some (← call (.ref f) ([.ref x] ++ [y]))) _ E s
  refine wpAny_bind (wpAny_mono h (fun v s' hv => wpAny_pure (wpAny_mono hv (fun b s2 q => wpAny_pure q) fun _ _ z => z)) fun _ _ z => z)
theorem notIn_own {prog : Program} {w : World} {A : Around} {E : Value → Shared → Prop} {s : Shared} {K : Frag} {C f x : Addr} {ox : Obj} {od : Option Obj} {y : Value} {Q : Value → Shared → Prop} (X : K.In s.heap) (I : InstAt s.heap x ox C od)
    (hs : findIn K (.ref C) "__contains__" = some (some (.ref f))) (hf : typeIn K (.ref f) = some (.type "function"))
    (h : wpAny (model prog w) A (call (.ref f) [.ref x, y]) (fun v s' => wpAny (model prog w) A (truthy v) (fun b s'' => Q (.bool (!b)) s'') E s') E s) : wpAny (model prog w) A (compareOp .NotIn y (.ref x)) Q E s := by
  show wpAny _ A (do return .bool (!(← contains (.ref x) y))) Q E s
  unfold contains
  refine wpAny_bind (wpAny_holding ?_)
  refine wpAny_bind (wpAny_bind (I.type.here ((looks_findIn X hs).here ?_)))
  show wpAny _ A (do
    match ← callSpecialUnlessNone? (.ref x) "__contains__" [y] (do rule "in.none"; raiseError "TypeError" s!"'{← typeNameOf (.ref x)}' object is not a container") with
    | some r => truthy r
    | none => _) _ E s
  refine wpAny_bind ?_
  unfold callSpecialUnlessNone?
  refine wpAny_bind (wpAny_bind (I.type.here ((looks_findIn X hs).here ?_)))
  refine wpAny_holding (wpAny_bind ((bind_fn X _ hf).here ?_))
  show wpAny _ A (do return some (← call (.ref f) ([.ref x] ++ [y]))) _ E s
  refine wpAny_bind (wpAny_mono h (fun v s' hv => wpAny_pure (wpAny_mono hv (fun b s2 q => wpAny_pure q) fun _ _ z => z)) fun _ _ z => z)

section
variable {c : Cn} {X : Cx} {a b : Expr} {ta tb : T} {pos : Pos}
/-- an own method that x in o calls, and the like -/
structure Slotted (c : Cn) (X : Cx) (m : Str) (n : Nat) (g : Nat → Option Nat) : Prop where
  ex : ∀ k f, c.E.co k = true → g k = some f → ∃ (j : Nat) (a : Addr) (fd : FuncData) (ps : List Str), FnOk X.prog X.w X.K X.mg X.base (L2.CX X.prog X.w) j a fd ps (spI c.E n (c.o.call f)) ∧ Room j X.A ∧
    PySem.W.findIn X.K (.ref (c.E.cl k)) m = some (some (.ref a)) ∧ PySem.W.typeIn X.K (.ref a) = some (.type "function") ∧ Binds X.K fd ps []
def rIno (c : Cn) (neg : Bool) : R2 := fun x y H Q => ∃ ρ S g d1 d2 k f, Gr c.E ρ S g H ∧ Rep c.E S ρ x d1 ∧ Rep c.E S ρ y d2 ∧ clsS g d2 = some k ∧ c.o.cont k = some f ∧
  PostC c.E ρ S H (c.o.call f [d2, d1] g) (fun v H' => ∃ q, v = .bl q ∧ Q (.bl (bif neg then !q else q)) H') (fun _ _ _ => False)
theorem ino_run (T : Slotted c X "__contains__" 2 c.o.cont) {tk : Takes X c.W} {neg : Bool} {pins : List (Addr × Obj)} {s : Shared} {σ : L2.St} {H : Hp} {x y : V} {v u : Value} {Q : VK} (I : L2.Inv X pins σ H s) (rx : RelV x v) (ry : RelV y u) (h : rIno c neg x y H Q) :
    ∃ p C od C' f, u = .ref p ∧ PySem.W.InstAt s.heap p od C (some C') ∧ PySem.W.findIn X.K (.ref C) "__contains__" = some (some (.ref f)) ∧ PySem.W.typeIn X.K (.ref f) = some (.type "function") ∧
      wpAny (model X.prog X.w) X.A (call (.ref f) [.ref p, v]) (fun z s' => wpAny (model X.prog X.w) X.A (truthy z) (fun b s'' => EP X pins σ Q (.bool (bif neg then !b else b)) s'') X.xe s') X.xe s := by
  obtain ⟨ρ, S, g, d1, d2, k, f, gr, r1, r2, hk, hf, p⟩ := h
  obtain ⟨q, dx, fv, fs, rfl, h1, h2, h3⟩ := clsS_inv gr r2 hk
  cases ry
  obtain ⟨j, fa, fd, ps, G, hr, hm, ht, hb⟩ := T.ex k f h2.1 hf
  obtain ⟨mA, O, _⟩ := ins_get I.hok h1
  obtain ⟨od, J, _⟩ := O.look
  refine ⟨q, _, _, od, fa, rfl, J, hm, ht, ?_⟩
  have hsp : spI c.E 2 (c.o.call f) [.ref q, x] H (fun v H' => ∃ q, v = .bl q ∧ Q (.bl (bif neg then !q else q)) H') (fun _ _ _ => False) := ⟨rfl, ρ, S, g, [d2, d1], gr, .cons r2 (.cons r1 .nil), p⟩
  refine thn (run_fn (us := [.ref q, v]) (vs := [.ref q, x]) (dvs := []) (E := fun _ _ _ => False) G hr hb .nil (passes_call tk fun _ _ _ _ z => z.elim) I (.cons rfl (.cons rx .nil)) hsp) ?_
  rintro z s1 ⟨w, H1, I1, rw', b, rfl, qq⟩
  cases rw'
  exact wpAny_truthy_bool ⟨.bl _, H1, I1, rfl, qq⟩
theorem opi_in (tk : Takes X c.W) (T : Slotted c X "__contains__" 2 c.o.cont) : OpR X (compareOp .In) (rIno c false) := by
  intro pins s σ H x y v u Q I rx ry h
  obtain ⟨p, C, od, C', f, rfl, J, h1, h2, h3⟩ := ino_run T (tk := tk) I rx ry h
  exact in_own I.kIn J h1 h2 h3
theorem opi_nin (tk : Takes X c.W) (T : Slotted c X "__contains__" 2 c.o.cont) : OpR X (compareOp .NotIn) (rIno c true) := by
  intro pins s σ H x y v u Q I rx ry h
  obtain ⟨p, C, od, C', f, rfl, J, h1, h2, h3⟩ := ino_run T (tk := tk) I rx ry h
  exact notIn_own I.kIn J h1 h2 h3
theorem ino_le {neg : Bool} {σ : St} {H : Hp} {Q : VK} (h : tI c.E c.W (ev c.o (.ino neg ta tb)) σ H Q) : tOp (rIno c neg) (tI c.E c.W (ev c.o ta)) (tI c.E c.W (ev c.o tb)) σ H Q := by
  obtain ⟨ρ, S, s, w, p⟩ := h
  refine ⟨ρ, S, s, w, (Post.bind p).imp ?_⟩
  rintro x H1 ⟨ρ1, S1, s1, d1, a1, r1, p1⟩
  refine ⟨ρ1, S1, s1, a1.wd, (Post.bind p1).imp ?_⟩
  rintro y H2 ⟨ρ2, S2, s2, d2, a2, r2, p2⟩
  split at p2
  · rename_i k hk
    split at p2
    · rename_i f hf
      refine ⟨ρ2, S2, s2.g, d1, d2, k, f, a2.wd.gr, r1.mono a2.inc, r2, hk, hf, ?_⟩
      cases hc : c.o.call f [d2, d1] s2.g with
      | ok z g =>
        rw [hc] at p2
        cases z <;> first
          | (exact (show False from p2).elim)
          | skip
        intro v ρ' S' H' st gr rp
        obtain ⟨w3, st3⟩ := lift st a2.wd gr
        exact ⟨_, bl_of rp, p2 _ ρ' S' H' st3 w3 (.bl _)⟩
      | ex _ _ _ => rw [hc] at p2; exact (show False from p2).elim
      | no => rw [hc] at p2; exact (show False from p2).elim
    · exact p2.elim
  · exact p2.elim
theorem pi_ino {neg : Bool} {op : CmpOp} (ho : OpR X (compareOp op) (rIno c neg)) (ha : PEI c X a ta) (hb : PEI c X b tb) (hm : behindInMarks op b = false) : PEI c X (.Compare a [op] [b] pos) (.ino neg ta tb) :=
  pe_le (pe_cmpR ho ha hb hm) fun _ _ _ => ino_le
theorem pit_ino {neg : Bool} {op : CmpOp} (ho : OpR X (compareOp op) (rIno c neg)) (ha : PEI c X a ta) (hb : PEI c X b tb) (hm : behindInMarks op b = false) : PTI c X (.Compare a [op] [b] pos) (.ino neg ta tb) :=
  pt_le (pt_cmpR ho ha hb hm) fun _ _ _ => ino_le
end
end Pi
namespace Pi
open PySem L2

/-! ### raise -/
/-- an error's own __init__ keeps its one argument -/
def spX (C : Addr) (f : Str) : Sp := fun vs H Q _ => ∃ a v, vs = [.ref a, v] ∧ H a = some (exo a C none) ∧ ∀ dx, H dx = none → dx ≠ a → Q .non (upd (upd H dx (exd dx [(f, v)])) a (exo a C (some dx)))
structure ExcF (c : Cn) (X : Cx) (x : Str) (k n : Nat) : Prop where
  hn : n < c.E.nat
  oex : OexC X.K (c.E.cl k)
  hm : X.mg x = some (.ref (c.E.cl k))
  ex : ∃ (j : Nat) (fI : Addr) (fd : FuncData) (ps : List Str), PySem.W.findIn X.K (.ref (c.E.cl k)) "__init__" = some (some (.ref fI)) ∧ PySem.W.typeIn X.K (.ref fI) = some (.type "function") ∧
    FnOk X.prog X.w X.K X.mg X.base (L2.CX X.prog X.w) j fI fd ps (spX (c.E.cl k) (c.E.at_ n)) ∧ Room (j + 1) X.A ∧ Binds X.K fd ps []
section
variable {c : Cn} {X : Cx} {e : Expr} {te : T} {pos p pos2 : Pos}
theorem psi_raise {x : Str} {k n : Nat} (hc : X.calm = true) (tk : Takes X c.W) (F : ExcF c X x k n) (hg : Gl X x) (ha : PAI c X [e] te) (hdb : (x == ("__debug__" : Str)) = false := by decide)
    (he : starEach (e :: []) X.env = (false, eval e X.env) :: starEach [] X.env := by rfl) (hpl : (backTo pos (starEach [] X.env)).any (·.1) = false := by rfl) :
    PSI c X (.Raise (some (.Call (.Name x p) [e] [] pos)) none pos2) (.raise k n te) := by
  obtain ⟨j, fI, fd, ps, iC, tI', G, hr, hb⟩ := F.ex
  refine ps_le (ps_raise hc tk (pmk_oex (dvs := []) F.oex iC tI' G hr hb .nil (passes_call tk fun _ _ _ _ z => z.elim) hg F.hm ha hdb he hpl)) fun D σ H h => ?_
  obtain ⟨ρ, S, s, w, q⟩ := h
  refine ⟨ρ, S, s, w, (PostS.bindA q).imp ?_⟩
  rintro vs H1 ⟨ρ1, S1, s1, ds, e1, a1, st1, r1, p1⟩
  match ds, r1, p1 with
  | [d], .cons (v := v) r .nil, p1 =>
    refine ⟨(by show 1 ≤ 1000; decide), fun a ha => ⟨a, v, rfl, upd_same, fun dx hdx hne => ⟨rfl, dx, [(c.E.at_ n, v)], upd_same, ?_, ?_, ?_⟩⟩⟩
    · rw [upd_ne hne, upd_same]
    · rw [upd_ne hne] at hdx; exact hdx
    · have hd1 : H1 dx = none := by rw [upd_ne hne] at hdx; exact hdx
      have eH : upd (del (upd (upd (upd H1 a (exo a (c.E.cl k) none)) dx (exd dx [(c.E.at_ n, v)])) a (exo a (c.E.cl k) (some dx))) a) dx (.xd [(c.E.at_ n, v)]) = upd H1 dx (.xd [(c.E.at_ n, v)]) := by
        funext b
        by_cases q1 : b = dx
        · subst q1; rw [upd_same, upd_same]
        · rw [upd_ne q1, upd_ne q1]
          by_cases q2 : b = a
          · subst q2; rw [del_same, ha]
          · rw [del_ne q2, upd_ne q2, upd_ne q1, upd_ne q2]
      rw [eH]
      obtain ⟨f1, f2⟩ := a1.wd.gr.fresh hd1
      exact p1 ρ1 _ _ σ dx _ (Step.new a1.wd.gr hd1) (a1.wd.new hd1) upd_same (.cons F.hn (r.mono (Inc.new f1)) .nil)
/-- self.f = e in an __init__ -/
theorem psi_setF {x f : Str} {k n : Nat} {px pa : Pos} (hK : X.K = c.E.K) (hf : c.E.at_ n = f) (hfo : c.E.fo k n = true) (he : PEI c X e te) (hN : X.N[(0 : Nat)]? = some x := by rfl) (hv : Vis X.env.scope x := by first | exact Or.inl rfl | exact Or.inr (Or.inl rfl) | exact Or.inr (Or.inr rfl))
    (hs : swapsWith e (some (.Attribute (.Name x px) f pa)) pos.line X.env = pure false := by rfl) (hd : (x == ("__debug__" : Str)) = false := by decide) (hcd : (x == ("__classdict__" : Str)) = false := by decide) :
    PSI c X (.Assign [.Attribute (.Name x px) f pa] e pos) (.setF k n te) := by
  refine ps_le (ps_fld (pe_var hN hv hd hcd) he hs) fun D σ H h => ?_
  subst hf
  obtain ⟨ρ, S, s, w, post0⟩ := h
  refine ⟨ρ, S, s, w, (PostS.bind post0).imp ?_⟩
  rintro y H1 ⟨ρ1, S1, s1, d1, a1, st1, r1, p1⟩
  split at p1
  · rename_i k' fs e0
    obtain ⟨hb, p2⟩ := PostS.bif p1
    rw [Bool.and_eq_true] at hb
    obtain rfl := eq_of_beq hb.1
    have hl := of_decide_eq_true hb.2
    obtain ⟨a, dx, fv, z1, z2, z3, z4, z5, z6⟩ := a1.wd.sl.ob 0 k' fs e0
    obtain ⟨hn, hna⟩ := c.E.fok k' n hfo
    refine ⟨.ref a, z1, a, _, dx, fv, rfl, z2, hK ▸ (c.E.cok k' z3.1).1, hK ▸ hna, ?_, ?_⟩
    · rw [z4.len]; omega
    · have hi : 0 < s1.l.length := (List.getElem?_eq_some_iff.mp e0).1
      have hfit : c.E.fits k' (putN n d1 fs) := ⟨z3.1, fun q hq => by
        have aux : ∀ {fs : List (Nat × Pi.D)}, q ∈ putN n d1 fs → q.1 = n ∨ q ∈ fs := by
          intro fs
          induction fs with
          | nil => intro h; cases List.mem_singleton.mp h; exact .inl rfl
          | cons t r ih =>
            obtain ⟨m, x⟩ := t
            intro h
            by_cases hm : m = n
            · subst hm
              have h' : q ∈ (m, d1) :: r := by
                have : putN m d1 ((m, x) :: r) = (m, d1) :: r := by show (bif m == m then _ else _) = _; rw [beq_self_eq_true]; rfl
                rw [this] at h; exact h
              rcases List.mem_cons.mp h' with rfl | h'
              · exact .inl rfl
              · exact .inr (List.mem_cons_of_mem _ h')
            · have h' : q ∈ (m, x) :: putN n d1 r := by
                have : putN n d1 ((m, x) :: r) = (m, x) :: putN n d1 r := by show (bif m == n then _ else _) = _; rw [show (m == n) = false by simpa using hm]; rfl
                rw [this] at h; exact h
              rcases List.mem_cons.mp h' with rfl | h'
              · exact .inr List.mem_cons_self
              · rcases ih h' with z | z
                · exact .inl z
                · exact .inr (List.mem_cons_of_mem _ z)
        rcases aux hq with z | z
        · rw [z]; exact hfo
        · exact z3.2 _ z⟩
      have rf := z4.put hn r1
      have ne : ∀ {j : Nat} {b : Addr}, 0 ≠ j → ((∃ ds, s1.l[j]? = some (.own ds)) ∨ ∃ c fs, s1.l[j]? = some (.ob c fs)) → σ[j]? = some (some (.ref b)) → b ≠ a := fun {j b} hj h2 h1 z => by
        subst z
        exact a1.wd.sl.dist 0 j b hj (.inr ⟨k', fs, e0⟩) h2 z1 h1
      have old : ∀ {m : Nat}, ((∃ ds', (s1.l.set 0 (.ob k' (putN n d1 fs)))[m]? = some (.own ds')) ∨ ∃ c fs', (s1.l.set 0 (.ob k' (putN n d1 fs)))[m]? = some (.ob c fs')) → ((∃ ds', s1.l[m]? = some (.own ds')) ∨ ∃ c fs, s1.l[m]? = some (.ob c fs)) := fun {m} h => by
        by_cases q : 0 = m
        · subst q; exact .inr ⟨k', fs, e0⟩
        · rw [List.getElem?_set_ne q] at h; exact h
      refine p2 ρ1 S1 _ σ ⟨Inc.refl _ _, fun _ z => .inl z, fun _ _ z => .inl z, fun b z => ?_, fun b u z _ no => ?_, fun b z => ?_, fun b z => ?_⟩ ⟨a1.wd.gr.at z5 z6, by simp [a1.wd.sl.len], fun j d e => ?_, fun j es e => ?_, fun j c' fs' e => ?_, fun i j b hij h1 h2 e => ?_⟩
      · obtain ⟨j, h1, h2⟩ := z
        exact .inl ⟨j, h1, old h2⟩
      · have nb : b ≠ a := fun z => no (z ▸ ⟨0, z1, .inr ⟨k', fs, e0⟩⟩)
        rw [upd_ne nb]
        exact z
      · by_cases y : b = a
        · subst y; rw [upd_same] at z; cases z
        · rw [upd_ne y] at z; exact z
      · obtain ⟨j, h1, c', fs', h2⟩ := z
        rcases own_get h2 with ⟨q, _, _⟩ | ⟨q, h2'⟩
        · subst q; exact ⟨0, h1, k', fs, e0⟩
        · exact ⟨j, h1, c', fs', h2'⟩
      · rcases own_get e with ⟨_, z, _⟩ | ⟨q, e'⟩
        · cases z
        · exact a1.wd.sl.v j d e'
      · rcases own_get e with ⟨_, z, _⟩ | ⟨q, e'⟩
        · cases z
        · obtain ⟨b, vs1, y1, y2, y3, y4, y5⟩ := a1.wd.sl.own j es e'
          exact ⟨b, vs1, y1, by rw [upd_ne (ne q (.inl ⟨_, e'⟩) y1)]; exact y2, y3, y4, y5⟩
      · rcases own_get e with ⟨q, z, _⟩ | ⟨q, e'⟩
        · cases z
          subst q
          exact ⟨a, dx, _, z1, upd_same, hfit, rf, z5, z6⟩
        · obtain ⟨b, dx', fv', y1, y2, yf, y3, y4, y5⟩ := a1.wd.sl.ob j c' fs' e'
          exact ⟨b, dx', fv', y1, by rw [upd_ne (ne q (.inr ⟨_, _, e'⟩) y1)]; exact y2, yf, y3, y4, y5⟩
      · exact a1.wd.sl.dist i j b hij (old h1) (old h2) e
  · exact p1.elim
end
section
variable {X : Cx} {E : En}
theorem bii_repr : CallR X (.builtin "repr") (rBi E .repr) := by
  intro pins s σ H xs us Q I r h
  obtain ⟨ρ, S, g, ds, z, w, ho, e, gv⟩ := h
  obtain ⟨v, d, rfl, ho, e⟩ := arg1_inv ho e
  obtain ⟨u, rfl, ru⟩ := vals1 r
  cases d with
  | int i =>
    obtain ⟨hb, rfl⟩ := bif_inv (show (bif decide (i.natAbs.log2 < 1920) then some (D.str (toString i)) else none) = some z from e)
    cases ho.int
    obtain ⟨t, rfl⟩ := ru
    exact P.repr_of_int (of_decide_eq_true hb) ⟨.str _, H, I.tok _, ⟨_, rfl⟩, gv.old _ (.str _)⟩
  | bl b =>
    cases e
    cases ho.bl
    cases ru
    exact P.repr_of_bool ⟨.str _, H, I.tok _, ⟨_, rfl⟩, gv.old _ (.str _)⟩
  | _ => cases (show (none : Option D) = some z from e)
end
end Pi
namespace Pi
open PySem L2

section
variable {E : En} {ρ : List Addr} {S H : Hp} {s : Pi.S} {σ : St}
theorem nodup_get {l : List Addr} (h : l.Nodup) {i j : Nat} {a : Addr} (h1 : l[i]? = some a) (h2 : l[j]? = some a) : i = j := by
  obtain ⟨q1, e1⟩ := List.getElem?_eq_some_iff.mp h1
  obtain ⟨q2, e2⟩ := List.getElem?_eq_some_iff.mp h2
  exact (List.getElem_inj h).mp (e1.trans e2.symm)
theorem Sl.noρ (w : Sl E ρ S H σ s.l) {a : Addr} (h : OwP σ s.l a) : a ∉ ρ ∧ S a = none := by
  obtain ⟨i, q1, q2⟩ := h
  rcases q2 with ⟨ds, q2⟩ | ⟨k, fs, q2⟩
  · obtain ⟨a', vs, z1, z2, z3, z4, z5⟩ := w.own i ds q2
    rw [q1] at z1; cases z1; exact ⟨z5, z4⟩
  · obtain ⟨a', dx, fv, z1, z2, zf, z3, z4, z5⟩ := w.ob i k fs q2
    rw [q1] at z1; cases z1; exact ⟨z5, z4⟩
/-- a list of the store has another content -/
theorem Wd.reset {n : Nat} {a : Addr} {vs : List V} {ds0 ds : List D} (w : Wd E ρ S s σ H) (hn : ρ[n]? = some a) (h0 : s.g[n]? = some (.lst ds0)) (r : Reps E S ρ vs ds) :
    Wd E ρ S ⟨s.l, s.g.set n (.lst ds)⟩ σ (upd H a (.lst vs)) ∧ Step ρ S (Ow σ s.l) H ρ S (Ow σ s.l) (upd H a (.lst vs)) := by
  have hm : a ∈ ρ := List.mem_iff_getElem?.mpr ⟨n, hn⟩
  have hS := w.gr.off a hm
  have hl : n < s.g.length := (List.getElem?_eq_some_iff.mp h0).1
  refine ⟨⟨⟨fun b o e => ?_, by simp [w.gr.len], w.gr.nd, w.gr.off, fun m b mo e1 e2 => ?_⟩, w.sl.keep (Inc.refl _ _) (fun b ow o e => ?_) (fun _ _ _ z => z) fun _ _ _ z => z⟩, Inc.refl _ _, fun _ z => .inl z, fun _ _ z => .inl z, fun _ z => .inl z, fun b o e nb _ => ?_, fun b z => ?_, fun _ z => z⟩
  · rw [upd_ne (show b ≠ a from fun z => by rw [z, hS] at e; cases e)]; exact w.gr.sub b o e
  · by_cases q : m = n
    · subst q
      rw [hn] at e1
      cases e1
      have e2' : (s.g.set m (.lst ds))[m]? = some mo := e2
      rw [List.getElem?_set_self hl] at e2'
      cases e2'
      exact ⟨vs, upd_same, r⟩
    · have e2' : (s.g.set n (.lst ds))[m]? = some mo := e2
      rw [List.getElem?_set_ne (Ne.symm q)] at e2'
      refine (w.gr.ob m b mo e1 e2').mono (Inc.refl _ _) fun o z => ?_
      rw [upd_ne (show b ≠ a from fun y => q (nodup_get w.gr.nd e1 (y ▸ hn)))]
      exact z
  · rw [upd_ne (show b ≠ a from fun z => (w.sl.noρ ow).1 (z ▸ hm))]; exact e
  · rw [upd_ne (show b ≠ a from fun z => nb (z ▸ hm))]; exact e
  · by_cases y : b = a
    · subst y; rw [upd_same] at z; cases z
    · rw [upd_ne y] at z; exact z
/-- a new list of the store -/
theorem Wd.grow {p : Addr} {vs : List V} {ds : List D} (w : Wd E ρ S s σ H) (hp : H p = none) (r : Reps E S ρ vs ds) :
    Wd E (ρ ++ [p]) S ⟨s.l, s.g ++ [.lst ds]⟩ σ (upd H p (.lst vs)) ∧ Step ρ S (Ow σ s.l) H (ρ ++ [p]) S (Ow σ s.l) (upd H p (.lst vs)) ∧ (ρ ++ [p])[s.g.length]? = some p := by
  obtain ⟨f1, f2⟩ := w.gr.fresh hp
  have inc : Inc S ρ S (ρ ++ [p]) := ⟨fun _ _ h => h, fun n a h => by
    rw [List.getElem?_append_left (List.getElem?_eq_some_iff.mp h).1]; exact h⟩
  have at_end : (ρ ++ [p])[s.g.length]? = some p := by rw [← w.gr.len]; simp
  refine ⟨⟨⟨fun b o e => ?_, by simp [w.gr.len], ?_, fun b hb => ?_, fun m b mo e1 e2 => ?_⟩, w.sl.keep inc (fun b _ o e => ?_) (fun _ _ _ z => z) fun b _ ne n z => ?_⟩, ⟨inc, fun b hb => ?_, fun _ _ z => .inl z, fun _ z => .inl z, fun b o e _ _ => ?_, fun b z => ?_, fun _ z => z⟩, at_end⟩
  · rw [upd_ne (show b ≠ p from fun z => by rw [z, f1] at e; cases e)]; exact w.gr.sub b o e
  · rw [List.nodup_append]
    refine ⟨w.gr.nd, by simp, fun b hb c hc => ?_⟩
    cases List.mem_singleton.mp hc
    exact fun z => f2 (z ▸ hb)
  · rcases List.mem_append.mp hb with z | z
    · exact w.gr.off b z
    · cases List.mem_singleton.mp z; exact f1
  · have e2' : (s.g ++ [MO.lst ds])[m]? = some mo := e2
    by_cases q : m < s.g.length
    · rw [List.getElem?_append_left q] at e2'
      rw [List.getElem?_append_left (by rw [w.gr.len]; exact q)] at e1
      refine (w.gr.ob m b mo e1 e2').mono inc fun o z => ?_
      rw [upd_ne (ne_of_none z hp)]
      exact z
    · have hm : m = s.g.length := by
        have := (List.getElem?_eq_some_iff.mp e2').1
        simp at this
        omega
      subst hm
      rw [at_end] at e1
      cases e1
      simp at e2'
      subst e2'
      exact ⟨vs, upd_same, r.mono inc⟩
  · rw [upd_ne (ne_of_none e hp)]; exact e
  · rcases List.mem_append.mp z with z | z
    · exact n z
    · cases List.mem_singleton.mp z; exact ne hp
  · rcases List.mem_append.mp hb with z | z
    · exact .inl z
    · cases List.mem_singleton.mp z; exact .inr hp
  · rw [upd_ne (ne_of_none e hp)]; exact e
  · by_cases y : b = p
    · subst y; exact hp
    · rw [upd_ne y] at z; exact z
end
section
variable {c : Cn} {X : Cx} {e a b i : Expr} {te ta ti : T} {es : List Expr} {pos : Pos}
theorem pi_mkr (h : PAI c X es ta) : PEI c X (.List es pos) (.mkr ta) :=
  pe_le (pe_lst h) fun σ H Q h => by
    obtain ⟨ρ, S, s, w, p⟩ := h
    refine ⟨ρ, S, s, w, (Post.bindA p).imp ?_⟩
    rintro x H1 ⟨ρ1, S1, s1, d1, a1, r1, p1⟩
    obtain ⟨hb, p2⟩ := Post.bif p1
    refine ⟨by rw [r1.len]; exact le_line (of_decide_eq_true hb), fun q hq => ?_⟩
    obtain ⟨w2, st2, e2⟩ := a1.wd.grow hq r1
    exact p2 _ _ S1 _ st2 w2 (.ref e2)
theorem pi_revr {k : Nat} {p1 p2 p3 : Pos} (hK : X.K = c.E.K) (he : PEI c X e ta) : PEI c X (.Subscript e (.Slice none none (some (.UnaryOp .USub (.Constant (.int 1) k p1) p2)) p3) pos) (.revr ta) :=
  pe_le (pe_revL he) fun σ H Q h => by
    obtain ⟨ρ, S, s, w, p⟩ := h
    refine ⟨ρ, S, s, w, (Post.bind p).imp ?_⟩
    rintro x H1 ⟨ρ1, S1, s1, d1, a1, r1, p1⟩
    have ov := Opd.view (s := s1) a1.wd.gr r1
    split at p1
    · rename_i ds hv
      rw [hv] at ov
      obtain ⟨q, vs, rfl, sq, rr⟩ := ov.lst (s := s1) a1.wd.gr
      refine ⟨q, vs, rfl, hK ▸ sq, fun l hl => ?_⟩
      obtain ⟨w2, st2, e2⟩ := a1.wd.grow hl rr.reverse
      exact p1 _ _ S1 _ st2 w2 (.ref e2)
    · exact p1.elim
theorem pi_rev {k : Nat} {p1 p2 p3 : Pos} (hK : X.K = c.E.K) (he : PEI c X e ta) : PEI c X (.Subscript e (.Slice none none (some (.UnaryOp .USub (.Constant (.int 1) k p1) p2)) p3) pos) (.rev ta) :=
  pe_le (pe_revL he) fun σ H Q h => by
    obtain ⟨ρ, S, s, w, p⟩ := h
    refine ⟨ρ, S, s, w, (Post.bind p).imp ?_⟩
    rintro x H1 ⟨ρ1, S1, s1, d1, a1, r1, p1⟩
    have ov := Opd.view (s := s1) a1.wd.gr r1
    obtain ⟨z, e, p2⟩ := Post.of p1
    cases hv : view s1.g d1 with
    | lst ds =>
      rw [hv] at ov e
      cases e
      obtain ⟨q, vs, rfl, sq, rr⟩ := ov.lst (s := s1) a1.wd.gr
      exact ⟨q, vs, rfl, hK ▸ sq, fun l hl => (Post.give a1.wd p2).lst l _ _ rfl rr.reverse hl⟩
    | _ => rw [hv] at e; cases (show (none : Option D) = some z from e)
end
end Pi
namespace Pi
open PySem L2

section
variable {c : Cn} {X : Cx} {e a b i : Expr} {te ta ti tc : T} {t : Pi.TS} {es : List Expr} {body : List Stmt} {pos ap cp : Pos}
/-- a list of the store, held -/
theorem ref_of {E : En} {S H : Hp} {ρ : List Addr} {g : List MO} {x : V} {n : Nat} {ds : List D} (w : Gr E ρ S g H) (r : Rep E S ρ x (.ref n)) (h : g[n]? = some (.lst ds)) : ∃ q vs, x = .ref q ∧ ρ[n]? = some q ∧ H q = some (.lst vs) ∧ Reps E S ρ vs ds := by
  cases r with
  | ref hn =>
    obtain ⟨vs, h1, h2⟩ := w.ob n _ _ hn h
    exact ⟨_, vs, rfl, hn, h1, h2⟩
/-- x.pop() -/
theorem pi_popr (he : PEI c X e ta) (hbase : attributeBase e "pop" X.env (eval e X.env) = eval e X.env := by rfl) (hline : (ap.endLine == cp.line) = true := by rfl) : PEI c X (.Call (.Attribute e "pop" ap) [] [] cp) (.popr ta) :=
  pe_le (pe_bm0 PySem.F.plainAttrs_list PySem.F.slot_list_pop PySem.F.type_list_pop mt_pop he hbase hline) fun σ H Q h => by
    obtain ⟨ρ, S, s, w, p⟩ := h
    refine ⟨ρ, S, s, w, (Post.bind p).imp ?_⟩
    rintro x H1 ⟨ρ1, S1, s1, d1, a1, r1, p1⟩
    split at p1
    · rename_i n
      split at p1
      · rename_i ds hg
        split at p1
        · rename_i d hd
          obtain ⟨q, vs, rfl, hn, h1, h2⟩ := ref_of a1.wd.gr r1 hg
          have hl := h2.len
          have hd' : ds[ds.length - 1]? = some d := by rw [← List.getLast?_eq_getElem?]; exact hd
          obtain ⟨y, hy, ry⟩ := h2.get hd'
          obtain ⟨w2, st2⟩ := a1.wd.reset (vs := vs.dropLast) (ds := ds.dropLast) hn hg (by
            rw [List.dropLast_eq_take, List.dropLast_eq_take, hl]
            exact h2.take _)
          exact ⟨.inl ⟨rfl, vs, SqL.of h1⟩, q, vs, y, rfl, rfl, h1, by rw [hl]; exact hy, p1 y ρ1 S1 _ st2 w2 ry⟩
        · exact p1.elim
      · exact p1.elim
    · exact p1.elim
/-- o.append(e) -/
theorem psi_appr (ha : PEI c X a ta) (he : PEI c X e te) (hbase : attributeBase a "append" X.env (eval a X.env) = eval a X.env := by rfl)
    (hfew : ((backTo cp (starEach [e] X.env)).all (fun x => !x.1) && (backToKw cp (keywordEach [] X.env)).all (fun x => x.1.isSome) && decide ([e].length + ([] : List Keyword).length + (if ([] : List Keyword).isEmpty then 0 else 1) < 30)) = true := by rfl)
    (hline : (ap.endLine == cp.line) = true := by rfl) (hs : starEach [e] X.env = (false, eval e X.env) :: starEach [] X.env := by rfl) (hplain : (backTo cp (starEach [] X.env)).any (·.1) = false := by rfl)
    (hsw : swapsWith (.Call (.Attribute a "append" ap) [e] [] cp) none pos.line X.env = pure false := by rfl) : PSI c X (.Expr (.Call (.Attribute a "append" ap) [e] [] cp) pos) (.appr ta te) :=
  ps_le (ps_expr (pe_bm PySem.F.plainAttrs_list PySem.F.slot_list_append PySem.F.type_list_append mt_append ha (pa_cons he pa_nil hs) hbase hfew hline hs hplain) hsw) fun D σ H h => by
    obtain ⟨ρ, S, s, w, p⟩ := h
    refine ⟨ρ, S, s, w, (PostS.bind p).imp ?_⟩
    rintro x H1 ⟨ρ1, S1, s1, d1, a1, _, r1, p1⟩
    split at p1
    · rename_i n
      split at p1
      · rename_i ds0 hg
        obtain ⟨q, vs, rfl, hn, h1, h2⟩ := ref_of a1.wd.gr r1 hg
        refine ⟨.inl ⟨rfl, vs, SqL.of h1⟩, ρ1, S1, s1, a1.wd, (PostS.bind p1).imp ?_⟩
        rintro y H2 ⟨ρ2, S2, s2, d2, a2, _, r2, p2⟩
        split at p2
        · rename_i ds hg2
          obtain ⟨hb, p3⟩ := PostS.bif p2
          obtain ⟨q', vs', e1, hn', h1', h2'⟩ := ref_of a2.wd.gr (r1.mono a2.inc) hg2
          cases e1
          obtain ⟨w2, st2⟩ := a2.wd.reset hn' hg2 (h2'.append (.cons r2 .nil))
          exact ⟨q, vs', y, rfl, rfl, h1', by rw [h2'.len]; exact lt_line (of_decide_eq_true hb), p3 ρ2 S2 _ σ st2 w2⟩
        · exact p2.elim
      · exact p1.elim
    · exact p1.elim
theorem Reps.set {E : En} {S : Hp} {ρ : List Addr} {y : V} {d : Pi.D} (r : Rep E S ρ y d) : ∀ {vs : List V} {ds : List Pi.D} (n : Nat), Reps E S ρ vs ds → Reps E S ρ (vs.set n y) (ds.set n d)
  | _, _, _, .nil => .nil
  | _, _, 0, .cons _ t => .cons r t
  | _, _, n + 1, .cons h t => .cons h (Reps.set r n t)
/-- o[i] = e -/
theorem psi_setr (he : PEI c X e te) (ha : PEI c X a ta) (hi : PEI c X i ti)
    (h0 : ∀ v, assign (.Subscript a i ap) X.env v = (do
      let ov ← holding [v] (eval a X.env)
      let iv ← holding [v, ov] (eval i X.env)
      standAt ap
      holding [v, ov, iv] (setItem ov iv v)
      release [v, ov, iv] []) := by intro _; rfl)
    (hs : swapsWithSole [.Subscript a i ap] e pos.line X.env = pure false := by rfl) (hw : swappedStores [.Subscript a i ap] e X.env = pure none := by rfl)
    (h1 : (assignEach [.Subscript a i ap] X.env).map (·.2) = [assign (.Subscript a i ap) X.env] := by rfl) : PSI c X (.Assign [.Subscript a i ap] e pos) (.setr ta ti te) :=
  ps_le (ps_asg he (pg_sub ha hi set_list h0) hs hw h1) fun D σ H h => by
    obtain ⟨ρ, S, s, w, p⟩ := h
    refine ⟨ρ, S, s, w, (PostS.bind p).imp ?_⟩
    rintro x H1 ⟨ρ1, S1, s1, d1, a1, _, r1, p1⟩
    refine ⟨ρ1, S1, s1, a1.wd, (PostS.bind p1).imp ?_⟩
    rintro y H2 ⟨ρ2, S2, s2, d2, a2, _, r2, p2⟩
    refine ⟨ρ2, S2, s2, a2.wd, (PostS.bind p2).imp ?_⟩
    rintro z H3 ⟨ρ3, S3, s3, d3, a3, _, r3, p3⟩
    split at p3
    · rename_i n k
      split at p3
      · rename_i ds hg
        split at p3
        · rename_i j hj
          cases r3
          obtain ⟨q, vs, rfl, hn, h1, h2⟩ := ref_of a3.wd.gr (r2.mono a3.inc) hg
          obtain ⟨w2, st2⟩ := a3.wd.reset (vs := vs.set j x) (ds := ds.set j d1) hn hg (Reps.set (r1.mono (a2.inc.trans a3.inc)) j h2)
          exact ⟨q, vs, k, j, rfl, rfl, h1, by rw [h2.len]; exact hj, p3 ρ3 S3 _ σ st2 w2⟩
        · exact p3.elim
      · exact p3.elim
    · exact p3.elim
/-- while, at most so many turns -/
theorem psi_while {n : Nat} (hp : PassesOwn (model X.prog X.w) X.A X.env X.xe) (hc : PTI c X e tc) (hb : PSsI c X body t) : PSI c X (.While e body [] pos) (.whl n tc t) :=
  ps_le (ps_while hp hc hb) fun D σ H h => by
    obtain ⟨ρ, S, s, w, p⟩ := h
    obtain ⟨Tt, hT⟩ : ∃ Tt, loopW (evS c.o t) (ev c.o tc) n s = Tt := ⟨_, rfl⟩
    have p0 : PostS c.E c.W σ ρ S s.l H Tt D := by rw [← hT]; exact p
    refine ⟨fun m σ' H' => ∃ ρ' S' s', Step ρ S (Ow σ s.l) H ρ' S' (Ow σ' s'.l) H' ∧ Wd c.E ρ' S' s' σ' H' ∧ loopW (evS c.o t) (ev c.o tc) m s' = Tt, ⟨n, ρ, S, s, Step.refl, w, hT⟩, ?_⟩
    rintro m σ1 H1 ⟨ρ1, S1, s1, st1, w1, e1⟩
    cases m with
    | zero =>
      have p1 : PostS c.E c.W σ ρ S s.l H .no D := by
        have : loopW (evS c.o t) (ev c.o tc) 0 s1 = .no := rfl
        rw [← this, e1]
        exact p0
      exact p1.elim
    | succ m =>
      have p1 : PostS c.E c.W σ1 ρ1 S1 s1.l H1 Tt D := PostS.step (l1 := s1.l) st1 p0
      refine ⟨ρ1, S1, s1, w1, ?_⟩
      have e2 : (ev c.o tc s1).bind (testW (evS c.o t) (loopW (evS c.o t) (ev c.o tc) m)) = Tt := e1
      cases q : ev c.o tc s1 with
      | ex k fs s2 =>
        rw [q] at e2
        have : Tt = .ex k fs s2 := e2.symm
        rw [this] at p1
        exact fun ρ4 S4 H4 x fv st4 => p1 ρ4 S4 H4 σ1 x fv st4
      | no =>
        rw [q] at e2
        have : Tt = .no := e2.symm
        rw [this] at p1; exact p1
      | ok d s2 =>
        rw [q] at e2
        intro v ρ2 S2 H2 st2 w2 r2
        have e3 : testW (evS c.o t) (loopW (evS c.o t) (ev c.o tc) m) d s2 = Tt := e2
        have st02 : Step ρ S (Ow σ s.l) H ρ2 S2 (Ow σ1 s2.l) H2 := st1.trans st2
        have pT : PostS c.E c.W σ1 ρ2 S2 s2.l H2 Tt D := PostS.step (l1 := s2.l) st2 p1
        cases d with
        | bl k =>
          refine ⟨k, bl_of r2, ?_⟩
          cases k with
          | false =>
            rw [if_neg Bool.false_ne_true]
            have : Tt = .ok .nx s2 := e3.symm
            rw [this] at pT
            exact PostS.here w2 pT
          | true =>
            rw [if_pos rfl]
            refine ⟨fun σ' H' => ∃ ρ' S' s', Step ρ S (Ow σ s.l) H ρ' S' (Ow σ' s'.l) H' ∧ Wd c.E ρ' S' s' σ' H' ∧ loopW (evS c.o t) (ev c.o tc) m s' = Tt, fun σ' H' z => ⟨m, Nat.lt_succ_self m, z⟩, ρ2, S2, s2, w2, ?_⟩
            have e4 : contW (loopW (evS c.o t) (ev c.o tc) m) (evS c.o t s2) = Tt := e3
            cases hq : evS c.o t s2 with
            | ok fl s4 =>
              rw [hq] at e4
              intro ρ4 S4 H4 σ4 st4 w4
              cases fl with
              | nx => exact ⟨ρ4, S4, s4, st02.trans st4, w4, e4⟩
              | ct => exact ⟨ρ4, S4, s4, st02.trans st4, w4, e4⟩
              | bk =>
                have : Tt = .ok .nx s4 := e4.symm
                rw [this] at pT
                exact pT ρ4 S4 H4 σ4 st4 w4
              | rt d =>
                have : Tt = .ok (.rt d) s4 := e4.symm
                rw [this] at pT
                exact pT ρ4 S4 H4 σ4 st4 w4
            | ex k fs s4 =>
              rw [hq] at e4
              have : Tt = .ex k fs s4 := e4.symm
              rw [this] at pT
              exact fun ρ4 S4 H4 σ4 x fv st4 => pT ρ4 S4 H4 σ4 x fv st4
            | no =>
              rw [hq] at e4
              have : Tt = .no := e4.symm
              rw [this] at pT
              exact pT.elim
        | _ =>
          have : Tt = .no := e3.symm
          rw [this] at pT
          exact pT.elim
/-- a, b = x, y -/
theorem psi_par {i j : Nat} {x y : Str} {a b : Expr} {px py pt : Pos} {kt k2 pt2} (hc : X.calm = true) (hN : X.N.Nodup) (hi : X.N[i]? = some x) (hj : X.N[j]? = some y) (hij : i ≠ j)
    (hx : X.env.scope.names.lookup x = some .local) (hy : X.env.scope.names.lookup y = some .local) (ha : PAI c X [a, b] ta)
    (hw : swappedStores [.Tuple [.Name x px, .Name y py] kt pt] (.Tuple [a, b] k2 pt2) X.env = pure (some [x, y])) (hs : swapsWithSole [.Tuple [.Name x px, .Name y py] kt pt] (.Tuple [a, b] k2 pt2) pos.line X.env = pure false := by rfl) :
    PSI c X (.Assign [.Tuple [.Name x px, .Name y py] kt pt] (.Tuple [a, b] k2 pt2) pos) (.par [i, j] ta) :=
  ps_le (ps_par hc hN hi hj hij hx hy ha hw hs) fun D σ H h => by
    obtain ⟨ρ, S, s, w, p⟩ := h
    refine ⟨ρ, S, s, w, (PostS.bindA p).imp ?_⟩
    rintro vs H1 ⟨ρ1, S1, s1, ds, e1, a1, st1, r1, p1⟩
    cases r1 with
    | nil => exact p1.elim
    | cons q1 r1 =>
      cases r1 with
      | nil => exact p1.elim
      | cons q2 r1 =>
        cases r1 with
        | nil => 
          refine ⟨_, _, rfl, ?_⟩
          have w1 := a1.wd
          have w2 : Wd c.E ρ1 S1 ⟨s1.l.set i (.v _), s1.g⟩ (σ.set i (some _)) H1 := ⟨w1.gr, w1.sl.set q1⟩
          have w3 : Wd c.E ρ1 S1 ⟨(s1.l.set i (.v _)).set j (.v _), s1.g⟩ ((σ.set i (some _)).set j (some _)) H1 := ⟨w2.gr, w2.sl.set q2⟩
          exact p1 ρ1 S1 H1 _ (Step.refl.ow fun a => ⟨fun z => Ow_set w1.sl.len (Ow_set w2.sl.len z), fun z => Ob_set w1.sl.len (Ob_set w2.sl.len z)⟩) w3
        | cons q3 r1 => exact p1.elim
end
end Pi
namespace Pi
open PySem L2

section
variable {c : Cn} {X : Cx} {e tg a b i : Expr} {te ta ti tc : T} {t : Pi.TS} {es : List Expr} {rest body : List Stmt} {pos ap cp : Pos} {st : Stmt}
/-! ### what is never reached -/
theorem pi_stuck : PEI c X e .nil := ⟨fun pins s σ H Q I h => by
  obtain ⟨ρ, S, s, w, p⟩ := h
  exact (show False from p).elim⟩
theorem psi_stuck : PSI c X st (.ex .nil) := ⟨fun pins s σ H D I h => by
  obtain ⟨ρ, S, s, w, p⟩ := h
  exact (show False from p).elim⟩
theorem pssi_stuck : PSsI c X body (.ex .nil) := ⟨fun pins s σ H D I h => by
  obtain ⟨ρ, S, s, w, p⟩ := h
  exact (show False from p).elim⟩

/-! ### texts, sign by sign -/
theorem dl_str {x : Str} {S : Hp} : Dl (Its x) (x.cps.toList.map fun c => V.str ⟨#[c]⟩) S := fun H k i => by
  refine ⟨fun y e => ?_, fun e => ?_⟩
  · rw [List.getElem?_map] at e
    cases h : x.cps.toList[i]? with
    | none => rw [h] at e; cases e
    | some c =>
      rw [h] at e
      cases e
      have hi : i < x.cps.size := by
        have := (List.getElem?_eq_some_iff.mp h).1
        simpa using this
      refine ⟨hi, fun y H3 z => ⟨z.1, ?_⟩⟩
      obtain ⟨_, c', h1, h2⟩ := z
      rw [h2]
      have : x.cps[i]? = some c := by rw [← h]; simp
      rw [this] at h1
      cases h1
      rfl
  · show x.cps.size ≤ i
    have := List.getElem?_eq_none_iff.mp e
    simpa using this
theorem reps_str {E : En} {S : Hp} {ρ : List Addr} : ∀ cs : List Nat, Reps E S ρ (cs.map fun c => V.str ⟨#[c]⟩) (cs.map fun c => D.str ⟨#[c]⟩)
  | [] => .nil
  | k :: ks => .cons (.str _) (reps_str ks)
theorem pii_its (he : PEI c X e ta) : PII c X tg e (.its ta) := by
  refine pI_le (L2.pi_str he) fun σ H Q h => ?_
  obtain ⟨ρ, S, s, w, p⟩ := h
  refine ⟨ρ, S, s, w, (PostI.bind p).imp ?_⟩
  rintro x H1 ⟨ρ1, S1, s1, d1, a1, r1, p1⟩
  cases r1 with
  | str z => exact ⟨z, rfl, PostI.here a1.wd (reps_str _) dl_str p1⟩
  | tup _ _ => exact (show False from p1).elim
  | lst _ _ => exact (show False from p1).elim
  | non => exact (show False from p1).elim
  | bl _ => exact (show False from p1).elim
  | int _ => exact (show False from p1).elim
  | ins _ _ _ => exact (show False from p1).elim
  | ref _ => exact (show False from p1).elim
theorem inSV_inv : ∀ {a b z : D}, inSV a b = some z → ∃ k y, a = .str ⟨#[k]⟩ ∧ b = .str y ∧ z = .bl (decide (k ∈ y.cps.toList))
  | .str ⟨⟨[k]⟩⟩, .str y, z, h => by cases h; exact ⟨k, y, rfl, rfl, rfl⟩
  | .str ⟨⟨[]⟩⟩, .str y, z, h => by cases h
  | .str ⟨⟨_ :: _ :: _⟩⟩, .str y, z, h => by cases h
  | .str x, .non, z, h => by cases h
  | .str x, .bl _, z, h => by cases h
  | .str x, .int _, z, h => by cases h
  | .str x, .tup _, z, h => by cases h
  | .str x, .lst _, z, h => by cases h
  | .str x, .ins _ _, z, h => by cases h
  | .str x, .ref _, z, h => by cases h
  | .non, _, z, h => by cases h
  | .bl _, _, z, h => by cases h
  | .int _, _, z, h => by cases h
  | .tup _, _, z, h => by cases h
  | .lst _, _, z, h => by cases h
  | .ins _ _, _, z, h => by cases h
  | .ref _, _, z, h => by cases h
theorem opi_inS {E : En} : OpR X (compareOp .In) (rOp E .inS) := fun pins s σ H x y v u Q I rx ry h => by
  refine op_inS pins s σ H x y v u Q I rx ry ?_
  obtain ⟨ρ, S, g, d1, d2, z, w, o1, o2, e, q⟩ := h
  obtain ⟨k, y', rfl, rfl, rfl⟩ := inSV_inv (show inSV d1 d2 = some z from e)
  exact ⟨k, y', o1.str, o2.str, q.old _ (.bl _)⟩
/-- x.extend([..]) -/
theorem psi_ext {j : Nat} {x : Str} {p' ap cp lp : Pos} (he : PAI c X es te) (hN : X.N[j]? = some x := by rfl) (hv : Vis X.env.scope x := by first | exact Or.inl rfl | exact Or.inr (Or.inl rfl) | exact Or.inr (Or.inr rfl))
    (hbase : attributeBase (.Name x p') "extend" X.env (eval (.Name x p') X.env) = eval (.Name x p') X.env := by rfl)
    (hfew : ((backTo cp (starEach [.List es lp] X.env)).all (fun x => !x.1) && (backToKw cp (keywordEach [] X.env)).all (fun x => x.1.isSome) && decide ([Expr.List es lp].length + ([] : List Keyword).length + (if ([] : List Keyword).isEmpty then 0 else 1) < 30)) = true := by rfl)
    (hline : (ap.endLine == cp.line) = true := by rfl) (hs : starEach [.List es lp] X.env = (false, eval (.List es lp) X.env) :: starEach [] X.env := by rfl) (hplain : (backTo cp (starEach [] X.env)).any (·.1) = false := by rfl)
    (hd : (x == ("__debug__" : Str)) = false := by decide) (hcd : (x == ("__classdict__" : Str)) = false := by decide)
    (hsw : swapsWith (.Call (.Attribute (.Name x p') "extend" ap) [.List es lp] [] cp) none pos.line X.env = pure false := by rfl) : PSI c X (.Expr (.Call (.Attribute (.Name x p') "extend" ap) [.List es lp] [] cp) pos) (.ext j te) := by
  refine ps_le (ps_expr (pe_bm PySem.F.plainAttrs_list PySem.F.slot_list_extend PySem.F.type_list_extend mt_extend (pe_var hN hv hd hcd) (pa_cons (pe_lst he) pa_nil hs) hbase hfew hline hs hplain) hsw) fun D σ H h => ?_
  obtain ⟨ρ, S, s, w, p⟩ := h
  obtain ⟨ho, p⟩ := PostS.bif (show PostS c.E c.W σ ρ S s.l H (bif isOwn s.l j then _ else .no) D from p)
  obtain ⟨ds0, h0⟩ := isOwn_inv ho
  obtain ⟨q, vs0, q1, q2, q3, q4, q5⟩ := w.sl.own j ds0 h0
  refine ⟨.ref q, q1, .inl ⟨rfl, vs0, SqL.of q2⟩, ρ, S, s, w, (PostS.bindA p).imp ?_⟩
  rintro ys H1 ⟨ρ1, S1, s1, xs, e1, a1, st1, r1, p1⟩
  split at p1
  · rename_i ds h1
    obtain ⟨hb, p2⟩ := PostS.bif p1
    have hb := of_decide_eq_true hb
    refine ⟨le_line (by rw [r1.len]; omega), fun b hb2 => ?_⟩
    have w2 := a1.wd.new (o := .lst ys) hb2
    have s2 := Step.new (B := Ow σ s1.l) a1.wd.gr (o := .lst ys) hb2
    have i2 := Inc.new (ρ := ρ1) (o := .lst ys) (a1.wd.gr.fresh hb2).1
    obtain ⟨q', vs, z1, z2, z3, z4, z5⟩ := w2.sl.own j ds h1
    rw [q1] at z1
    cases z1
    obtain ⟨w3, st3⟩ := w2.regrow h1 q1 (z3.append (r1.mono i2))
    refine ⟨q, b, vs, ys, rfl, rfl, z2, upd_same, ?_, p2 ρ1 _ _ σ (s2.trans st3) w3⟩
    rw [z3.len, r1.len]
    exact le_line hb
  · exact p1.elim
end
end Pi
namespace Pi
open PySem PySem.Spec L2

/-! ### defs and what is known of them -/
/-- a def of the text -/
structure Def (K : PySem.W.Frag) (f : Addr) (x qual : Str) (st : Stmt) (ps : List Str) (dvs : List V) : Prop where
  ex : ∃ fd, FunD K x qual (defArgs st) (defBody st) (defScope st) dvs [] f fd ∧ ∀ j, j ≤ dvs.length → ∃ ds, Vals (dvs.drop j) ds ∧ Binds K fd ps ds
/-- a def that means m -/
structure Good (P : Program) (w : World) (K : PySem.W.Frag) (mg : Str → Option Value) (base : Heap) (E : En) (k : Nat) (f : Addr) (ps : List Str) (dvs : List V) (n : Nat) (m : List D → List MO → Pi.C) : Prop where
  ex : ∃ fd, FnOk P w K mg base (L2.CX P w) k f fd ps (spI E n m) ∧ ∀ j, j ≤ dvs.length → ∃ ds, Vals (dvs.drop j) ds ∧ Binds K fd ps ds
/-- an __init__ that means m -/
structure GoodN (P : Program) (w : World) (K : PySem.W.Frag) (mg : Str → Option Value) (base : Heap) (E : En) (k : Nat) (f : Addr) (ps : List Str) (dvs : List V) (n c : Nat) (m : List D → List MO → Pi.CI) : Prop where
  ex : ∃ fd, FnOk P w K mg base (L2.CX P w) k f fd ps (spN E n c m) ∧ ∀ j, j ≤ dvs.length → ∃ ds, Vals (dvs.drop j) ds ∧ Binds K fd ps ds
section
variable {P : Program} {w : World} {K : PySem.W.Frag} {mg : Str → Option Value} {base : Heap} {E : En} {k : Nat} {f : Addr} {N ps : List Str} {dvs : List V} {n c : Nat} {x qual : Str} {st : Stmt} {o : O} {t : Pi.TS}
theorem Def.good (d : Def K f x qual st ps dvs) (Sc : FnScope N ps (defScope st)) (hN : ps.length ≤ N.length)
    (hb : ∀ (cdv : Value) (A : Around) (outer : List Env) (s : Shared) (H : Hp) (Z : XK), Room k (A.deeper (PyProof.Rows.envOfC qual (defScope st) s.heap.objs.size f cdv)) →
      PSsI ⟨E, o, WZ Z⟩ (cxOf (L2.CX P w) P w K mg base N qual (defScope st) f cdv A outer s H Z) (defBody st) t) :
    Good P w K mg base E (k + 1) f ps dvs ps.length (runD o N.length t) := by
  obtain ⟨fd, h1, h2⟩ := d.ex
  exact ⟨fd, fnI h1 Sc hN hb, h2⟩
theorem Def.goodN (d : Def K f x qual st ps dvs) (Sc : FnScope N ps (defScope st)) (hps : ps.length = n + 1) (hN : ps.length ≤ N.length) (hco : E.co c = true)
    (hb : ∀ (cdv : Value) (A : Around) (outer : List Env) (s : Shared) (H : Hp) (Z : XK), Room k (A.deeper (PyProof.Rows.envOfC qual (defScope st) s.heap.objs.size f cdv)) →
      PSsI ⟨E, o, WZ Z⟩ (cxOf (L2.CX P w) P w K mg base N qual (defScope st) f cdv A outer s H Z) (defBody st) t) :
    GoodN P w K mg base E (k + 1) f ps dvs n c (runN o N.length c t) := by
  obtain ⟨fd, h1, h2⟩ := d.ex
  exact ⟨fd, initI h1 Sc hps hN hco hb, h2⟩
/-- a def that is never called -/
theorem Def.never (d : Def K f x qual st ps dvs) (Sc : FnScope N ps (defScope st)) (m : List D → List MO → Pi.C) (hm : ∀ ds g, m ds g = .no) : Good P w K mg base E (k + 1) f ps dvs n m := by
  obtain ⟨fd, h1, h2⟩ := d.ex
  have no : ∀ vs H Q Z, ¬ spI E n m vs H Q Z := fun vs H Q Z h => by
    obtain ⟨_, ρ, S, g, ds, _, _, p⟩ := h
    rw [hm] at p
    exact p
  exact ⟨fd, h1.ok Sc (fun vs H Q Z h => (no vs H Q Z h).elim) fun cdv A outer s H vs Q Z hr h => (no vs H Q Z h).elim, h2⟩
theorem Good.mono {j : Nat} {m : List D → List MO → Pi.C} (G : Good P w K mg base E j f ps dvs n m) (h : j ≤ k) : Good P w K mg base E k f ps dvs n m := by
  obtain ⟨fd, h1, h2⟩ := G.ex
  exact ⟨fd, h1.mono h, h2⟩
theorem Good.as {m m' : List D → List MO → Pi.C} (G : Good P w K mg base E k f ps dvs n m) (h : ∀ ds g, ds.length = n → m' ds g ≠ .no → m ds g = m' ds g) : Good P w K mg base E k f ps dvs n m' := by
  obtain ⟨fd, h1, h2⟩ := G.ex
  exact ⟨fd, fnI_as h1 h, h2⟩
theorem GoodN.as {m m' : List D → List MO → Pi.CI} (G : GoodN P w K mg base E k f ps dvs n c m) (h : ∀ ds g, ds.length = n → m' ds g ≠ .no → m ds g = m' ds g) : GoodN P w K mg base E k f ps dvs n c m' := by
  obtain ⟨fd, h1, h2⟩ := G.ex
  exact ⟨fd, initI_as h1 h, h2⟩
end
/-- the words of what a def is called with -/
inductive Dfl : List V → List D → Prop
  | nil : Dfl [] []
  | bl (b : Bool) {vs ds} : Dfl vs ds → Dfl (.bl b :: vs) (.bl b :: ds)
  | int (i : Int) {vs ds} : Dfl vs ds → Dfl (.int i :: vs) (.int i :: ds)
  | str (x : Str) {vs ds} : Dfl vs ds → Dfl (.str x :: vs) (.str x :: ds)
  | non {vs ds} : Dfl vs ds → Dfl (.non :: vs) (.non :: ds)
theorem Dfl.reps {E : En} {S : Hp} {ρ : List Addr} {vs : List V} {ds : List D} (h : Dfl vs ds) : Reps E S ρ vs ds := by
  induction h with
  | nil => exact .nil
  | bl b _ ih => exact .cons (.bl b) ih
  | int b _ ih => exact .cons (.int b) ih
  | str b _ ih => exact .cons (.str b) ih
  | non _ ih => exact .cons .non ih
section
variable {c : Cn} {X : Cx} {x : Str} {f : Addr} {ps : List Str} {dvs : List V} {n k i j : Nat} {df : List D}
theorem Good.callee (G : Good X.prog X.w X.K X.mg X.base c.E k f ps dvs n (c.o.call i)) (hr : Room k X.A) (hm : X.mg x = some (.ref f)) (hk : PySem.W.keepIn X.K (.ref f) = true) (j : Nat) (hj : j ≤ dvs.length) (hd : Dfl (dvs.drop j) df) : Callee c X x i n df := by
  obtain ⟨fd, h1, h2⟩ := G.ex
  obtain ⟨ds, h3, h4⟩ := h2 j hj
  exact ⟨k, f, fd, ps, _, ds, h1, hr, hm, hk, h4, h3, fun S ρ => hd.reps⟩
theorem GoodN.maker {q : Nat} (G : GoodN X.prog X.w X.K X.mg X.base c.E k f ps dvs n q (c.o.init q)) (hr : Room (k + 1) X.A) (hc : c.E.co q = true) (M : Mk X.K (c.E.cl q) f) (hm : X.mg x = some (.ref (c.E.cl q))) (j : Nat) (hj : j ≤ dvs.length) (hd : Dfl (dvs.drop j) df) : Maker c X x q n df := by
  obtain ⟨fd, h1, h2⟩ := G.ex
  obtain ⟨ds, h3, h4⟩ := h2 j hj
  exact ⟨hc, k, f, fd, ps, _, ds, M, h1, hr, hm, h4, h3, fun S ρ => hd.reps⟩
/-- an own method that an operator calls -/
structure Slot (K : PySem.W.Frag) (C : Addr) (m : Str) (f : Addr) : Prop where
  find : PySem.W.findIn K (.ref C) m = some (some (.ref f))
  ty : PySem.W.typeIn K (.ref f) = some (.type "function")
theorem Good.slot {C : Addr} {m : Str} (G : Good X.prog X.w X.K X.mg X.base c.E k f ps [] n (c.o.call i)) (hr : Room k X.A) (M : Slot X.K C m f) :
    ∃ (j : Nat) (a : Addr) (fd : FuncData) (ps : List Str), FnOk X.prog X.w X.K X.mg X.base (L2.CX X.prog X.w) j a fd ps (spI c.E n (c.o.call i)) ∧ Room j X.A ∧
    PySem.W.findIn X.K (.ref C) m = some (some (.ref a)) ∧ PySem.W.typeIn X.K (.ref a) = some (.type "function") ∧ Binds X.K fd ps [] := by
  obtain ⟨fd, h1, h2⟩ := G.ex
  obtain ⟨ds, h3, h4⟩ := h2 0 (Nat.le_refl _)
  cases h3
  exact ⟨k, f, fd, ps, h1, hr, M.find, M.ty, h4⟩
end
end Pi
namespace Pi
open PySem PySem.Spec L2
/-- an own class -/
structure ClsF (K : PySem.W.Frag) (C : Addr) : Prop where
  cls : Cls K C
  gc : PySem.W.findIn K (.ref C) "__class__" = some (some (.builtin "object.__class__"))
  mro : PySem.W.mroIn K C (.type "object") = some true
def Ty.bi : Ty → Bool
  | .cls _ => false
  | _ => true
theorem kit_of {c : Cn} {t : Ty} (hb : t.bi = true) (h : ∀ k, c.E.co k = true → PySem.W.kitOne c.E.K (.ref (c.E.cl k)) (tw c.E t) = some false) : Kit c t :=
  ⟨fun d v hv hc => by
    cases d with
    | ins k fs =>
      cases hv
      rw [h k (hc k fs rfl)]
      cases t <;> first
        | rfl
        | cases hb
    | ref n => cases hv
    | _ =>
      cases hv
      cases t <;> first
        | rfl
        | cases hb⟩
theorem blk_cx {CX : CXT} {P : Program} {w : World} {K : PySem.W.Frag} {mg : Str → Option Value} {base : Heap} {N : List Str} {qual : Str} {sc scope : PySem.Scope} {f : Addr} {cd : Value} {A : Around} {outer : List Env} {s : Shared} {H : Hp} {E : XK} {own : List (Str × Nat)}
    (h : BlkOk N sc scope own) : BlkOk (cxOf CX P w K mg base N qual sc f cd A outer s H E).N (cxOf CX P w K mg base N qual sc f cd A outer s H E).env.scope scope own := h
theorem kit_mro {K : PySem.W.Frag} {C : Addr} {T : String} {b : Bool} (hm : PySem.W.kitMeta T = true) (h : PySem.W.mroIn K C (.type T) = some b) : PySem.W.kitOne K (.ref C) (.type T) = some b := by
  have e : PySem.W.kitOne K (.ref C) (.type T) = if PySem.W.kitMeta T = true then PySem.W.subIn K (.ref C) (.type T) else none := rfl
  rw [e, if_pos hm]
  exact h
theorem hu64 {A : Around} {k : Nat} (h : Room k A) : A.units + 64 < cLine := by
  have := h.un
  omega
end Pi
/-! What the laws' own helpers mean: drawn numbers. -/
namespace Pi
open PySem
theorem snoc {α : Type} : ∀ xs : List α, xs = [] ∨ ∃ ys y, xs = ys ++ [y] := fun xs => by
  rcases List.eq_nil_or_concat xs with h | ⟨ys, y, h⟩
  · exact .inl h
  · exact .inr ⟨ys, y, by rw [h]; simp⟩
theorem toPys_int : ∀ xs : List Int, toPys (xs.map D.int) = some (xs.map PyData.int)
  | [] => rfl
  | x :: xs => by
    show (match toPy (.int x), toPys (xs.map D.int) with
      | some x, some xs => some (x :: xs)
      | _, _ => none) = _
    rw [toPys_int xs]
    rfl
theorem lay_int : ∀ xs : List Int, PyData.canLayAll0 (xs.map PyData.int) = true
  | [] => rfl
  | x :: xs => by
    show (PyData.canLay0 (.int x) && PyData.canLayAll0 (xs.map PyData.int)) = true
    rw [lay_int xs]
    rfl
theorem depth_int : ∀ xs : List Int, PyData.depthAll (xs.map PyData.int) = 0
  | [] => rfl
  | x :: xs => by
    show max (PyData.depth (.int x)) (PyData.depthAll (xs.map PyData.int)) = 0
    rw [depth_int xs]
    rfl
theorem shaped_ints (xs : List Int) : SeqAt.shaped (.list (xs.map PyData.int)) = true := by
  unfold SeqAt.shaped
  rw [PyData.canLay0.eq_5, PyData.depth.eq_1, lay_int, depth_int]
  rfl
theorem deq_nil (xs : List Int) : deq (.lst (xs.map D.int)) (.lst []) = some xs.isEmpty := by
  have h1 : toPy (.lst (xs.map D.int)) = some (.list (xs.map PyData.int)) := by
    show (toPys (xs.map D.int)).map PyData.list = _
    rw [toPys_int]
    rfl
  unfold deq
  rw [h1]
  show (bif SeqAt.shaped (.list (xs.map PyData.int)) && SeqAt.shaped (.list []) then some (PyData.eqv (.list (xs.map PyData.int)) (.list [])) else none) = _
  rw [shaped_ints]
  cases xs <;> rfl

/-- the numbers that are drawn stand in the store -/
structure Strm (g : List MO) (r : Nat) : Prop where
  ex : ∃ (q : Nat) (z : Int) (xs : List Int), g[r]? = some (.lst [.ref q, .int z]) ∧ g[q]? = some (.lst (xs.map .int)) ∧ q ≠ r ∧ xs.length ≤ 60
/-- what draws -/
def tCells : T := .ix (.v 0) (.c (.int 0))
def tTest : T := .and (.op2 .ne tCells (.lst .nil)) (.op2 .eq (.ix tCells (.neg (.c (.int 1)))) (.c (.int 0)))
def tDraw : TS := (.seq (.whl 64 tTest (.ex (.popr tCells)))
    (.seq (.ite (.op2 .ne tCells (.lst .nil)) (.seq (.asg (.one 2) (.popr tCells))
    (.seq (.appr tCells (.op2 .fdiv (.v 2) (.v 1)))
    (.ret (.op2 .mod (.bi .int (.cons (.v 2) .nil)) (.v 1))))) .nil)
    (.seq (.setr (.v 0) (.c (.int 1)) (.op2 .mod (.bi .int (.cons (.op2 .add (.op2 .mulR (.ix (.v 0) (.c (.int 1))) (.c (.int 48271))) (.c (.int 11))) .nil)) (.c (.int 2147483647))))
    (.ret (.op2 .mod (.bi .int (.cons (.op2 .fdiv (.ix (.v 0) (.c (.int 1))) (.c (.int 8))) .nil)) (.v 1))))))
section
variable {o : O} {g : List MO} {r q : Nat} {z m : Int} {xs : List Int} {u : SV}
abbrev sD (r : Nat) (m : Int) (u : SV) (g : List MO) : S := ⟨[.v (.ref r), .v (.int m), u], g⟩
theorem ev_cells (h : g[r]? = some (.lst [.ref q, .int z])) : ev o tCells (sD r m u g) = .ok (.ref q) (sD r m u g) := by
  show R.of (ixS (view g (.ref r)) (.int 0)) (sD r m u g) = _
  have : view g (.ref r) = .lst [.ref q, .int z] := by
    show (match g[r]? with
      | some (.lst ds) => D.lst ds
      | _ => .ref r) = _
    rw [h]
  rw [this]
  rfl
theorem view_lst {ds : List D} (h : g[q]? = some (.lst ds)) : view g (.ref q) = .lst ds := by
  show (match g[q]? with
    | some (.lst ds) => D.lst ds
    | _ => .ref q) = _
  rw [h]
theorem ev_ne (h : g[r]? = some (.lst [.ref q, .int z])) (h2 : g[q]? = some (.lst (xs.map .int))) : ev o (.op2 .ne tCells (.lst .nil)) (sD r m u g) = .ok (.bl (!xs.isEmpty)) (sD r m u g) := by
  show (ev o tCells (sD r m u g)).bind _ = _
  rw [ev_cells h]
  show R.of (op2S g .ne (.ref q) (.lst [])) (sD r m u g) = _
  have : op2S g .ne (.ref q) (.lst []) = some (.bl (!xs.isEmpty)) := by
    show op2V .ne (view g (.ref q)) (.lst []) = _
    rw [view_lst h2]
    show ((deq (.lst (xs.map .int)) (.lst [])).map fun k => D.bl !k) = _
    rw [deq_nil]
    rfl
  rw [this]
  rfl
theorem ev_test (h : g[r]? = some (.lst [.ref q, .int z])) (h2 : g[q]? = some (.lst (xs.map .int))) : ev o tTest (sD r m u g) = .ok (.bl (decide (xs.getLast? = some 0))) (sD r m u g) := by
  show (ev o (.op2 .ne tCells (.lst .nil)) (sD r m u g)).bind _ = _
  rw [ev_ne h h2]
  rcases snoc xs with rfl | ⟨ys, y, rfl⟩
  · rfl
  · 
    have e1 : (!(ys ++ [y]).isEmpty) = true := by simp
    rw [e1]
    show ((ev o tCells (sD r m u g)).bind fun x s => (ev o (.neg (.c (.int 1))) s).bind fun y s => R.of (ixS (view s.g x) y) s).bind _ = _
    rw [ev_cells h]
    show (R.of (ixS (view g (.ref q)) (.int (-1))) (sD r m u g)).bind _ = _
    rw [view_lst h2]
    have e2 : ixS (.lst ((ys ++ [y]).map D.int)) (.int (-1)) = some (.int y) := by
      show L2.atI ((ys ++ [y]).map D.int) (-1) = _
      unfold L2.atI L2.ixN
      have hl : ((ys ++ [y]).map D.int).length = ys.length + 1 := by simp
      rw [hl, if_neg (by decide), if_pos (by omega)]
      have : ((-1 : Int) + ((ys.length + 1 : Nat) : Int)).toNat = ys.length := by omega
      rw [this]
      simp
    rw [e2]
    show R.of (op2S g .eq (.int y) (.int 0)) (sD r m u g) = _
    show R.ok (D.bl (decide (y = 0))) (sD r m u g) = _
    simp
theorem ev_pop (h : g[r]? = some (.lst [.ref q, .int z])) {ys : List Int} {y : Int} (h2 : g[q]? = some (.lst ((ys ++ [y]).map .int))) : ev o (.popr tCells) (sD r m u g) = .ok (.int y) (sD r m u (g.set q (.lst (ys.map .int)))) := by
  show (ev o tCells (sD r m u g)).bind _ = _
  rw [ev_cells h]
  show (match g[q]? with
      | some (.lst ds) => (match ds.getLast? with
        | some d => R.ok d ⟨(sD r m u g).l, g.set q (.lst ds.dropLast)⟩
        | none => .no)
      | _ => .no) = _
  rw [h2]
  have e1 : ((ys ++ [y]).map D.int).getLast? = some (.int y) := by simp
  have e2 : ((ys ++ [y]).map D.int).dropLast = ys.map D.int := by simp
  simp only [e1, e2]
theorem get_set (h : g[q]? = some x) {y : MO} : (g.set q y)[q]? = some y := by
  rw [List.getElem?_set_self (List.getElem?_eq_some_iff.mp h).1]
theorem loop_zero : ∀ (n : Nat) {g : List MO} {xs : List Int}, g[r]? = some (.lst [.ref q, .int z]) → g[q]? = some (.lst (xs.map .int)) → q ≠ r → xs.length < n →
    ∃ (g' : List MO) (ys : List Int), loopW (evS o (.ex (.popr tCells))) (ev o tTest) n (sD r m u g) = .ok .nx (sD r m u g') ∧ g'[r]? = some (.lst [.ref q, .int z]) ∧ g'[q]? = some (.lst (ys.map .int)) ∧ ys.length ≤ xs.length ∧ g'.length = g.length ∧ ∀ j, j ≠ q → g'[j]? = g[j]?
  | 0, _, _, _, _, _, h => absurd h (Nat.not_lt_zero _)
  | n + 1, g, xs, h1, h2, hq, h => by
    show ∃ (g' : List MO) (ys : List Int), (ev o tTest (sD r m u g)).bind (testW (evS o (.ex (.popr tCells))) (loopW (evS o (.ex (.popr tCells))) (ev o tTest) n)) = _ ∧ _
    rw [ev_test h1 h2]
    rcases snoc xs with rfl | ⟨ys, y, rfl⟩
    · exact ⟨g, [], rfl, h1, h2, Nat.le_refl _, rfl, fun _ _ => rfl⟩
    · 
      by_cases hy : y = 0
      · subst hy
        have e1 : decide ((ys ++ [(0 : Int)]).getLast? = some 0) = true := by simp
        rw [e1]
        show ∃ (g' : List MO) (ys_1 : List Int), contW (loopW (evS o (.ex (.popr tCells))) (ev o tTest) n) ((ev o (.popr tCells) (sD r m u g)).bind fun _ s => .ok .nx s) = _ ∧ _
        rw [ev_pop h1 h2]
        have h3 : (g.set q (.lst (ys.map .int)))[r]? = some (.lst [.ref q, .int z]) := by rw [List.getElem?_set_ne hq]; exact h1
        obtain ⟨g', zs, k1, k2, k3, k4, k5, k6⟩ := loop_zero n h3 (get_set h2) hq (by simp at h; omega)
        refine ⟨g', zs, k1, k2, k3, by simp; omega, by rw [k5, List.length_set], fun j hj => ?_⟩
        rw [k6 j hj, List.getElem?_set_ne (Ne.symm hj)]
      · have e1 : decide ((ys ++ [y]).getLast? = some 0) = false := by simp [hy]
        rw [e1]
        exact ⟨g, _, rfl, h1, h2, Nat.le_refl _, rfl, fun _ _ => rfl⟩
/-- a drawn number -/
theorem draw_ok (h : Strm g r) (h0 : 0 < m) (h1 : m < 1073741824) : ∃ k g', runD o 3 tDraw [.ref r, .int m] g = .ok (.int k) g' ∧ 0 ≤ k ∧ k < m ∧ Strm g' r ∧ g'.length = g.length := by
  obtain ⟨q, z, xs, a1, a2, a3, a4⟩ := h.ex
  obtain ⟨g1, ys, b1, b2, b3, b4, b5, b6⟩ := loop_zero (o := o) (m := m) (u := .un) 64 a1 a2 a3 (by omega)
  have e : runD o 3 tDraw [.ref r, .int m] g = ((match loopW (evS o (.ex (.popr tCells))) (ev o tTest) 64 (sD r m .un g) with
    | .ok .nx s => evS o (.seq (.ite (.op2 .ne tCells (.lst .nil)) (.seq (.asg (.one 2) (.popr tCells))
    (.seq (.appr tCells (.op2 .fdiv (.v 2) (.v 1)))
    (.ret (.op2 .mod (.bi .int (.cons (.v 2) .nil)) (.v 1))))) .nil)
    (.seq (.setr (.v 0) (.c (.int 1)) (.op2 .mod (.bi .int (.cons (.op2 .add (.op2 .mulR (.ix (.v 0) (.c (.int 1))) (.c (.int 48271))) (.c (.int 11))) .nil)) (.c (.int 2147483647))))
    (.ret (.op2 .mod (.bi .int (.cons (.op2 .fdiv (.ix (.v 0) (.c (.int 1))) (.c (.int 8))) .nil)) (.v 1))))) s
    | r => r) : R F).toC := rfl
  rw [e, b1]
  have hm : (bif decide (0 < m) && decide (m < 1073741824) then some (D.int 0) else none) = some (D.int 0) := by simp [h0, h1]
  have v1 := view_lst b2
  rcases snoc ys with rfl | ⟨ws, y, rfl⟩
  · have e2 := ev_ne (o := o) (m := m) (u := .un) b2 b3
    have e3 : evS o (.ite (.op2 .ne tCells (.lst .nil)) (.seq (.asg (.one 2) (.popr tCells))
    (.seq (.appr tCells (.op2 .fdiv (.v 2) (.v 1)))
    (.ret (.op2 .mod (.bi .int (.cons (.v 2) .nil)) (.v 1))))) .nil) (sD r m .un g1) = .ok .nx (sD r m .un g1) := by
      show (ev o (.op2 .ne tCells (.lst .nil)) (sD r m .un g1)).bind _ = _
      rw [e2]
      rfl
    have e4 : evS o (.setr (.v 0) (.c (.int 1)) (.op2 .mod (.bi .int (.cons (.op2 .add (.op2 .mulR (.ix (.v 0) (.c (.int 1))) (.c (.int 48271))) (.c (.int 11))) .nil)) (.c (.int 2147483647)))) (sD r m .un g1) =
        .ok .nx (sD r m .un (g1.set r (.lst [.ref q, .int ((z * 48271 + 11) % 2147483647)]))) := by
      have e1 : ev o (.ix (.v 0) (.c (.int 1))) (sD r m .un g1) = .ok (.int z) (sD r m .un g1) := by
        show R.of (ixS (view g1 (.ref r)) (.int 1)) _ = _
        rw [v1]
        rfl
      have e5 : ev o (.op2 .mod (.bi .int (.cons (.op2 .add (.op2 .mulR (.ix (.v 0) (.c (.int 1))) (.c (.int 48271))) (.c (.int 11))) .nil)) (.c (.int 2147483647))) (sD r m .un g1) = .ok (.int ((z * 48271 + 11) % 2147483647)) (sD r m .un g1) := by
        show ((((((ev o (.ix (.v 0) (.c (.int 1))) (sD r m .un g1)).bind _).bind _).bind _).bind _).bind _) = _
        rw [e1]
        rfl
      show (ev o (.op2 .mod (.bi .int (.cons (.op2 .add (.op2 .mulR (.ix (.v 0) (.c (.int 1))) (.c (.int 48271))) (.c (.int 11))) .nil)) (.c (.int 2147483647))) (sD r m .un g1)).bind _ = _
      rw [e5]
      show (match g1[r]? with
      | some (.lst ds) => (match L2.ixN ds.length 1 with
        | some j => R.ok F.nx ⟨(sD r m .un g1).l, g1.set r (.lst (ds.set j _))⟩
        | none => .no)
      | _ => .no) = _
      rw [b2]
      rfl
    obtain ⟨g2, hg2⟩ : ∃ g2, g1.set r (.lst [.ref q, .int ((z * 48271 + 11) % 2147483647)]) = g2 := ⟨_, rfl⟩
    rw [hg2] at e4
    have c1 : g2[r]? = some (.lst [.ref q, .int ((z * 48271 + 11) % 2147483647)]) := by rw [← hg2]; exact get_set b2
    have c2 : g2[q]? = some (.lst (([] : List Int).map .int)) := by rw [← hg2, List.getElem?_set_ne (Ne.symm a3)]; exact b3
    have e5 : evS o (.ret (.op2 .mod (.bi .int (.cons (.op2 .fdiv (.ix (.v 0) (.c (.int 1))) (.c (.int 8))) .nil)) (.v 1))) (sD r m .un g2) = .ok (.rt (.int ((z * 48271 + 11) % 2147483647 / 8 % m))) (sD r m .un g2) := by
      have e1 : ev o (.ix (.v 0) (.c (.int 1))) (sD r m .un g2) = .ok (.int ((z * 48271 + 11) % 2147483647)) (sD r m .un g2) := by
        show R.of (ixS (view g2 (.ref r)) (.int 1)) _ = _
        rw [view_lst c1]
        rfl
      show (((((ev o (.ix (.v 0) (.c (.int 1))) (sD r m .un g2)).bind _).bind _).bind _).bind _).bind _ = _
      rw [e1]
      show (R.of (op2S g2 .mod (.int ((z * 48271 + 11) % 2147483647 / 8)) (.int m)) (sD r m .un g2)).bind _ = _
      have : op2S g2 .mod (.int ((z * 48271 + 11) % 2147483647 / 8)) (.int m) = some (.int ((z * 48271 + 11) % 2147483647 / 8 % m)) := by
        show (bif decide (0 < m) then some (D.int ((z * 48271 + 11) % 2147483647 / 8 % m)) else none) = _
        rw [decide_eq_true h0]
        rfl
      rw [this]
      rfl
    have e6 : (match (R.ok F.nx (sD r m .un g1) : R F) with
    | .ok .nx s => evS o (.seq (.ite (.op2 .ne tCells (.lst .nil)) (.seq (.asg (.one 2) (.popr tCells))
    (.seq (.appr tCells (.op2 .fdiv (.v 2) (.v 1)))
    (.ret (.op2 .mod (.bi .int (.cons (.v 2) .nil)) (.v 1))))) .nil)
    (.seq (.setr (.v 0) (.c (.int 1)) (.op2 .mod (.bi .int (.cons (.op2 .add (.op2 .mulR (.ix (.v 0) (.c (.int 1))) (.c (.int 48271))) (.c (.int 11))) .nil)) (.c (.int 2147483647))))
    (.ret (.op2 .mod (.bi .int (.cons (.op2 .fdiv (.ix (.v 0) (.c (.int 1))) (.c (.int 8))) .nil)) (.v 1))))) s
    | r => r) = .ok (.rt (.int ((z * 48271 + 11) % 2147483647 / 8 % m))) (sD r m .un g2) := by
      show (match evS o (.ite (.op2 .ne tCells (.lst .nil)) (.seq (.asg (.one 2) (.popr tCells))
    (.seq (.appr tCells (.op2 .fdiv (.v 2) (.v 1)))
    (.ret (.op2 .mod (.bi .int (.cons (.v 2) .nil)) (.v 1))))) .nil) (sD r m .un g1) with
        | .ok .nx s => evS o (.seq (.setr (.v 0) (.c (.int 1)) (.op2 .mod (.bi .int (.cons (.op2 .add (.op2 .mulR (.ix (.v 0) (.c (.int 1))) (.c (.int 48271))) (.c (.int 11))) .nil)) (.c (.int 2147483647))))
    (.ret (.op2 .mod (.bi .int (.cons (.op2 .fdiv (.ix (.v 0) (.c (.int 1))) (.c (.int 8))) .nil)) (.v 1)))) s
        | r => r) = _
      rw [e3]
      show (match evS o (.setr (.v 0) (.c (.int 1)) (.op2 .mod (.bi .int (.cons (.op2 .add (.op2 .mulR (.ix (.v 0) (.c (.int 1))) (.c (.int 48271))) (.c (.int 11))) .nil)) (.c (.int 2147483647)))) (sD r m .un g1) with
        | .ok .nx s => evS o (.ret (.op2 .mod (.bi .int (.cons (.op2 .fdiv (.ix (.v 0) (.c (.int 1))) (.c (.int 8))) .nil)) (.v 1))) s
        | r => r) = _
      rw [e4]
      exact e5
    rw [e6]
    exact ⟨_, g2, rfl, Int.emod_nonneg _ (by omega), Int.emod_lt_of_pos _ h0, ⟨q, _, [], c1, c2, a3, by simp⟩, by rw [← hg2, List.length_set, b5]⟩
  · have e2 := ev_ne (o := o) (m := m) (u := .un) b2 b3
    have ep := ev_pop (o := o) (m := m) (u := .un) b2 b3
    obtain ⟨g2, hg2⟩ : ∃ g2, g1.set q (.lst (ws.map .int)) = g2 := ⟨_, rfl⟩
    rw [hg2] at ep
    have c1 : g2[r]? = some (.lst [.ref q, .int z]) := by rw [← hg2, List.getElem?_set_ne a3]; exact b2
    have c2 : g2[q]? = some (.lst (ws.map .int)) := by rw [← hg2]; exact get_set b3
    have hlen : ws.length + 1 ≤ 60 := by simp at b4; omega
    have e7 : evS o (.appr tCells (.op2 .fdiv (.v 2) (.v 1))) (sD r m (.v (.int y)) g2) = .ok .nx (sD r m (.v (.int y)) (g2.set q (.lst ((ws ++ [y / m]).map .int)))) := by
      show (ev o tCells (sD r m (.v (.int y)) g2)).bind _ = _
      rw [ev_cells c1]
      show (match g2[q]? with
      | some (.lst _) => (R.of (op2S g2 .fdiv (.int y) (.int m)) (sD r m (.v (.int y)) g2)).bind fun d s => (match s.g[q]? with
        | some (.lst ds) => bif decide (ds.length < big) then R.ok F.nx ⟨s.l, s.g.set q (.lst (ds ++ [d]))⟩ else .no
        | _ => .no)
      | _ => .no) = _
      have : op2S g2 .fdiv (.int y) (.int m) = some (.int (y / m)) := by
        show (bif decide (0 < m) && decide (m < 1073741824) then some (D.int (y / m)) else none) = _
        rw [decide_eq_true h0, decide_eq_true h1]
        rfl
      rw [this]
      simp only [c2]
      show (match g2[q]? with
        | some (.lst ds) => bif decide (ds.length < big) then R.ok F.nx ⟨(sD r m (.v (.int y)) g2).l, g2.set q (.lst (ds ++ [D.int (y / m)]))⟩ else .no
        | _ => .no) = _
      rw [c2]
      have hb : decide ((ws.map D.int).length < big) = true := by rw [List.length_map]; exact decide_eq_true (by unfold big; omega)
      simp only [hb, cond_true]
      simp
    obtain ⟨g3, hg3⟩ : ∃ g3, g2.set q (.lst ((ws ++ [y / m]).map .int)) = g3 := ⟨_, rfl⟩
    rw [hg3] at e7
    have d1 : g3[r]? = some (.lst [.ref q, .int z]) := by rw [← hg3, List.getElem?_set_ne a3]; exact c1
    have d2 : g3[q]? = some (.lst ((ws ++ [y / m]).map .int)) := by rw [← hg3]; exact get_set c2
    have e8 : evS o (.ret (.op2 .mod (.bi .int (.cons (.v 2) .nil)) (.v 1))) (sD r m (.v (.int y)) g3) = .ok (.rt (.int (y % m))) (sD r m (.v (.int y)) g3) := by
      show (R.of (op2S g3 .mod (.int y) (.int m)) (sD r m (.v (.int y)) g3)).bind _ = _
      have : op2S g3 .mod (.int y) (.int m) = some (.int (y % m)) := by
        show (bif decide (0 < m) then some (D.int (y % m)) else none) = _
        rw [decide_eq_true h0]
        rfl
      rw [this]
      rfl
    have e9 : evS o (.seq (.asg (.one 2) (.popr tCells))
    (.seq (.appr tCells (.op2 .fdiv (.v 2) (.v 1)))
    (.ret (.op2 .mod (.bi .int (.cons (.v 2) .nil)) (.v 1))))) (sD r m .un g1) = .ok (.rt (.int (y % m))) (sD r m (.v (.int y)) g3) := by
      have ea : evS o (.asg (.one 2) (.popr tCells)) (sD r m .un g1) = .ok .nx (sD r m (.v (.int y)) g2) := by
        show (ev o (.popr tCells) (sD r m .un g1)).bind _ = _
        rw [ep]
        rfl
      show (match evS o (.asg (.one 2) (.popr tCells)) (sD r m .un g1) with
        | .ok .nx s => evS o (.seq (.appr tCells (.op2 .fdiv (.v 2) (.v 1))) (.ret (.op2 .mod (.bi .int (.cons (.v 2) .nil)) (.v 1)))) s
        | r => r) = _
      rw [ea]
      show (match evS o (.appr tCells (.op2 .fdiv (.v 2) (.v 1))) (sD r m (.v (.int y)) g2) with
        | .ok .nx s => evS o (.ret (.op2 .mod (.bi .int (.cons (.v 2) .nil)) (.v 1))) s
        | r => r) = _
      rw [e7]
      exact e8
    have e3 : evS o (.ite (.op2 .ne tCells (.lst .nil)) (.seq (.asg (.one 2) (.popr tCells))
    (.seq (.appr tCells (.op2 .fdiv (.v 2) (.v 1)))
    (.ret (.op2 .mod (.bi .int (.cons (.v 2) .nil)) (.v 1))))) .nil) (sD r m .un g1) = .ok (.rt (.int (y % m))) (sD r m (.v (.int y)) g3) := by
      show (ev o (.op2 .ne tCells (.lst .nil)) (sD r m .un g1)).bind _ = _
      rw [e2]
      have : (!(ws ++ [y]).isEmpty) = true := by simp
      rw [this]
      exact e9
    have e6 : (match (R.ok F.nx (sD r m .un g1) : R F) with
    | .ok .nx s => evS o (.seq (.ite (.op2 .ne tCells (.lst .nil)) (.seq (.asg (.one 2) (.popr tCells))
    (.seq (.appr tCells (.op2 .fdiv (.v 2) (.v 1)))
    (.ret (.op2 .mod (.bi .int (.cons (.v 2) .nil)) (.v 1))))) .nil)
    (.seq (.setr (.v 0) (.c (.int 1)) (.op2 .mod (.bi .int (.cons (.op2 .add (.op2 .mulR (.ix (.v 0) (.c (.int 1))) (.c (.int 48271))) (.c (.int 11))) .nil)) (.c (.int 2147483647))))
    (.ret (.op2 .mod (.bi .int (.cons (.op2 .fdiv (.ix (.v 0) (.c (.int 1))) (.c (.int 8))) .nil)) (.v 1))))) s
    | r => r) = .ok (.rt (.int (y % m))) (sD r m (.v (.int y)) g3) := by
      show (match evS o (.ite (.op2 .ne tCells (.lst .nil)) (.seq (.asg (.one 2) (.popr tCells))
    (.seq (.appr tCells (.op2 .fdiv (.v 2) (.v 1)))
    (.ret (.op2 .mod (.bi .int (.cons (.v 2) .nil)) (.v 1))))) .nil) (sD r m .un g1) with
        | .ok .nx s => evS o (.seq (.setr (.v 0) (.c (.int 1)) (.op2 .mod (.bi .int (.cons (.op2 .add (.op2 .mulR (.ix (.v 0) (.c (.int 1))) (.c (.int 48271))) (.c (.int 11))) .nil)) (.c (.int 2147483647))))
    (.ret (.op2 .mod (.bi .int (.cons (.op2 .fdiv (.ix (.v 0) (.c (.int 1))) (.c (.int 8))) .nil)) (.v 1)))) s
        | r => r) = _
      rw [e3]
    rw [e6]
    exact ⟨_, g3, rfl, Int.emod_nonneg _ (by omega), Int.emod_lt_of_pos _ h0, ⟨q, z, ws ++ [y / m], d1, d2, a3, by simp; omega⟩, by rw [← hg3, List.length_set, ← hg2, List.length_set, b5]⟩
end
end Pi
namespace Pi
open PySem
/-! ### loops by an invariant -/
theorem loopC_inv {I : List MO → Prop} {Q : D → Prop} {f : D → List MO → R (Option D)} : ∀ {ds acc : List D} {g : List MO}, (∀ d ∈ ds, ∀ g, I g → ∃ s, I s.g ∧ (f d g = .ok none s ∨ ∃ x, Q x ∧ f d g = .ok (some x) s)) → I g →
    ∃ xs s, loopC f ds acc g = .ok (acc ++ xs) s ∧ I s.g ∧ xs.length ≤ ds.length ∧ ∀ x ∈ xs, Q x
  | [], acc, g, _, hI => ⟨[], ⟨[], g⟩, by rw [List.append_nil]; rfl, hI, Nat.le_refl _, fun _ h => nomatch h⟩
  | d :: ds, acc, g, h, hI => by
    obtain ⟨s, hs, e⟩ := h d (List.mem_cons_self ..) g hI
    have rest := fun acc => loopC_inv (acc := acc) (fun d hd g hg => h d (List.mem_cons_of_mem _ hd) g hg) hs
    rcases e with e | ⟨x, hx, e⟩
    · obtain ⟨xs, s', e1, e2, e3, e4⟩ := rest acc
      refine ⟨xs, s', ?_, e2, by simp; omega, e4⟩
      show (match f d g with
        | .ok (some x) s => loopC f ds (acc ++ [x]) s.g
        | .ok none s => loopC f ds acc s.g
        | .ex _ _ _ => .no
        | .no => .no) = _
      rw [e]
      exact e1
    · obtain ⟨xs, s', e1, e2, e3, e4⟩ := rest (acc ++ [x])
      refine ⟨x :: xs, s', ?_, e2, by simp; omega, fun y hy => by
        rcases List.mem_cons.mp hy with rfl | hy
        · exact hx
        · exact e4 y hy⟩
      show (match f d g with
        | .ok (some x) s => loopC f ds (acc ++ [x]) s.g
        | .ok none s => loopC f ds acc s.g
        | .ex _ _ _ => .no
        | .no => .no) = _
      rw [e]
      simpa using e1
theorem loopS_inv {I : S → Prop} {f : D → S → R F} : ∀ {ds : List D} {s : S}, (∀ d ∈ ds, ∀ s, I s → ∃ s', I s' ∧ f d s = .ok .nx s') → I s → ∃ s', I s' ∧ loopS f ds s = .ok .nx s'
  | [], s, _, hI => ⟨s, hI, rfl⟩
  | d :: ds, s, h, hI => by
    obtain ⟨s1, h1, e1⟩ := h d (List.mem_cons_self ..) s hI
    obtain ⟨s2, h2, e2⟩ := loopS_inv (fun d hd s hs => h d (List.mem_cons_of_mem _ hd) s hs) h1
    refine ⟨s2, h2, ?_⟩
    show (match f d s with
      | .ok .nx s => loopS f ds s
      | .ok .ct s => loopS f ds s
      | .ok .bk s => .ok .nx s
      | .ok (.rt d) s => .ok (.rt d) s
      | .ex c fs s => .ex c fs s
      | .no => .no) = _
    rw [e1]
    exact e2
theorem all_ints : ∀ {xs : List D}, (∀ x ∈ xs, ∃ i, x = D.int i) → ∃ is : List Int, xs = is.map .int
  | [], _ => ⟨[], rfl⟩
  | x :: xs, h => by
    obtain ⟨i, rfl⟩ := h x (List.mem_cons_self ..)
    obtain ⟨is, rfl⟩ := all_ints fun y hy => h y (List.mem_cons_of_mem _ hy)
    exact ⟨i :: is, rfl⟩
theorem wipe_len : ∀ l : List SV, (wipeOwn l).length = l.length
  | [] => rfl
  | .un :: r => congrArg (· + 1) (wipe_len r)
  | .v _ :: r => congrArg (· + 1) (wipe_len r)
  | .own _ :: r => congrArg (· + 1) (wipe_len r)
  | .ob _ _ :: r => congrArg (· + 1) (wipe_len r)
theorem wipe_get : ∀ {l : List SV} {i : Nat} {d : D}, l[i]? = some (.v d) → (wipeOwn l)[i]? = some (.v d)
  | .v x :: r, 0, d, h => h
  | .un :: r, 0, d, h => by cases h
  | .own _ :: r, 0, d, h => by cases h
  | .ob _ _ :: r, 0, d, h => by cases h
  | .v x :: r, i + 1, d, h => wipe_get (l := r) h
  | .un :: r, i + 1, d, h => wipe_get (l := r) h
  | .own _ :: r, i + 1, d, h => wipe_get (l := r) h
  | .ob _ _ :: r, i + 1, d, h => wipe_get (l := r) h
abbrev cbody (o : O) (l : List SV) (i : Nat) (c e : T) : D → List MO → R (Option D) := fun d g => (ev o c ⟨(wipeOwn l).set i (.v d), g⟩).bind fun t s' => match t with
      | .bl true => (ev o e s').bind fun x s'' => .ok (some x) s''
      | .bl false => .ok none s'
      | _ => .no
theorem ev_comp {o : O} {i : Nat} {it c e : T} {s s1 s' : S} {ds xs : List D} (h1 : evI o it s = .ok ds s1) (h2 : ds.length ≤ big) (h3 : loopC (cbody o s1.l i c e) ds [] s1.g = .ok xs s') : ev o (.comp i it c e) s = .ok (.lst xs) ⟨s1.l, s'.g⟩ := by
  show (evI o it s).bind _ = _
  rw [h1]
  show (bif decide (ds.length ≤ big) then
        match loopC (cbody o s1.l i c e) ds [] s1.g with
        | .ok xs s' => R.ok (D.lst xs) ⟨s1.l, s'.g⟩
        | _ => .no else .no) = _
  rw [decide_eq_true h2, h3]
  rfl
section
variable {o : O} {a b : TS} {c e : T} {s s1 s2 : S} {x : D} {k : Nat} {fs : List (Nat × D)} {r : R F}
theorem seq_nx (h : evS o a s = .ok .nx s1) (h2 : evS o b s1 = r) : evS o (.seq a b) s = r := by
  show (match evS o a s with
    | .ok .nx s => evS o b s
    | r => r) = _
  rw [h]
  exact h2
theorem seq_rt (h : evS o a s = .ok (.rt x) s1) : evS o (.seq a b) s = .ok (.rt x) s1 := by
  show (match evS o a s with
    | .ok .nx s => evS o b s
    | r => r) = _
  rw [h]
theorem seq_ex (h : evS o a s = .ex k fs s1) : evS o (.seq a b) s = .ex k fs s1 := by
  show (match evS o a s with
    | .ok .nx s => evS o b s
    | r => r) = _
  rw [h]
theorem ite_t (h : ev o c s = .ok (.bl true) s1) (h2 : evS o a s1 = r) : evS o (.ite c a b) s = r := by
  show (ev o c s).bind _ = _
  rw [h]
  exact h2
theorem ite_f (h : ev o c s = .ok (.bl false) s1) (h2 : evS o b s1 = r) : evS o (.ite c a b) s = r := by
  show (ev o c s).bind _ = _
  rw [h]
  exact h2
theorem asg_one {i : Nat} (h : ev o e s = .ok x s1) : evS o (.asg (.one i) e) s = .ok .nx ⟨s1.l.set i (.v x), s1.g⟩ := by
  show (ev o e s).bind _ = _
  rw [h]
  rfl
theorem ret_ok (h : ev o e s = .ok x s1) : evS o (.ret e) s = .ok (.rt x) s1 := by
  show (ev o e s).bind _ = _
  rw [h]
  rfl
theorem ex_ok (h : ev o e s = .ok x s1) : evS o (.ex e) s = .ok .nx s1 := by
  show (ev o e s).bind _ = _
  rw [h]
  rfl
theorem and_t {c d : T} {r : R D} (h : ev o c s = .ok (.bl true) s1) (h2 : ev o d s1 = r) : ev o (.and c d) s = r := by
  show (ev o c s).bind _ = _
  rw [h]
  exact h2
theorem and_f {c d : T} (h : ev o c s = .ok (.bl false) s1) : ev o (.and c d) s = .ok (.bl false) s1 := by
  show (ev o c s).bind _ = _
  rw [h]
  rfl
theorem or_f {c d : T} {r : R D} (h : ev o c s = .ok (.bl false) s1) (h2 : ev o d s1 = r) : ev o (.or c d) s = r := by
  show (ev o c s).bind _ = _
  rw [h]
  exact h2
theorem or_t {c d : T} (h : ev o c s = .ok (.bl true) s1) : ev o (.or c d) s = .ok (.bl true) s1 := by
  show (ev o c s).bind _ = _
  rw [h]
  rfl
theorem op_ok {p : Op} {c d : T} {x y z : D} (h : ev o c s = .ok x s1) (h2 : ev o d s1 = .ok y s2) (h3 : op2S s2.g p x y = some z) : ev o (.op2 p c d) s = .ok z s2 := by
  show (ev o c s).bind _ = _
  rw [h]
  show (ev o d s1).bind _ = _
  rw [h2]
  show R.of (op2S s2.g p x y) s2 = _
  rw [h3]
  rfl
theorem A_cons {c d : T} {x : D} {ds : List D} (h : ev o c s = .ok x s1) (h2 : evA o d s1 = .ok ds s2) : evA o (.cons c d) s = .ok (x :: ds) s2 := by
  show (ev o c s).bind _ = _
  rw [h]
  show (evA o d s1).bind _ = _
  rw [h2]
  rfl
theorem tup_ok {d : T} {ds : List D} (h2 : evA o d s = .ok ds s2) (hl : ds.length ≤ big) : ev o (.tup d) s = .ok (.tup ds) s2 := by
  show (evA o d s).bind _ = _
  rw [h2]
  show (bif decide (ds.length ≤ big) then R.ok (D.tup ds) s2 else .no) = _
  rw [decide_eq_true hl]
  rfl
theorem lst_ok {d : T} {ds : List D} (h2 : evA o d s = .ok ds s2) (hl : ds.length ≤ big) : ev o (.lst d) s = .ok (.lst ds) s2 := by
  show (evA o d s).bind _ = _
  rw [h2]
  show (bif decide (ds.length ≤ big) then R.ok (D.lst ds) s2 else .no) = _
  rw [decide_eq_true hl]
  rfl
theorem call_ok {f : Nat} {d : T} {df ds : List D} {g : List MO} {x : D} (h2 : evA o d s = .ok ds s2) (h3 : o.call f (ds ++ df) s2.g = .ok x g) : ev o (.call f d df) s = .ok x ⟨s2.l, g⟩ := by
  show (evA o d s).bind _ = _
  rw [h2]
  show R.ofC s2.l (o.call f (ds ++ df) s2.g) = _
  rw [h3]
  rfl
theorem mk_ok {f : Nat} {d : T} {df ds : List D} {g : List MO} (h2 : evA o d s = .ok ds s2) (h3 : o.init f (ds ++ df) s2.g = .ok fs g) : ev o (.mk f d df) s = .ok (.ins f fs) ⟨s2.l, g⟩ := by
  show (evA o d s).bind _ = _
  rw [h2]
  show R.ofCI s2.l f (o.init f (ds ++ df) s2.g) = _
  rw [h3]
  rfl
theorem bi_ok {k : Bi} {d : T} {ds : List D} {z : D} (h2 : evA o d s = .ok ds s2) (h3 : biS s2.g k ds = some z) : ev o (.bi k d) s = .ok z s2 := by
  show (evA o d s).bind _ = _
  rw [h2]
  show R.of (biS s2.g k ds) s2 = _
  rw [h3]
  rfl
theorem ino_ok {neg : Bool} {c d : T} {x y : D} {q f : Nat} {v : Bool} {g : List MO} (h : ev o c s = .ok x s1) (h2 : ev o d s1 = .ok y s2) (h3 : clsS s2.g y = some q) (h4 : o.cont q = some f) (h5 : o.call f [y, x] s2.g = .ok (.bl v) g) : ev o (.ino neg c d) s = .ok (.bl (bif neg then !v else v)) ⟨s2.l, g⟩ := by
  show (ev o c s).bind _ = _
  rw [h]
  show (ev o d s1).bind _ = _
  rw [h2]
  show (match clsS s2.g y with
    | some c => (match o.cont c with
      | some f => (match o.call f [y, x] s2.g with
        | .ok (.bl k) g => R.ok (D.bl (bif neg then !k else k)) ⟨s2.l, g⟩
        | _ => .no)
      | none => .no)
    | none => .no) = _
  rw [h3]
  simp only [h4, h5]
theorem var_ok {i : Nat} {d : D} (h : s.l[i]? = some (.v d)) : ev o (.v i) s = .ok d s := by
  show (match s.l[i]? with
    | some (.v d) => R.ok d s
    | _ => .no) = _
  rw [h]
theorem fr_ok {t : Tgt} {it : T} {ds : List D} (h : evI o it s = .ok ds s1) (h2 : loopS (fun d s => match tgS t d s.l with
    | some l => evS o b ⟨l, s.g⟩
    | none => .no) ds s1 = r) : evS o (.fr t it b) s = r := by
  show (evI o it s).bind _ = _
  rw [h]
  exact h2
theorem rng2_ok {c d : T} {i j : Int} (h : ev o c s = .ok (.int i) s1) (h2 : ev o d s1 = .ok (.int j) s2) (hi : -(2 ^ 62) ≤ i ∧ i < 2 ^ 62) (hj : -(2 ^ 62) ≤ j ∧ j < 2 ^ 62) : evI o (.rng2 c d) s = .ok ((List.range (j - i).toNat).map fun (k : Nat) => .int (i + k)) s2 := by
  show (ev o c s).bind _ = _
  rw [h]
  show (ev o d s1).bind _ = _
  rw [h2]
  show (bif decide (-(2 ^ 62) ≤ i) && decide (i < 2 ^ 62) && decide (-(2 ^ 62) ≤ j) && decide (j < 2 ^ 62) then R.ok ((List.range (j - i).toNat).map fun (k : Nat) => D.int (i + k)) s2 else .no) = _
  rw [decide_eq_true hi.1, decide_eq_true hi.2, decide_eq_true hj.1, decide_eq_true hj.2]
  rfl
theorem toC_rt (h : evS o a s = .ok (.rt x) s1) : (evS o a s).toC = .ok x s1.g := by rw [h]; rfl
end
/-! ### the numbers dealt out -/
def tDeal : TS := (.seq (.par [1, 2] (.cons (.comp 3 (.it (.sl (.v 0) .nil (.cons (.c (.int 60)) .nil))) (.c (.bl true)) (.bi .abs (.cons (.v 3) .nil))) (.cons (.c (.int 67867967)) .nil)))
    (.seq (.fr (.one 3) (.it (.v 1)) (.asg (.one 2) (.op2 .mod (.bi .int (.cons (.op2 .add (.op2 .mulR (.v 2) (.c (.int 16807))) (.op2 .mod (.bi .int (.cons (.v 3) .nil)) (.c (.int 2147483629)))) .nil)) (.c (.int 2147483647)))))
    (.ret (.mkr (.cons (.revr (.comp 3 (.it (.v 1)) (.op2 .ge (.v 3) (.op2 .pow (.c (.int 10)) (.c (.int 18)))) (.v 3))) (.cons (.v 2) .nil))))))
theorem deal_ok {o : O} (ns : List Int) : ∃ g', runD o 4 tDeal [.lst (ns.map .int)] [] = .ok (.ref 1) g' ∧ Strm g' 1 ∧ g'.length = 2 := by
  -- the cells
  obtain ⟨cs, hcs, hcl⟩ : ∃ cs : List Int, cutD (ns.map D.int) none (some 60) = cs.map D.int ∧ cs.length ≤ 60 := by
    refine ⟨(ns.drop 0).take (HT.sIx ns.length ns.length (some 60) - HT.sIx ns.length 0 none), ?_, ?_⟩
    · unfold cutD
      rw [List.length_map, List.map_take, List.map_drop]
      rfl
    · rw [List.length_take]
      have : HT.sIx ns.length ns.length (some 60) ≤ 60 := by
        show (if (60 : Int) < 0 then ((60 : Int) + (ns.length : Int)).toNat else min (60 : Int).toNat ns.length) ≤ 60
        rw [if_neg (by decide)]
        omega
      omega
  obtain ⟨l0, hl0⟩ : ∃ l0 : List SV, l0 = [SV.v (.lst (ns.map .int)), .un, .un, .un] := ⟨_, rfl⟩
  obtain ⟨xs, s1, e1, e2, e3, e4⟩ := loopC_inv (I := fun g => g = []) (Q := fun x => ∃ i, x = D.int i) (acc := []) (g := []) (ds := cs.map .int)
    (f := fun d g => (ev o (.c (.bl true)) ⟨(wipeOwn [SV.v (.lst (ns.map .int)), .un, .un, .un]).set 3 (.v d), g⟩).bind fun t s' => match t with
      | .bl true => (ev o (.bi .abs (.cons (.v 3) .nil)) s').bind fun x s'' => .ok (some x) s''
      | .bl false => .ok none s'
      | _ => .no) (fun d hd g hg => by
        obtain ⟨i, _, rfl⟩ := List.mem_map.mp hd
        exact ⟨_, hg, .inr ⟨_, ⟨_, rfl⟩, rfl⟩⟩) rfl
  obtain ⟨is, rfl⟩ := all_ints e4
  rw [List.nil_append] at e1
  have hil : is.length ≤ 60 := by simpa using Nat.le_trans e3 (by simpa using hcl)
  have p1 : evS o (.par [1, 2] (.cons (.comp 3 (.it (.sl (.v 0) .nil (.cons (.c (.int 60)) .nil))) (.c (.bl true)) (.bi .abs (.cons (.v 3) .nil))) (.cons (.c (.int 67867967)) .nil))) ⟨[SV.v (.lst (ns.map .int)), .un, .un, .un], []⟩ =
      .ok .nx ⟨[.v (.lst (ns.map .int)), .v (.lst (is.map .int)), .v (.int 67867967), .un], []⟩ := by
    have c1 : ev o (.comp 3 (.it (.sl (.v 0) .nil (.cons (.c (.int 60)) .nil))) (.c (.bl true)) (.bi .abs (.cons (.v 3) .nil))) ⟨[SV.v (.lst (ns.map .int)), .un, .un, .un], []⟩ = .ok (.lst (is.map .int)) ⟨[SV.v (.lst (ns.map .int)), .un, .un, .un], []⟩ := by
      have c2 : evI o (.it (.sl (.v 0) .nil (.cons (.c (.int 60)) .nil))) ⟨[SV.v (.lst (ns.map .int)), .un, .un, .un], []⟩ = .ok (cs.map .int) ⟨[SV.v (.lst (ns.map .int)), .un, .un, .un], []⟩ := by
        show (R.of (seqD (.lst (cutD (ns.map D.int) none (some 60)))) _ : R (List D)) = _
        rw [hcs]
        rfl
      have := ev_comp (i := 3) (c := .c (.bl true)) (e := .bi .abs (.cons (.v 3) .nil)) c2 (by rw [List.length_map]; unfold big; omega) e1
      rw [this, e2]
    show ((ev o (.comp 3 (.it (.sl (.v 0) .nil (.cons (.c (.int 60)) .nil))) (.c (.bl true)) (.bi .abs (.cons (.v 3) .nil))) ⟨[SV.v (.lst (ns.map .int)), .un, .un, .un], []⟩).bind _).bind _ = _
    rw [c1]
    rfl
  -- the mixing
  obtain ⟨s2, ⟨z, a3, e5⟩, e6⟩ := loopS_inv (I := fun s => ∃ z a3, s = ⟨[.v (.lst (ns.map .int)), .v (.lst (is.map .int)), .v (.int z), a3], []⟩) (ds := is.map .int)
    (f := fun d s => match tgS (.one 3) d s.l with
    | some l => evS o (.asg (.one 2) (.op2 .mod (.bi .int (.cons (.op2 .add (.op2 .mulR (.v 2) (.c (.int 16807))) (.op2 .mod (.bi .int (.cons (.v 3) .nil)) (.c (.int 2147483629)))) .nil)) (.c (.int 2147483647)))) ⟨l, s.g⟩
    | none => .no) (s := ⟨[.v (.lst (ns.map .int)), .v (.lst (is.map .int)), .v (.int 67867967), .un], []⟩) (fun d hd s hs => by
      obtain ⟨i, _, rfl⟩ := List.mem_map.mp hd
      obtain ⟨z, a3, rfl⟩ := hs
      exact ⟨_, ⟨_, _, rfl⟩, rfl⟩) ⟨_, _, rfl⟩
  subst e5
  -- the great ones
  obtain ⟨ys, s3, f1, f2, f3, f4⟩ := loopC_inv (I := fun g => g = []) (Q := fun x => ∃ i, x = D.int i) (acc := []) (g := []) (ds := is.map .int)
    (f := fun d g => (ev o (.op2 .ge (.v 3) (.op2 .pow (.c (.int 10)) (.c (.int 18)))) ⟨(wipeOwn [.v (.lst (ns.map .int)), .v (.lst (is.map .int)), .v (.int z), a3]).set 3 (.v d), g⟩).bind fun t s' => match t with
      | .bl true => (ev o (.v 3) s').bind fun x s'' => .ok (some x) s''
      | .bl false => .ok none s'
      | _ => .no) (fun d hd g hg => by
        obtain ⟨i, _, rfl⟩ := List.mem_map.mp hd
        obtain ⟨w4, hw, hw2⟩ : ∃ w4 : List SV, (wipeOwn [.v (.lst (ns.map .int)), .v (.lst (is.map .int)), .v (.int z), a3]).set 3 (.v (.int i)) = w4 ∧ w4[3]? = some (.v (.int i)) := ⟨_, rfl, by rw [List.getElem?_set_self (by rw [wipe_len]; show 3 < 4; decide)]⟩
        rw [hw]
        have v3 : ev o (.v 3) ⟨w4, g⟩ = .ok (.int i) ⟨w4, g⟩ := by
          show (match w4[3]? with
            | some (.v d) => R.ok d ⟨w4, g⟩
            | _ => .no) = _
          rw [hw2]
        have g3 : ev o (.op2 .ge (.v 3) (.op2 .pow (.c (.int 10)) (.c (.int 18)))) ⟨w4, g⟩ = .ok (.bl (decide ((10 : Int) ^ (18 : Int).toNat ≤ i))) ⟨w4, g⟩ := by
          show (ev o (.v 3) ⟨w4, g⟩).bind _ = _
          rw [v3]
          rfl
        rw [g3]
        cases decide ((10 : Int) ^ (18 : Int).toNat ≤ i) with
        | false => exact ⟨⟨w4, g⟩, hg, .inl rfl⟩
        | true =>
          refine ⟨⟨w4, g⟩, hg, .inr ⟨_, ⟨i, rfl⟩, ?_⟩⟩
          show (ev o (.v 3) ⟨w4, g⟩).bind _ = _
          rw [v3]
          rfl) rfl
  obtain ⟨js, rfl⟩ := all_ints f4
  rw [List.nil_append] at f1
  have hjl : js.length ≤ 60 := by have := f3; simp at this; omega
  have p2 : evS o (.fr (.one 3) (.it (.v 1)) (.asg (.one 2) (.op2 .mod (.bi .int (.cons (.op2 .add (.op2 .mulR (.v 2) (.c (.int 16807))) (.op2 .mod (.bi .int (.cons (.v 3) .nil)) (.c (.int 2147483629)))) .nil)) (.c (.int 2147483647))))) ⟨[.v (.lst (ns.map .int)), .v (.lst (is.map .int)), .v (.int 67867967), .un], []⟩ =
      .ok .nx ⟨[.v (.lst (ns.map .int)), .v (.lst (is.map .int)), .v (.int z), a3], []⟩ := e6
  have p3 : evS o (.ret (.mkr (.cons (.revr (.comp 3 (.it (.v 1)) (.op2 .ge (.v 3) (.op2 .pow (.c (.int 10)) (.c (.int 18)))) (.v 3))) (.cons (.v 2) .nil)))) ⟨[.v (.lst (ns.map .int)), .v (.lst (is.map .int)), .v (.int z), a3], []⟩ =
      .ok (.rt (.ref 1)) ⟨[.v (.lst (ns.map .int)), .v (.lst (is.map .int)), .v (.int z), a3], [.lst ((js.map D.int).reverse), .lst [.ref 0, .int z]]⟩ := by
    have c1 : ev o (.comp 3 (.it (.v 1)) (.op2 .ge (.v 3) (.op2 .pow (.c (.int 10)) (.c (.int 18)))) (.v 3)) ⟨[.v (.lst (ns.map .int)), .v (.lst (is.map .int)), .v (.int z), a3], []⟩ = .ok (.lst (js.map .int)) ⟨[.v (.lst (ns.map .int)), .v (.lst (is.map .int)), .v (.int z), a3], []⟩ := by
      have := ev_comp (o := o) (i := 3) (it := .it (.v 1)) (s := ⟨[.v (.lst (ns.map .int)), .v (.lst (is.map .int)), .v (.int z), a3], []⟩) (s1 := ⟨[.v (.lst (ns.map .int)), .v (.lst (is.map .int)), .v (.int z), a3], []⟩) rfl (by rw [List.length_map]; unfold big; omega) f1
      rw [this, f2]
    show (((((ev o (.comp 3 (.it (.v 1)) (.op2 .ge (.v 3) (.op2 .pow (.c (.int 10)) (.c (.int 18)))) (.v 3)) ⟨[.v (.lst (ns.map .int)), .v (.lst (is.map .int)), .v (.int z), a3], []⟩).bind _).bind _).bind _).bind _) = _
    rw [c1]
    rfl
  refine ⟨[.lst ((js.map D.int).reverse), .lst [.ref 0, .int z]], ?_, ⟨0, z, js.reverse, rfl, by simp, by decide, by simpa using hjl⟩, rfl⟩
  show ((match evS o (.par [1, 2] (.cons (.comp 3 (.it (.sl (.v 0) .nil (.cons (.c (.int 60)) .nil))) (.c (.bl true)) (.bi .abs (.cons (.v 3) .nil))) (.cons (.c (.int 67867967)) .nil))) ⟨[SV.v (.lst (ns.map .int)), .un, .un, .un], []⟩ with
    | .ok .nx s => (match evS o (.fr (.one 3) (.it (.v 1)) (.asg (.one 2) (.op2 .mod (.bi .int (.cons (.op2 .add (.op2 .mulR (.v 2) (.c (.int 16807))) (.op2 .mod (.bi .int (.cons (.v 3) .nil)) (.c (.int 2147483629)))) .nil)) (.c (.int 2147483647))))) s with
      | .ok .nx s => evS o (.ret (.mkr (.cons (.revr (.comp 3 (.it (.v 1)) (.op2 .ge (.v 3) (.op2 .pow (.c (.int 10)) (.c (.int 18)))) (.v 3))) (.cons (.v 2) .nil)))) s
      | r => r)
    | r => r) : R F).toC = _
  rw [p1]
  simp only [p2, p3]
  rfl
end Pi
namespace K04
open PySem Pi
def v_LETTERS : Pi.D := .str "abcdefghijklmnopqrstuvwxyz"
def v_RESERVED : Pi.D := .tup [.str "start", .str "go", .str "if", .str "else", .str "while", .str "see", .str "stop", .str "end", .str "barred", .str "halted", .str "never", .str "astray", .str "endless"]
def t_F_is_integer : Pi.TS := (.ret (.and (.isi (.v 0) [.int]) (.not (.isi (.v 0) [.bool]))))
def o_F_is_integer : O where
  call := fun i => match i with
    | _ => fun _ _ => .no
  init := fun i => match i with
    | _ => fun _ _ => .no
  meth := fun _ _ => none
  cont := fun i => match i with
    | _ => none
  sub := fun i j => i == j
def m_F_is_integer (ds : List D) (gl : List MO) : Pi.C := runD o_F_is_integer 1 t_F_is_integer ds gl
def t_F_is_count : Pi.TS := (.ret (.and (.call 0 (.cons (.v 0) .nil) []) (.op2 .ge (.v 0) (.v 1))))
def o_F_is_count : O where
  call := fun i => match i with
    | 0 => m_F_is_integer
    | _ => fun _ _ => .no
  init := fun i => match i with
    | _ => fun _ _ => .no
  meth := fun _ _ => none
  cont := fun i => match i with
    | _ => none
  sub := fun i j => i == j
def m_F_is_count (ds : List D) (gl : List MO) : Pi.C := runD o_F_is_count 2 t_F_is_count ds gl
def t_F_is_cell : Pi.TS := (.seq (.ite (.or (.not (.isi (.v 0) [.tuple])) (.op2 .ne (.bi .len (.cons (.v 0) .nil)) (.c (.int 2)))) (.ret (.c (.bl false))) .nil)
    (.ret (.and (.call 0 (.cons (.ix (.v 0) (.c (.int 0))) .nil) []) (.call 0 (.cons (.ix (.v 0) (.c (.int 1))) .nil) []))))
def o_F_is_cell : O where
  call := fun i => match i with
    | 0 => m_F_is_integer
    | _ => fun _ _ => .no
  init := fun i => match i with
    | _ => fun _ _ => .no
  meth := fun _ _ => none
  cont := fun i => match i with
    | _ => none
  sub := fun i j => i == j
def m_F_is_cell (ds : List D) (gl : List MO) : Pi.C := runD o_F_is_cell 1 t_F_is_cell ds gl
def t_F_is_name : Pi.TS := (.seq (.ite (.or (.not (.isi (.v 0) [.str])) (.inr false (.v 0) (.gl v_RESERVED))) (.ret (.c (.bl false))) .nil)
    (.ret (.and (.ch .le .le (.c (.int 1)) (.bi .len (.cons (.v 0) .nil)) (.c (.int 6))) (.bi .all (.cons (.comp 1 (.its (.v 0)) (.c (.bl true)) (.op2 .inS (.v 1) (.gl v_LETTERS))) .nil)))))
def o_F_is_name : O where
  call := fun i => match i with
    | _ => fun _ _ => .no
  init := fun i => match i with
    | _ => fun _ _ => .no
  meth := fun _ _ => none
  cont := fun i => match i with
    | _ => none
  sub := fun i j => i == j
def m_F_is_name (ds : List D) (gl : List MO) : Pi.C := runD o_F_is_name 2 t_F_is_name ds gl
def t_F_lies_within : Pi.TS := (.ret (.and (.ch .le .le (.ix (.v 1) (.c (.int 0))) (.ix (.v 0) (.c (.int 0))) (.ix (.v 2) (.c (.int 0)))) (.ch .le .le (.ix (.v 1) (.c (.int 1))) (.ix (.v 0) (.c (.int 1))) (.ix (.v 2) (.c (.int 1))))))
def o_F_lies_within : O where
  call := fun i => match i with
    | _ => fun _ _ => .no
  init := fun i => match i with
    | _ => fun _ _ => .no
  meth := fun _ _ => none
  cont := fun i => match i with
    | _ => none
  sub := fun i j => i == j
def m_F_lies_within (ds : List D) (gl : List MO) : Pi.C := runD o_F_lies_within 3 t_F_lies_within ds gl
def t_F__check_rectangle : Pi.TS := (.seq (.ite (.not (.call 3 (.cons (.v 0) .nil) [])) (.ex .nil) .nil)
    (.seq (.ite (.not (.call 2 (.cons (.v 1) .nil) [])) (.ex .nil) .nil)
    (.ite (.or (.not (.call 2 (.cons (.v 2) .nil) [])) (.or (.op2 .lt (.ix (.v 2) (.c (.int 0))) (.ix (.v 1) (.c (.int 0)))) (.op2 .lt (.ix (.v 2) (.c (.int 1))) (.ix (.v 1) (.c (.int 1)))))) (.ex .nil) .nil)))
def o_F__check_rectangle : O where
  call := fun i => match i with
    | 3 => m_F_is_name
    | 2 => m_F_is_cell
    | _ => fun _ _ => .no
  init := fun i => match i with
    | _ => fun _ _ => .no
  meth := fun _ _ => none
  cont := fun i => match i with
    | _ => none
  sub := fun i j => i == j
def m_F__check_rectangle (ds : List D) (gl : List MO) : Pi.C := runD o_F__check_rectangle 3 t_F__check_rectangle ds gl
def t_F_Room___init__ : Pi.TS := (.seq (.ex (.call 11 (.cons (.v 1) (.cons (.v 2) (.cons (.v 3) .nil))) []))
    (.seq (.ite (.not (.isi (.v 4) [.bool])) (.ex .nil) .nil)
    (.seq (.setF 0 0 (.v 1))
    (.seq (.setF 0 1 (.v 2))
    (.seq (.setF 0 2 (.v 3))
    (.setF 0 3 (.v 4)))))))
def o_F_Room___init__ : O where
  call := fun i => match i with
    | 11 => m_F__check_rectangle
    | _ => fun _ _ => .no
  init := fun i => match i with
    | _ => fun _ _ => .no
  meth := fun _ _ => none
  cont := fun i => match i with
    | _ => none
  sub := fun i j => i == j
def m_F_Room___init__ (ds : List D) (gl : List MO) : Pi.CI := runN o_F_Room___init__ 5 0 t_F_Room___init__ ds gl
def t_F_Room___contains__ : Pi.TS := (.ret (.and (.call 2 (.cons (.v 1) .nil) []) (.call 4 (.cons (.v 1) (.cons (.fld (.v 0) 1) (.cons (.fld (.v 0) 2) .nil))) [])))
def o_F_Room___contains__ : O where
  call := fun i => match i with
    | 2 => m_F_is_cell
    | 4 => m_F_lies_within
    | _ => fun _ _ => .no
  init := fun i => match i with
    | _ => fun _ _ => .no
  meth := fun _ _ => none
  cont := fun i => match i with
    | _ => none
  sub := fun i j => i == j
def m_F_Room___contains__ (ds : List D) (gl : List MO) : Pi.C := runD o_F_Room___contains__ 2 t_F_Room___contains__ ds gl
def t_F_Mark___init__ : Pi.TS := (.seq (.ex (.call 11 (.cons (.v 1) (.cons (.v 2) (.cons (.v 3) .nil))) []))
    (.seq (.ite (.not (.call 1 (.cons (.v 4) (.cons (.c (.int 0)) .nil)) [])) (.ex .nil) .nil)
    (.seq (.setF 1 0 (.v 1))
    (.seq (.setF 1 1 (.v 2))
    (.seq (.setF 1 2 (.v 3))
    (.setF 1 4 (.v 4)))))))
def o_F_Mark___init__ : O where
  call := fun i => match i with
    | 11 => m_F__check_rectangle
    | 1 => m_F_is_count
    | _ => fun _ _ => .no
  init := fun i => match i with
    | _ => fun _ _ => .no
  meth := fun _ _ => none
  cont := fun i => match i with
    | _ => none
  sub := fun i j => i == j
def m_F_Mark___init__ (ds : List D) (gl : List MO) : Pi.CI := runN o_F_Mark___init__ 5 1 t_F_Mark___init__ ds gl
def t_F_Mark___contains__ : Pi.TS := (.ret (.and (.call 2 (.cons (.v 1) .nil) []) (.call 4 (.cons (.v 1) (.cons (.fld (.v 0) 1) (.cons (.fld (.v 0) 2) .nil))) [])))
def o_F_Mark___contains__ : O where
  call := fun i => match i with
    | 2 => m_F_is_cell
    | 4 => m_F_lies_within
    | _ => fun _ _ => .no
  init := fun i => match i with
    | _ => fun _ _ => .no
  meth := fun _ _ => none
  cont := fun i => match i with
    | _ => none
  sub := fun i j => i == j
def m_F_Mark___contains__ (ds : List D) (gl : List MO) : Pi.C := runD o_F_Mark___contains__ 2 t_F_Mark___contains__ ds gl
def t_F__law_deal : Pi.TS := (.seq (.par [1, 2] (.cons (.comp 3 (.it (.sl (.v 0) .nil (.cons (.c (.int 60)) .nil))) (.c (.bl true)) (.bi .abs (.cons (.v 3) .nil))) (.cons (.c (.int 67867967)) .nil)))
    (.seq (.fr (.one 3) (.it (.v 1)) (.asg (.one 2) (.op2 .mod (.bi .int (.cons (.op2 .add (.op2 .mulR (.v 2) (.c (.int 16807))) (.op2 .mod (.bi .int (.cons (.v 3) .nil)) (.c (.int 2147483629)))) .nil)) (.c (.int 2147483647)))))
    (.ret (.mkr (.cons (.revr (.comp 3 (.it (.v 1)) (.op2 .ge (.v 3) (.op2 .pow (.c (.int 10)) (.c (.int 18)))) (.v 3))) (.cons (.v 2) .nil))))))
def o_F__law_deal : O where
  call := fun i => match i with
    | _ => fun _ _ => .no
  init := fun i => match i with
    | _ => fun _ _ => .no
  meth := fun _ _ => none
  cont := fun i => match i with
    | _ => none
  sub := fun i j => i == j
def m_F__law_deal (ds : List D) (gl : List MO) : Pi.C := runD o_F__law_deal 4 t_F__law_deal ds gl
def t_F__law_draw : Pi.TS := (.seq (.whl 64 (.and (.op2 .ne (.ix (.v 0) (.c (.int 0))) (.lst .nil)) (.op2 .eq (.ix (.ix (.v 0) (.c (.int 0))) (.neg (.c (.int 1)))) (.c (.int 0)))) (.ex (.popr (.ix (.v 0) (.c (.int 0))))))
    (.seq (.ite (.op2 .ne (.ix (.v 0) (.c (.int 0))) (.lst .nil)) (.seq (.asg (.one 2) (.popr (.ix (.v 0) (.c (.int 0)))))
    (.seq (.appr (.ix (.v 0) (.c (.int 0))) (.op2 .fdiv (.v 2) (.v 1)))
    (.ret (.op2 .mod (.bi .int (.cons (.v 2) .nil)) (.v 1))))) .nil)
    (.seq (.setr (.v 0) (.c (.int 1)) (.op2 .mod (.bi .int (.cons (.op2 .add (.op2 .mulR (.ix (.v 0) (.c (.int 1))) (.c (.int 48271))) (.c (.int 11))) .nil)) (.c (.int 2147483647))))
    (.ret (.op2 .mod (.bi .int (.cons (.op2 .fdiv (.ix (.v 0) (.c (.int 1))) (.c (.int 8))) .nil)) (.v 1))))))
def o_F__law_draw : O where
  call := fun i => match i with
    | _ => fun _ _ => .no
  init := fun i => match i with
    | _ => fun _ _ => .no
  meth := fun _ _ => none
  cont := fun i => match i with
    | _ => none
  sub := fun i j => i == j
def m_F__law_draw (ds : List D) (gl : List MO) : Pi.C := runD o_F__law_draw 3 t_F__law_draw ds gl
def t_F__law_pick : Pi.TS := (.ret (.ix (.v 1) (.call 13 (.cons (.v 0) (.cons (.bi .len (.cons (.v 1) .nil)) .nil)) [])))
def o_F__law_pick : O where
  call := fun i => match i with
    | 13 => m_F__law_draw
    | _ => fun _ _ => .no
  init := fun i => match i with
    | _ => fun _ _ => .no
  meth := fun _ _ => none
  cont := fun i => match i with
    | _ => none
  sub := fun i j => i == j
def m_F__law_pick (ds : List D) (gl : List MO) : Pi.C := runD o_F__law_pick 2 t_F__law_pick ds gl
def t_F__law_any : Pi.TS := (.seq (.asg (.one 2) (.call 13 (.cons (.v 0) (.cons (.c (.int 11)) .nil)) []))
    (.seq (.ite (.and (.op2 .gt (.v 1) (.c (.int 0))) (.op2 .lt (.v 2) (.c (.int 4)))) (.seq (.asg (.one 3) (.comp 4 (.rng1 (.call 13 (.cons (.v 0) (.cons (.c (.int 4)) .nil)) [])) (.c (.bl true)) (.call 15 (.cons (.v 0) (.cons (.op2 .sub (.v 1) (.c (.int 1))) .nil)) [])))
    (.ret (.ite (.op2 .lt (.v 2) (.c (.int 2))) (.bi .tuple (.cons (.v 3) .nil)) (.v 3)))) .nil)
    (.seq (.ite (.op2 .lt (.v 2) (.c (.int 7))) (.ret (.call 14 (.cons (.v 0) (.cons (.lst (.cons (.c (.int 0)) (.cons (.c (.int 1)) (.cons (.neg (.c (.int 1))) (.cons (.c (.int 3)) (.cons (.op2 .pow (.c (.int 10)) (.c (.int 20))) (.cons (.c (.bl true)) (.cons (.c (.bl false)) (.cons (.c .non) .nil))))))))) .nil)) [])) .nil)
    (.ret (.call 14 (.cons (.v 0) (.cons (.lst (.cons (.c (.str "")) (.cons (.c (.str "east")) (.cons (.c (.str "x < 3")) (.cons (.c (.str "goal")) (.cons (.c (.str "go")) (.cons (.c (.str "barred")) (.cons (.c (.str "start")) (.cons (.c (.str "Lamp")) (.cons (.c (.str " ")) (.cons (.c (.str "sevenly")) .nil))))))))))) .nil)) [])))))
def o_F__law_any (m : List D → List MO → Pi.C) : O where
  call := fun i => match i with
    | 13 => m_F__law_draw
    | 15 => m
    | 14 => m_F__law_pick
    | _ => fun _ _ => .no
  init := fun i => match i with
    | _ => fun _ _ => .no
  meth := fun _ _ => none
  cont := fun i => match i with
    | _ => none
  sub := fun i j => i == j
def m_F__law_any : Nat → List D → List MO → Pi.C
  | 0 => fun _ _ => .no
  | n + 1 => runD (o_F__law_any (m_F__law_any n)) 5 t_F__law_any
def t_F_law : Pi.TS := (.seq (.asg (.one 1) (.call 12 (.cons (.v 0) .nil) []))
    (.seq (.fr (.one 2) (.rng1 (.c (.int 4))) (.seq (.asg (.one 3) (.tup (.cons (.op2 .sub (.call 13 (.cons (.v 1) (.cons (.c (.int 7)) .nil)) []) (.c (.int 3))) (.cons (.op2 .sub (.call 13 (.cons (.v 1) (.cons (.c (.int 7)) .nil)) []) (.c (.int 3))) .nil))))
    (.seq (.asg (.one 4) (.tup (.cons (.op2 .add (.ix (.v 3) (.c (.int 0))) (.call 13 (.cons (.v 1) (.cons (.c (.int 4)) .nil)) [])) (.cons (.op2 .add (.ix (.v 3) (.c (.int 1))) (.call 13 (.cons (.v 1) (.cons (.c (.int 4)) .nil)) [])) .nil))))
    (.fr (.one 5) (.it (.tup (.cons (.mk 0 (.cons (.c (.str "a")) (.cons (.v 3) (.cons (.v 4) (.cons (.op2 .eq (.call 13 (.cons (.v 1) (.cons (.c (.int 2)) .nil)) []) (.c (.int 0))) .nil)))) []) (.cons (.mk 1 (.cons (.c (.str "a")) (.cons (.v 3) (.cons (.v 4) (.cons (.c (.int 2)) .nil)))) []) .nil)))) (.seq (.fr (.one 6) (.rng2 (.op2 .sub (.ix (.v 3) (.c (.int 0))) (.c (.int 2))) (.op2 .add (.ix (.v 4) (.c (.int 0))) (.c (.int 3)))) (.fr (.one 7) (.rng2 (.op2 .sub (.ix (.v 3) (.c (.int 1))) (.c (.int 2))) (.op2 .add (.ix (.v 4) (.c (.int 1))) (.c (.int 3)))) (.ite (.op2 .ne (.bi .repr (.cons (.ino false (.tup (.cons (.v 6) (.cons (.v 7) .nil))) (.v 5)) .nil)) (.bi .repr (.cons (.and (.ch .le .le (.ix (.v 3) (.c (.int 0))) (.v 6) (.ix (.v 4) (.c (.int 0)))) (.ch .le .le (.ix (.v 3) (.c (.int 1))) (.v 7) (.ix (.v 4) (.c (.int 1))))) .nil))) (.ret (.c (.bl false))) .nil)))
    (.seq (.mko 8 (.cons (.c .non) (.cons (.c (.int 0)) (.cons (.c (.str "a")) (.cons (.tup .nil) (.cons (.sl (.v 3) .nil (.cons (.c (.int 1)) .nil)) (.cons (.op2 .cat (.v 3) (.v 4)) (.cons (.lst (.cons (.ix (.v 3) (.c (.int 0))) (.cons (.ix (.v 3) (.c (.int 1))) .nil))) (.cons (.tup (.cons (.tup (.cons (.ix (.v 3) (.c (.int 0))) (.cons (.ix (.v 3) (.c (.int 1))) .nil))) .nil)) .nil)))))))))
    (.seq (.app 8 (.tup (.cons (.bi .str (.cons (.ix (.v 3) (.c (.int 0))) .nil)) (.cons (.ix (.v 3) (.c (.int 1))) .nil))))
    (.seq (.ext 8 (.cons (.tup (.cons (.ix (.v 3) (.c (.int 0))) (.cons (.c .non) .nil))) (.cons (.v 5) (.cons (.ite (.op2 .eq (.v 3) (.tup (.cons (.c (.int 1)) (.cons (.c (.int 1)) .nil)))) (.tup (.cons (.c (.bl true)) (.cons (.c (.bl true)) .nil))) (.tup (.cons (.op2 .sub (.ix (.v 3) (.c (.int 0))) (.c (.int 1))) (.cons (.c (.bl false)) .nil)))) .nil))))
    (.seq (.frz 8) (.seq (.ite (.op2 .ne (.comp 10 (.it (.v 8)) (.ino false (.v 10) (.v 5)) (.v 10)) (.lst .nil)) (.ret (.c (.bl false))) .nil)
    (.fr (.one 9) (.rng1 (.c (.int 4))) (.seq (.asg (.one 10) (.lst (.cons (.call 15 (.cons (.v 1) (.cons (.c (.int 4)) .nil)) []) .nil)))
    (.ite (.or (.ino false (.v 10) (.v 5)) (.or (.ino false (.bi .tuple (.cons (.v 10) .nil)) (.v 5)) (.ino false (.tup (.cons (.ix (.v 3) (.c (.int 0))) (.cons (.ix (.v 3) (.c (.int 1))) (.cons (.v 10) .nil)))) (.v 5)))) (.ret (.c (.bl false))) .nil)))))))))))))
    (.ret (.and (.ino false (.tup (.cons (.c (.int 1)) (.cons (.c (.int 1)) .nil))) (.mk 0 (.cons (.c (.str "a")) (.cons (.tup (.cons (.c (.int 1)) (.cons (.c (.int 1)) .nil))) (.cons (.tup (.cons (.c (.int 1)) (.cons (.c (.int 1)) .nil))) .nil))) [.bl false])) (.ino true (.tup (.cons (.c (.bl true)) (.cons (.c (.int 1)) .nil))) (.mk 0 (.cons (.c (.str "a")) (.cons (.tup (.cons (.c (.int 1)) (.cons (.c (.int 1)) .nil))) (.cons (.tup (.cons (.c (.int 1)) (.cons (.c (.int 1)) .nil))) .nil))) [.bl false]))))))
def o_F_law : O where
  call := fun i => match i with
    | 12 => m_F__law_deal
    | 13 => m_F__law_draw
    | 6 => m_F_Room___contains__
    | 9 => m_F_Mark___contains__
    | 15 => m_F__law_any 5
    | _ => fun _ _ => .no
  init := fun i => match i with
    | 0 => m_F_Room___init__
    | 1 => m_F_Mark___init__
    | _ => fun _ _ => .no
  meth := fun _ _ => none
  cont := fun i => match i with
    | 0 => some 6
    | 1 => some 9
    | _ => none
  sub := fun i j => i == j
def m_F_law (ds : List D) (gl : List MO) : Pi.C := runD o_F_law 11 t_F_law ds gl
end K04
namespace K04
open PySem L2 Pi
def top (i : Nat) : Stmt := PySem.Challenge.pw_slipsights_k04_cells_in_rooms_and_marks.main.body.getD i (.Pass ⟨0, 0, 0, 0⟩)
structure Ad where
  c_Room : Addr
  c_Mark : Addr
  F_is_integer : Addr
  F_is_count : Addr
  F_is_cell : Addr
  F_is_name : Addr
  F_lies_within : Addr
  F_Room___init__ : Addr
  F_Room___contains__ : Addr
  F_Mark___init__ : Addr
  F_Mark___contains__ : Addr
  F__check_rectangle : Addr
  F__law_deal : Addr
  F__law_draw : Addr
  F__law_pick : Addr
  F__law_any : Addr
  F_law : Addr
  a_RESERVED : Addr
/-- what the top has written -/
structure Txt (K : PySem.W.Frag) (mg : Str → Option Value) (a : Ad) : Prop where
  ogc : PySem.W.specialIn K (.builtin "object.__class__") "__get__" = some (some (.builtin "getset_descriptor.__get__"))
  otk : PySem.W.takesIn K (.builtin "object.__class__") = some true
  cls_Room : ClsF K a.c_Room
  mg_Room : mg "Room" = some (.ref a.c_Room)
  mk_Room : Mk K a.c_Room a.F_Room___init__
  kt_Room_int : PySem.W.kitOne K (.ref a.c_Room) (.type "int") = some false
  kt_Room_bool : PySem.W.kitOne K (.ref a.c_Room) (.type "bool") = some false
  kt_Room_tuple : PySem.W.kitOne K (.ref a.c_Room) (.type "tuple") = some false
  kt_Room_str : PySem.W.kitOne K (.ref a.c_Room) (.type "str") = some false
  na_Room_name : NoAttr K a.c_Room "name"
  na_Room_low : NoAttr K a.c_Room "low"
  na_Room_high : NoAttr K a.c_Room "high"
  na_Room_barred : NoAttr K a.c_Room "barred"
  cls_Mark : ClsF K a.c_Mark
  mg_Mark : mg "Mark" = some (.ref a.c_Mark)
  mk_Mark : Mk K a.c_Mark a.F_Mark___init__
  kt_Mark_int : PySem.W.kitOne K (.ref a.c_Mark) (.type "int") = some false
  kt_Mark_bool : PySem.W.kitOne K (.ref a.c_Mark) (.type "bool") = some false
  kt_Mark_tuple : PySem.W.kitOne K (.ref a.c_Mark) (.type "tuple") = some false
  kt_Mark_str : PySem.W.kitOne K (.ref a.c_Mark) (.type "str") = some false
  na_Mark_name : NoAttr K a.c_Mark "name"
  na_Mark_low : NoAttr K a.c_Mark "low"
  na_Mark_high : NoAttr K a.c_Mark "high"
  na_Mark_blur : NoAttr K a.c_Mark "blur"
  df_F_is_integer : Def K a.F_is_integer "is_integer" "is_integer" (top 3) ["value"] []
  mg_F_is_integer : mg "is_integer" = some (.ref a.F_is_integer)
  kp_F_is_integer : PySem.W.keepIn K (.ref a.F_is_integer) = true
  df_F_is_count : Def K a.F_is_count "is_count" "is_count" (top 4) ["value", "least"] []
  mg_F_is_count : mg "is_count" = some (.ref a.F_is_count)
  kp_F_is_count : PySem.W.keepIn K (.ref a.F_is_count) = true
  df_F_is_cell : Def K a.F_is_cell "is_cell" "is_cell" (top 5) ["value"] []
  mg_F_is_cell : mg "is_cell" = some (.ref a.F_is_cell)
  kp_F_is_cell : PySem.W.keepIn K (.ref a.F_is_cell) = true
  df_F_is_name : Def K a.F_is_name "is_name" "is_name" (top 6) ["value"] []
  mg_F_is_name : mg "is_name" = some (.ref a.F_is_name)
  kp_F_is_name : PySem.W.keepIn K (.ref a.F_is_name) = true
  df_F_lies_within : Def K a.F_lies_within "lies_within" "lies_within" (top 7) ["cell", "low", "high"] []
  mg_F_lies_within : mg "lies_within" = some (.ref a.F_lies_within)
  kp_F_lies_within : PySem.W.keepIn K (.ref a.F_lies_within) = true
  df_F_Room___init__ : Def K a.F_Room___init__ "__init__" "Room.__init__" (inClass (top 12) 0) ["self", "name", "low", "high", "barred"] [V.bl false]
  df_F_Room___contains__ : Def K a.F_Room___contains__ "__contains__" "Room.__contains__" (inClass (top 12) 1) ["self", "cell"] []
  sl_F_Room___contains__ : Slot K a.c_Room "__contains__" a.F_Room___contains__
  df_F_Mark___init__ : Def K a.F_Mark___init__ "__init__" "Mark.__init__" (inClass (top 13) 0) ["self", "name", "low", "high", "blur"] []
  df_F_Mark___contains__ : Def K a.F_Mark___contains__ "__contains__" "Mark.__contains__" (inClass (top 13) 1) ["self", "cell"] []
  sl_F_Mark___contains__ : Slot K a.c_Mark "__contains__" a.F_Mark___contains__
  df_F__check_rectangle : Def K a.F__check_rectangle "_check_rectangle" "_check_rectangle" (top 14) ["name", "low", "high"] []
  mg_F__check_rectangle : mg "_check_rectangle" = some (.ref a.F__check_rectangle)
  kp_F__check_rectangle : PySem.W.keepIn K (.ref a.F__check_rectangle) = true
  df_F__law_deal : Def K a.F__law_deal "_law_deal" "_law_deal" (top 16) ["_law_script"] []
  mg_F__law_deal : mg "_law_deal" = some (.ref a.F__law_deal)
  kp_F__law_deal : PySem.W.keepIn K (.ref a.F__law_deal) = true
  df_F__law_draw : Def K a.F__law_draw "_law_draw" "_law_draw" (top 17) ["_law_deal_here", "_law_many"] []
  mg_F__law_draw : mg "_law_draw" = some (.ref a.F__law_draw)
  kp_F__law_draw : PySem.W.keepIn K (.ref a.F__law_draw) = true
  df_F__law_pick : Def K a.F__law_pick "_law_pick" "_law_pick" (top 18) ["_law_deal_here", "_law_some"] []
  mg_F__law_pick : mg "_law_pick" = some (.ref a.F__law_pick)
  kp_F__law_pick : PySem.W.keepIn K (.ref a.F__law_pick) = true
  df_F__law_any : Def K a.F__law_any "_law_any" "_law_any" (top 19) ["_law_deal_here", "_law_deep"] []
  mg_F__law_any : mg "_law_any" = some (.ref a.F__law_any)
  kp_F__law_any : PySem.W.keepIn K (.ref a.F__law_any) = true
  df_F_law : Def K a.F_law "law" "law" (top 20) ["_law_script"] []
  mg_F_law : mg "law" = some (.ref a.F_law)
  kp_F_law : PySem.W.keepIn K (.ref a.F_law) = true
  b_isinstance : mg "isinstance" = none
  b_int : mg "int" = none
  b_bool : mg "bool" = none
  b_tuple : mg "tuple" = none
  b_len : mg "len" = none
  b_str : mg "str" = none
  b_all : mg "all" = none
  b_abs : mg "abs" = none
  b_range : mg "range" = none
  b_repr : mg "repr" = none
  g_LETTERS : ∃ t, mg "LETTERS" = some (.str "abcdefghijklmnopqrstuvwxyz" t)
  g_RESERVED : mg "RESERVED" = some (.ref a.a_RESERVED)
  q_RESERVED : ∀ S, SqT K S a.a_RESERVED [V.str "start", V.str "go", V.str "if", V.str "else", V.str "while", V.str "see", V.str "stop", V.str "end", V.str "barred", V.str "halted", V.str "never", V.str "astray", V.str "endless"]
section
variable {P : Program} {w : World} {K : PySem.W.Frag} {mg : Str → Option Value} {base : Heap} {a : Ad}
def atN : Nat → Str
  | 0 => "name"
  | 1 => "low"
  | 2 => "high"
  | 3 => "barred"
  | 4 => "blur"
  | _ => ""
def clN (a : Ad) : Nat → Addr
  | 0 => a.c_Room
  | 1 => a.c_Mark
  | _ => a.c_Room
def coN : Nat → Bool
  | 0 => true
  | 1 => true
  | _ => false
def foN : Nat → Nat → Bool
  | 0, 0 => true
  | 0, 1 => true
  | 0, 2 => true
  | 0, 3 => true
  | 1, 0 => true
  | 1, 1 => true
  | 1, 2 => true
  | 1, 4 => true
  | _, _ => false
theorem inj_at0 : ∀ i, i < 5 → ∀ j, j < 5 → atN i = atN j → i = j := by decide +kernel
theorem inj_at : ∀ i j, i < 5 → j < 5 → atN i = atN j → i = j := fun i j hi hj h => inj_at0 i hi j hj h
theorem cokN (T : Txt K mg a) : ∀ c, coN c = true → Cls K (clN a c) ∧ PySem.W.findIn K (.ref (clN a c)) "__class__" = some (some (.builtin "object.__class__")) ∧ PySem.W.specialIn K (.builtin "object.__class__") "__get__" = some (some (.builtin "getset_descriptor.__get__")) ∧
    PySem.W.takesIn K (.builtin "object.__class__") = some true ∧ PySem.W.mroIn K (clN a c) (.type "object") = some true
  | 0, _ => ⟨T.cls_Room.cls, T.cls_Room.gc, T.ogc, T.otk, T.cls_Room.mro⟩
  | 1, _ => ⟨T.cls_Mark.cls, T.cls_Mark.gc, T.ogc, T.otk, T.cls_Mark.mro⟩
  | _ + 2, h => by cases h
theorem fokN (T : Txt K mg a) : ∀ c n, foN c n = true → n < 5 ∧ NoAttr K (clN a c) (atN n)
  | 0, 0, h => ⟨by decide, T.na_Room_name⟩
  | 0, 1, h => ⟨by decide, T.na_Room_low⟩
  | 0, 2, h => ⟨by decide, T.na_Room_high⟩
  | 0, 3, h => ⟨by decide, T.na_Room_barred⟩
  | 0, 4, h => by cases h
  | 0, _ + 5, h => by cases h
  | 1, 0, h => ⟨by decide, T.na_Mark_name⟩
  | 1, 1, h => ⟨by decide, T.na_Mark_low⟩
  | 1, 2, h => ⟨by decide, T.na_Mark_high⟩
  | 1, 3, h => by cases h
  | 1, 4, h => ⟨by decide, T.na_Mark_blur⟩
  | 1, _ + 5, h => by cases h
  | _ + 2, _, h => by cases h
abbrev EN (T : Txt K mg a) : En := ⟨K, clN a, atN, 5, inj_at, coN, cokN T, foN, fokN T⟩
theorem kit_int (T : Txt K mg a) {o : O} {W : WX} : Kit ⟨EN T, o, W⟩ .int := kit_of rfl fun
  | 0, _ => T.kt_Room_int
  | 1, _ => T.kt_Mark_int
  | _ + 2, h => by cases h
theorem kit_bool (T : Txt K mg a) {o : O} {W : WX} : Kit ⟨EN T, o, W⟩ .bool := kit_of rfl fun
  | 0, _ => T.kt_Room_bool
  | 1, _ => T.kt_Mark_bool
  | _ + 2, h => by cases h
theorem kit_tuple (T : Txt K mg a) {o : O} {W : WX} : Kit ⟨EN T, o, W⟩ .tuple := kit_of rfl fun
  | 0, _ => T.kt_Room_tuple
  | 1, _ => T.kt_Mark_tuple
  | _ + 2, h => by cases h
theorem kit_str (T : Txt K mg a) {o : O} {W : WX} : Kit ⟨EN T, o, W⟩ .str := kit_of rfl fun
  | 0, _ => T.kt_Room_str
  | 1, _ => T.kt_Mark_str
  | _ + 2, h => by cases h
theorem gl_LETTERS (T : Txt K mg a) {o : O} {W : WX} {X : Cx} {pos : Pos} (hg : Gl X "LETTERS" := by rfl) (hm : X.mg = mg := by rfl) : PEI ⟨EN T, o, W⟩ X (.Name "LETTERS" pos) (.gl v_LETTERS) := by
  obtain ⟨t, h⟩ := T.g_LETTERS
  exact pi_gl (v := .str "abcdefghijklmnopqrstuvwxyz") (u := .str "abcdefghijklmnopqrstuvwxyz" t) hg (by rw [hm]; exact h) ⟨t, rfl⟩ fun _ _ => .str _
theorem gl_RESERVED (T : Txt K mg a) {o : O} {W : WX} {X : Cx} {pos : Pos} (hg : Gl X "RESERVED" := by rfl) (hm : X.mg = mg := by rfl) : PEI ⟨EN T, o, W⟩ X (.Name "RESERVED" pos) (.gl v_RESERVED) :=
  pi_gl (v := .ref a.a_RESERVED) (u := .ref a.a_RESERVED) hg (by rw [hm]; exact T.g_RESERVED) rfl fun S _ => .tup (T.q_RESERVED S) (Dfl.reps (Dfl.str "start" (Dfl.str "go" (Dfl.str "if" (Dfl.str "else" (Dfl.str "while" (Dfl.str "see" (Dfl.str "stop" (Dfl.str "end" (Dfl.str "barred" (Dfl.str "halted" (Dfl.str "never" (Dfl.str "astray" (Dfl.str "endless" Dfl.nil))))))))))))))
theorem sc_F_is_integer : FnScope ["value"] ["value"] (defScope (top 3)) := ⟨rfl, rfl, rfl, by decide +kernel, rfl, by decide +kernel, by decide +kernel⟩
theorem b_F_is_integer (T : Txt K mg a) : ∀ (cdv : Value) (A : Around) (outer : List Env) (s : Shared) (H : Hp) (Z : XK), Room 0 (A.deeper (PyProof.Rows.envOfC "is_integer" (defScope (top 3)) s.heap.objs.size a.F_is_integer cdv)) →
    PSsI ⟨EN T, o_F_is_integer, WZ Z⟩ (cxOf (L2.CX P w) P w K mg base ["value"] "is_integer" (defScope (top 3)) a.F_is_integer cdv A outer s H Z) (defBody (top 3)) t_F_is_integer := by
  intro cdv A outer s H Z hr
  exact (psi_one (psi_ret (pi_and (pi_isi rfl (kit_int T) rfl T.b_isinstance (pi_v 0) (pe_bltn rfl T.b_int rfl rfl)) (pi_one (pi_not (pi_isi rfl (kit_bool T) rfl T.b_isinstance (pi_v 0) (pe_bltn rfl T.b_bool rfl rfl)))))))
theorem sc_F_is_count : FnScope ["value", "least"] ["value", "least"] (defScope (top 4)) := ⟨rfl, rfl, rfl, by decide +kernel, rfl, by decide +kernel, by decide +kernel⟩
theorem b_F_is_count (T : Txt K mg a) (G_is_integer : Good P w K mg base (EN T) 1 a.F_is_integer ["value"] [] 1 m_F_is_integer) : ∀ (cdv : Value) (A : Around) (outer : List Env) (s : Shared) (H : Hp) (Z : XK), Room 1 (A.deeper (PyProof.Rows.envOfC "is_count" (defScope (top 4)) s.heap.objs.size a.F_is_count cdv)) →
    PSsI ⟨EN T, o_F_is_count, WZ Z⟩ (cxOf (L2.CX P w) P w K mg base ["value", "least"] "is_count" (defScope (top 4)) a.F_is_count cdv A outer s H Z) (defBody (top 4)) t_F_is_count := by
  intro cdv A outer s H Z hr
  exact (psi_one (psi_ret (pi_and (pi_call (takes_of rfl rfl rfl rfl) (G_is_integer.callee (hr.mono (by decide)) T.mg_F_is_integer T.kp_F_is_integer 0 (by decide) (by exact Dfl.nil)) rfl (pai_cons (pi_v 0) pai_nil)) (pi_one (pi_cmp opi_ge (pi_v 0) (pi_v 1) (by rfl))))))
theorem sc_F_is_cell : FnScope ["value"] ["value"] (defScope (top 5)) := ⟨rfl, rfl, rfl, by decide +kernel, rfl, by decide +kernel, by decide +kernel⟩
theorem b_F_is_cell (T : Txt K mg a) (G_is_integer : Good P w K mg base (EN T) 1 a.F_is_integer ["value"] [] 1 m_F_is_integer) : ∀ (cdv : Value) (A : Around) (outer : List Env) (s : Shared) (H : Hp) (Z : XK), Room 1 (A.deeper (PyProof.Rows.envOfC "is_cell" (defScope (top 5)) s.heap.objs.size a.F_is_cell cdv)) →
    PSsI ⟨EN T, o_F_is_cell, WZ Z⟩ (cxOf (L2.CX P w) P w K mg base ["value"] "is_cell" (defScope (top 5)) a.F_is_cell cdv A outer s H Z) (defBody (top 5)) t_F_is_cell := by
  intro cdv A outer s H Z hr
  exact (psi_cons (psi_if (pit_w (pwi_or (pit_not (pit_val (pi_isi rfl (kit_tuple T) rfl T.b_isinstance (pi_v 0) (pe_bltn rfl T.b_tuple rfl rfl)))) (pwi_or1 (pit_cmp (opi_ne rfl (hu64 hr)) (pi_bi (bii_len rfl) rfl T.b_len rfl (pai_cons (pi_v 0) pai_nil)) pi_int (by rfl))))) (psi_one (psi_ret pi_bl)) psi_nil)
    (psi_one (psi_ret (pi_and (pi_call (takes_of rfl rfl rfl rfl) (G_is_integer.callee (hr.mono (by decide)) T.mg_F_is_integer T.kp_F_is_integer 0 (by decide) (by exact Dfl.nil)) rfl (pai_cons (pi_ix rfl (pi_v 0) pi_int) pai_nil)) (pi_one (pi_call (takes_of rfl rfl rfl rfl) (G_is_integer.callee (hr.mono (by decide)) T.mg_F_is_integer T.kp_F_is_integer 0 (by decide) (by exact Dfl.nil)) rfl (pai_cons (pi_ix rfl (pi_v 0) pi_int) pai_nil)))))))
theorem sc_F_is_name : FnScope ["value", "letter"] ["value"] (defScope (top 6)) := ⟨rfl, rfl, rfl, by decide +kernel, rfl, by decide +kernel, by decide +kernel⟩
theorem b_F_is_name (T : Txt K mg a) : ∀ (cdv : Value) (A : Around) (outer : List Env) (s : Shared) (H : Hp) (Z : XK), Room 0 (A.deeper (PyProof.Rows.envOfC "is_name" (defScope (top 6)) s.heap.objs.size a.F_is_name cdv)) →
    PSsI ⟨EN T, o_F_is_name, WZ Z⟩ (cxOf (L2.CX P w) P w K mg base ["value", "letter"] "is_name" (defScope (top 6)) a.F_is_name cdv A outer s H Z) (defBody (top 6)) t_F_is_name := by
  intro cdv A outer s H Z hr
  exact (psi_cons (psi_if (pit_w (pwi_or (pit_not (pit_val (pi_isi rfl (kit_str T) rfl T.b_isinstance (pi_v 0) (pe_bltn rfl T.b_str rfl rfl)))) (pwi_or1 (pit_inr rfl op_in_seq (pi_v 0) (gl_RESERVED T) (by rfl))))) (psi_one (psi_ret pi_bl)) psi_nil)
    (psi_one (psi_ret (pi_and (pi_ch opi_le opi_le pi_int (pi_bi (bii_len rfl) rfl T.b_len rfl (pai_cons (pi_v 0) pai_nil)) pi_int) (pi_one (pi_bi (bii_all rfl rfl) rfl T.b_all rfl (pai_cons (pi_lc (i := 1) rfl sc_F_is_name.nd (pii_its (pi_v 0)) (blk_cx (by exact ⟨rfl, by decide +kernel, by decide +kernel, by decide +kernel, by decide +kernel⟩)) (fun _ _ _ _ _ => pg_name (i := 1) sc_F_is_name.nd rfl (by first | exact Or.inl rfl | exact Or.inr rfl)) (fun _ _ _ _ _ => ptsi_nil) (fun _ _ _ _ _ => (pi_cmp opi_inS (pi_v 1) (gl_LETTERS T) (by rfl)))) pai_nil)))))))
theorem sc_F_lies_within : FnScope ["cell", "low", "high"] ["cell", "low", "high"] (defScope (top 7)) := ⟨rfl, rfl, rfl, by decide +kernel, rfl, by decide +kernel, by decide +kernel⟩
theorem b_F_lies_within (T : Txt K mg a) : ∀ (cdv : Value) (A : Around) (outer : List Env) (s : Shared) (H : Hp) (Z : XK), Room 0 (A.deeper (PyProof.Rows.envOfC "lies_within" (defScope (top 7)) s.heap.objs.size a.F_lies_within cdv)) →
    PSsI ⟨EN T, o_F_lies_within, WZ Z⟩ (cxOf (L2.CX P w) P w K mg base ["cell", "low", "high"] "lies_within" (defScope (top 7)) a.F_lies_within cdv A outer s H Z) (defBody (top 7)) t_F_lies_within := by
  intro cdv A outer s H Z hr
  exact (psi_one (psi_ret (pi_and (pi_ch opi_le opi_le (pi_ix rfl (pi_v 1) pi_int) (pi_ix rfl (pi_v 0) pi_int) (pi_ix rfl (pi_v 2) pi_int)) (pi_one (pi_ch opi_le opi_le (pi_ix rfl (pi_v 1) pi_int) (pi_ix rfl (pi_v 0) pi_int) (pi_ix rfl (pi_v 2) pi_int))))))
theorem sc_F__check_rectangle : FnScope ["name", "low", "high"] ["name", "low", "high"] (defScope (top 14)) := ⟨rfl, rfl, rfl, by decide +kernel, rfl, by decide +kernel, by decide +kernel⟩
theorem b_F__check_rectangle (T : Txt K mg a) (G_is_name : Good P w K mg base (EN T) 1 a.F_is_name ["value"] [] 1 m_F_is_name) (G_is_cell : Good P w K mg base (EN T) 2 a.F_is_cell ["value"] [] 1 m_F_is_cell) : ∀ (cdv : Value) (A : Around) (outer : List Env) (s : Shared) (H : Hp) (Z : XK), Room 2 (A.deeper (PyProof.Rows.envOfC "_check_rectangle" (defScope (top 14)) s.heap.objs.size a.F__check_rectangle cdv)) →
    PSsI ⟨EN T, o_F__check_rectangle, WZ Z⟩ (cxOf (L2.CX P w) P w K mg base ["name", "low", "high"] "_check_rectangle" (defScope (top 14)) a.F__check_rectangle cdv A outer s H Z) (defBody (top 14)) t_F__check_rectangle := by
  intro cdv A outer s H Z hr
  exact (psi_cons (psi_if (pit_not (pit_val (pi_call (takes_of rfl rfl rfl rfl) (G_is_name.callee (hr.mono (by decide)) T.mg_F_is_name T.kp_F_is_name 0 (by decide) (by exact Dfl.nil)) rfl (pai_cons (pi_v 0) pai_nil)))) (psi_one psi_stuck) psi_nil)
    (psi_cons (psi_if (pit_not (pit_val (pi_call (takes_of rfl rfl rfl rfl) (G_is_cell.callee (hr.mono (by decide)) T.mg_F_is_cell T.kp_F_is_cell 0 (by decide) (by exact Dfl.nil)) rfl (pai_cons (pi_v 1) pai_nil)))) (psi_one psi_stuck) psi_nil)
    (psi_one (psi_if (pit_w (pwi_or (pit_not (pit_val (pi_call (takes_of rfl rfl rfl rfl) (G_is_cell.callee (hr.mono (by decide)) T.mg_F_is_cell T.kp_F_is_cell 0 (by decide) (by exact Dfl.nil)) rfl (pai_cons (pi_v 2) pai_nil)))) (pwi_or (pit_cmp opi_lt (pi_ix rfl (pi_v 2) pi_int) (pi_ix rfl (pi_v 1) pi_int) (by rfl)) (pwi_or1 (pit_cmp opi_lt (pi_ix rfl (pi_v 2) pi_int) (pi_ix rfl (pi_v 1) pi_int) (by rfl)))))) (psi_one psi_stuck) psi_nil))))
theorem sc_F_Room___init__ : FnScope ["self", "name", "low", "high", "barred"] ["self", "name", "low", "high", "barred"] (defScope (inClass (top 12) 0)) := ⟨rfl, rfl, rfl, by decide +kernel, rfl, by decide +kernel, by decide +kernel⟩
theorem b_F_Room___init__ (T : Txt K mg a) (G__check_rectangle : Good P w K mg base (EN T) 3 a.F__check_rectangle ["name", "low", "high"] [] 3 m_F__check_rectangle) : ∀ (cdv : Value) (A : Around) (outer : List Env) (s : Shared) (H : Hp) (Z : XK), Room 3 (A.deeper (PyProof.Rows.envOfC "Room.__init__" (defScope (inClass (top 12) 0)) s.heap.objs.size a.F_Room___init__ cdv)) →
    PSsI ⟨EN T, o_F_Room___init__, WZ Z⟩ (cxOf (L2.CX P w) P w K mg base ["self", "name", "low", "high", "barred"] "Room.__init__" (defScope (inClass (top 12) 0)) a.F_Room___init__ cdv A outer s H Z) (defBody (inClass (top 12) 0)) t_F_Room___init__ := by
  intro cdv A outer s H Z hr
  exact (psi_cons (psi_expr (pi_call (takes_of rfl rfl rfl rfl) (G__check_rectangle.callee (hr.mono (by decide)) T.mg_F__check_rectangle T.kp_F__check_rectangle 0 (by decide) (by exact Dfl.nil)) rfl (pai_cons (pi_v 1) (pai_cons (pi_v 2) (pai_cons (pi_v 3) pai_nil)))))
    (psi_cons (psi_if (pit_not (pit_val (pi_isi rfl (kit_bool T) rfl T.b_isinstance (pi_v 4) (pe_bltn rfl T.b_bool rfl rfl)))) (psi_one psi_stuck) psi_nil)
    (psi_cons (psi_setF (k := 0) (n := 0) rfl rfl rfl (pi_v 1))
    (psi_cons (psi_setF (k := 0) (n := 1) rfl rfl rfl (pi_v 2))
    (psi_cons (psi_setF (k := 0) (n := 2) rfl rfl rfl (pi_v 3))
    (psi_one (psi_setF (k := 0) (n := 3) rfl rfl rfl (pi_v 4))))))))
theorem sc_F_Room___contains__ : FnScope ["self", "cell"] ["self", "cell"] (defScope (inClass (top 12) 1)) := ⟨rfl, rfl, rfl, by decide +kernel, rfl, by decide +kernel, by decide +kernel⟩
theorem b_F_Room___contains__ (T : Txt K mg a) (G_is_cell : Good P w K mg base (EN T) 2 a.F_is_cell ["value"] [] 1 m_F_is_cell) (G_lies_within : Good P w K mg base (EN T) 1 a.F_lies_within ["cell", "low", "high"] [] 3 m_F_lies_within) : ∀ (cdv : Value) (A : Around) (outer : List Env) (s : Shared) (H : Hp) (Z : XK), Room 2 (A.deeper (PyProof.Rows.envOfC "Room.__contains__" (defScope (inClass (top 12) 1)) s.heap.objs.size a.F_Room___contains__ cdv)) →
    PSsI ⟨EN T, o_F_Room___contains__, WZ Z⟩ (cxOf (L2.CX P w) P w K mg base ["self", "cell"] "Room.__contains__" (defScope (inClass (top 12) 1)) a.F_Room___contains__ cdv A outer s H Z) (defBody (inClass (top 12) 1)) t_F_Room___contains__ := by
  intro cdv A outer s H Z hr
  exact (psi_one (psi_ret (pi_and (pi_call (takes_of rfl rfl rfl rfl) (G_is_cell.callee (hr.mono (by decide)) T.mg_F_is_cell T.kp_F_is_cell 0 (by decide) (by exact Dfl.nil)) rfl (pai_cons (pi_v 1) pai_nil)) (pi_one (pi_call (takes_of rfl rfl rfl rfl) (G_lies_within.callee (hr.mono (by decide)) T.mg_F_lies_within T.kp_F_lies_within 0 (by decide) (by exact Dfl.nil)) rfl (pai_cons (pi_v 1) (pai_cons (pi_fld (n := 1) rfl (pi_v 0) rfl) (pai_cons (pi_fld (n := 2) rfl (pi_v 0) rfl) pai_nil))))))))
theorem sc_F_Mark___init__ : FnScope ["self", "name", "low", "high", "blur"] ["self", "name", "low", "high", "blur"] (defScope (inClass (top 13) 0)) := ⟨rfl, rfl, rfl, by decide +kernel, rfl, by decide +kernel, by decide +kernel⟩
theorem b_F_Mark___init__ (T : Txt K mg a) (G__check_rectangle : Good P w K mg base (EN T) 3 a.F__check_rectangle ["name", "low", "high"] [] 3 m_F__check_rectangle) (G_is_count : Good P w K mg base (EN T) 2 a.F_is_count ["value", "least"] [] 2 m_F_is_count) : ∀ (cdv : Value) (A : Around) (outer : List Env) (s : Shared) (H : Hp) (Z : XK), Room 3 (A.deeper (PyProof.Rows.envOfC "Mark.__init__" (defScope (inClass (top 13) 0)) s.heap.objs.size a.F_Mark___init__ cdv)) →
    PSsI ⟨EN T, o_F_Mark___init__, WZ Z⟩ (cxOf (L2.CX P w) P w K mg base ["self", "name", "low", "high", "blur"] "Mark.__init__" (defScope (inClass (top 13) 0)) a.F_Mark___init__ cdv A outer s H Z) (defBody (inClass (top 13) 0)) t_F_Mark___init__ := by
  intro cdv A outer s H Z hr
  exact (psi_cons (psi_expr (pi_call (takes_of rfl rfl rfl rfl) (G__check_rectangle.callee (hr.mono (by decide)) T.mg_F__check_rectangle T.kp_F__check_rectangle 0 (by decide) (by exact Dfl.nil)) rfl (pai_cons (pi_v 1) (pai_cons (pi_v 2) (pai_cons (pi_v 3) pai_nil)))))
    (psi_cons (psi_if (pit_not (pit_val (pi_call (takes_of rfl rfl rfl rfl) (G_is_count.callee (hr.mono (by decide)) T.mg_F_is_count T.kp_F_is_count 0 (by decide) (by exact Dfl.nil)) rfl (pai_cons (pi_v 4) (pai_cons pi_int pai_nil))))) (psi_one psi_stuck) psi_nil)
    (psi_cons (psi_setF (k := 1) (n := 0) rfl rfl rfl (pi_v 1))
    (psi_cons (psi_setF (k := 1) (n := 1) rfl rfl rfl (pi_v 2))
    (psi_cons (psi_setF (k := 1) (n := 2) rfl rfl rfl (pi_v 3))
    (psi_one (psi_setF (k := 1) (n := 4) rfl rfl rfl (pi_v 4))))))))
theorem sc_F_Mark___contains__ : FnScope ["self", "cell"] ["self", "cell"] (defScope (inClass (top 13) 1)) := ⟨rfl, rfl, rfl, by decide +kernel, rfl, by decide +kernel, by decide +kernel⟩
theorem b_F_Mark___contains__ (T : Txt K mg a) (G_is_cell : Good P w K mg base (EN T) 2 a.F_is_cell ["value"] [] 1 m_F_is_cell) (G_lies_within : Good P w K mg base (EN T) 1 a.F_lies_within ["cell", "low", "high"] [] 3 m_F_lies_within) : ∀ (cdv : Value) (A : Around) (outer : List Env) (s : Shared) (H : Hp) (Z : XK), Room 2 (A.deeper (PyProof.Rows.envOfC "Mark.__contains__" (defScope (inClass (top 13) 1)) s.heap.objs.size a.F_Mark___contains__ cdv)) →
    PSsI ⟨EN T, o_F_Mark___contains__, WZ Z⟩ (cxOf (L2.CX P w) P w K mg base ["self", "cell"] "Mark.__contains__" (defScope (inClass (top 13) 1)) a.F_Mark___contains__ cdv A outer s H Z) (defBody (inClass (top 13) 1)) t_F_Mark___contains__ := by
  intro cdv A outer s H Z hr
  exact (psi_one (psi_ret (pi_and (pi_call (takes_of rfl rfl rfl rfl) (G_is_cell.callee (hr.mono (by decide)) T.mg_F_is_cell T.kp_F_is_cell 0 (by decide) (by exact Dfl.nil)) rfl (pai_cons (pi_v 1) pai_nil)) (pi_one (pi_call (takes_of rfl rfl rfl rfl) (G_lies_within.callee (hr.mono (by decide)) T.mg_F_lies_within T.kp_F_lies_within 0 (by decide) (by exact Dfl.nil)) rfl (pai_cons (pi_v 1) (pai_cons (pi_fld (n := 1) rfl (pi_v 0) rfl) (pai_cons (pi_fld (n := 2) rfl (pi_v 0) rfl) pai_nil))))))))
theorem sc_F__law_deal : FnScope ["_law_script", "_law_cells", "_law_mixed", "_law_cell"] ["_law_script"] (defScope (top 16)) := ⟨rfl, rfl, rfl, by decide +kernel, rfl, by decide +kernel, by decide +kernel⟩
theorem b_F__law_deal (T : Txt K mg a) : ∀ (cdv : Value) (A : Around) (outer : List Env) (s : Shared) (H : Hp) (Z : XK), Room 0 (A.deeper (PyProof.Rows.envOfC "_law_deal" (defScope (top 16)) s.heap.objs.size a.F__law_deal cdv)) →
    PSsI ⟨EN T, o_F__law_deal, WZ Z⟩ (cxOf (L2.CX P w) P w K mg base ["_law_script", "_law_cells", "_law_mixed", "_law_cell"] "_law_deal" (defScope (top 16)) a.F__law_deal cdv A outer s H Z) (defBody (top 16)) t_F__law_deal := by
  intro cdv A outer s H Z hr
  exact (psi_cons (psi_par (i := 1) (j := 2) rfl sc_F__law_deal.nd rfl rfl (by decide) rfl rfl (pai_cons (pi_lc (i := 3) rfl sc_F__law_deal.nd (pii_it rfl (pi_sl rfl (pi_v 0) poi_none (poi_some pi_int))) (blk_cx (by exact ⟨rfl, by decide +kernel, by decide +kernel, by decide +kernel, by decide +kernel⟩)) (fun _ _ _ _ _ => pg_name (i := 3) sc_F__law_deal.nd rfl (by first | exact Or.inl rfl | exact Or.inr rfl)) (fun _ _ _ _ _ => ptsi_nil) (fun _ _ _ _ _ => (pi_bi (bii_abs) rfl T.b_abs rfl (pai_cons (pi_v 3) pai_nil)))) (pai_cons pi_int pai_nil)) (by rfl))
    (psi_cons (psi_for PassesOwn.leaving rfl (pii_it rfl (pi_v 1)) (pgi_one (i := 3) sc_F__law_deal.nd rfl (by first | exact Or.inl rfl | exact Or.inr rfl)) (psi_one (psi_asg (pi_bin opi_mod (pi_bty (bii_int) rfl T.b_int rfl (pai_cons (pi_bin opi_add (pi_bin opi_mulR (pi_v 2) pi_int) (pi_bin opi_mod (pi_bty (bii_int) rfl T.b_int rfl (pai_cons (pi_v 3) pai_nil)) pi_int)) pai_nil)) pi_int) (pgi_one (i := 2) sc_F__law_deal.nd rfl (by first | exact Or.inl rfl | exact Or.inr rfl)))))
    (psi_one (psi_ret (pi_mkr (pai_cons (pi_revr rfl (pi_lc (i := 3) rfl sc_F__law_deal.nd (pii_it rfl (pi_v 1)) (blk_cx (by exact ⟨rfl, by decide +kernel, by decide +kernel, by decide +kernel, by decide +kernel⟩)) (fun _ _ _ _ _ => pg_name (i := 3) sc_F__law_deal.nd rfl (by first | exact Or.inl rfl | exact Or.inr rfl)) (fun _ _ _ _ _ => ptsi_one (pit_cmp opi_ge (pi_v 3) (pi_bin opi_pow pi_int pi_int) (by rfl))) (fun _ _ _ _ _ => (pi_v 3)))) (pai_cons (pi_v 2) pai_nil)))))))
theorem sc_F__law_draw : FnScope ["_law_deal_here", "_law_many", "_law_left"] ["_law_deal_here", "_law_many"] (defScope (top 17)) := ⟨rfl, rfl, rfl, by decide +kernel, rfl, by decide +kernel, by decide +kernel⟩
theorem b_F__law_draw (T : Txt K mg a) : ∀ (cdv : Value) (A : Around) (outer : List Env) (s : Shared) (H : Hp) (Z : XK), Room 0 (A.deeper (PyProof.Rows.envOfC "_law_draw" (defScope (top 17)) s.heap.objs.size a.F__law_draw cdv)) →
    PSsI ⟨EN T, o_F__law_draw, WZ Z⟩ (cxOf (L2.CX P w) P w K mg base ["_law_deal_here", "_law_many", "_law_left"] "_law_draw" (defScope (top 17)) a.F__law_draw cdv A outer s H Z) (defBody (top 17)) t_F__law_draw := by
  intro cdv A outer s H Z hr
  exact (psi_cons (psi_while (n := 64) PassesOwn.leaving (pit_w (pwi_and (pit_cmp (opi_ne rfl (hu64 hr)) (pi_ix rfl (pi_v 0) pi_int) (pi_lst pai_nil) (by rfl)) (pwi_and1 (pit_cmp (opi_eq rfl (hu64 hr)) (pi_ix rfl (pi_ix rfl (pi_v 0) pi_int) (pi_neg pi_int)) pi_int (by rfl))))) (psi_one (psi_expr (pi_popr (pi_ix rfl (pi_v 0) pi_int)))))
    (psi_cons (psi_if (pit_cmp (opi_ne rfl (hu64 hr)) (pi_ix rfl (pi_v 0) pi_int) (pi_lst pai_nil) (by rfl)) (psi_cons (psi_asg (pi_popr (pi_ix rfl (pi_v 0) pi_int)) (pgi_one (i := 2) sc_F__law_draw.nd rfl (by first | exact Or.inl rfl | exact Or.inr rfl)))
    (psi_cons (psi_appr (pi_ix rfl (pi_v 0) pi_int) (pi_bin opi_fdiv (pi_v 2) (pi_v 1)))
    (psi_one (psi_ret (pi_bin opi_mod (pi_bty (bii_int) rfl T.b_int rfl (pai_cons (pi_v 2) pai_nil)) (pi_v 1)))))) psi_nil)
    (psi_cons (psi_setr (pi_bin opi_mod (pi_bty (bii_int) rfl T.b_int rfl (pai_cons (pi_bin opi_add (pi_bin opi_mulR (pi_ix rfl (pi_v 0) pi_int) pi_int) pi_int) pai_nil)) pi_int) (pi_v 0) pi_int)
    (psi_one (psi_ret (pi_bin opi_mod (pi_bty (bii_int) rfl T.b_int rfl (pai_cons (pi_bin opi_fdiv (pi_ix rfl (pi_v 0) pi_int) pi_int) pai_nil)) (pi_v 1)))))))
theorem sc_F__law_pick : FnScope ["_law_deal_here", "_law_some"] ["_law_deal_here", "_law_some"] (defScope (top 18)) := ⟨rfl, rfl, rfl, by decide +kernel, rfl, by decide +kernel, by decide +kernel⟩
theorem b_F__law_pick (T : Txt K mg a) (G__law_draw : Good P w K mg base (EN T) 1 a.F__law_draw ["_law_deal_here", "_law_many"] [] 2 m_F__law_draw) : ∀ (cdv : Value) (A : Around) (outer : List Env) (s : Shared) (H : Hp) (Z : XK), Room 1 (A.deeper (PyProof.Rows.envOfC "_law_pick" (defScope (top 18)) s.heap.objs.size a.F__law_pick cdv)) →
    PSsI ⟨EN T, o_F__law_pick, WZ Z⟩ (cxOf (L2.CX P w) P w K mg base ["_law_deal_here", "_law_some"] "_law_pick" (defScope (top 18)) a.F__law_pick cdv A outer s H Z) (defBody (top 18)) t_F__law_pick := by
  intro cdv A outer s H Z hr
  exact (psi_one (psi_ret (pi_ix rfl (pi_v 1) (pi_call (takes_of rfl rfl rfl rfl) (G__law_draw.callee (hr.mono (by decide)) T.mg_F__law_draw T.kp_F__law_draw 0 (by decide) (by exact Dfl.nil)) rfl (pai_cons (pi_v 0) (pai_cons (pi_bi (bii_len rfl) rfl T.b_len rfl (pai_cons (pi_v 1) pai_nil)) pai_nil))))))
theorem sc_F__law_any : FnScope ["_law_deal_here", "_law_deep", "_law_form", "_law_some", "_law_k"] ["_law_deal_here", "_law_deep"] (defScope (top 19)) := ⟨rfl, rfl, rfl, by decide +kernel, rfl, by decide +kernel, by decide +kernel⟩
theorem b_F__law_any (T : Txt K mg a) {k : Nat} {m : List D → List MO → Pi.C} (G__law_draw : Good P w K mg base (EN T) k a.F__law_draw ["_law_deal_here", "_law_many"] [] 2 m_F__law_draw) (G__law_any : Good P w K mg base (EN T) k a.F__law_any ["_law_deal_here", "_law_deep"] [] 2 m) (G__law_pick : Good P w K mg base (EN T) k a.F__law_pick ["_law_deal_here", "_law_some"] [] 2 m_F__law_pick) : ∀ (cdv : Value) (A : Around) (outer : List Env) (s : Shared) (H : Hp) (Z : XK), Room k (A.deeper (PyProof.Rows.envOfC "_law_any" (defScope (top 19)) s.heap.objs.size a.F__law_any cdv)) →
    PSsI ⟨EN T, o_F__law_any m, WZ Z⟩ (cxOf (L2.CX P w) P w K mg base ["_law_deal_here", "_law_deep", "_law_form", "_law_some", "_law_k"] "_law_any" (defScope (top 19)) a.F__law_any cdv A outer s H Z) (defBody (top 19)) t_F__law_any := by
  intro cdv A outer s H Z hr
  exact (psi_cons (psi_asg (pi_call (takes_of rfl rfl rfl rfl) (G__law_draw.callee hr T.mg_F__law_draw T.kp_F__law_draw 0 (by decide) (by exact Dfl.nil)) rfl (pai_cons (pi_v 0) (pai_cons pi_int pai_nil))) (pgi_one (i := 2) sc_F__law_any.nd rfl (by first | exact Or.inl rfl | exact Or.inr rfl)))
    (psi_cons (psi_if (pit_w (pwi_and (pit_cmp opi_gt (pi_v 1) pi_int (by rfl)) (pwi_and1 (pit_cmp opi_lt (pi_v 2) pi_int (by rfl))))) (psi_cons (psi_setLc (i := 4) (j := 3) rfl sc_F__law_any.nd rfl rfl (by rfl) (pii_rng1 rfl T.b_range (pi_call (takes_of rfl rfl rfl rfl) (G__law_draw.callee hr T.mg_F__law_draw T.kp_F__law_draw 0 (by decide) (by exact Dfl.nil)) rfl (pai_cons (pi_v 0) (pai_cons pi_int pai_nil)))) (blk_cx (by exact ⟨rfl, by decide +kernel, by decide +kernel, by decide +kernel, by decide +kernel⟩)) (fun _ _ _ _ _ => pg_name (i := 4) sc_F__law_any.nd rfl (by first | exact Or.inl rfl | exact Or.inr rfl)) (fun _ _ _ _ _ => ptsi_nil) (fun _ _ _ _ _ => (pi_call takes0 (G__law_any.callee hr T.mg_F__law_any T.kp_F__law_any 0 (by decide) (by exact Dfl.nil)) rfl (pai_cons (pi_v 0) (pai_cons (pi_bin opi_sub (pi_v 1) pi_int) pai_nil)))))
    (psi_one (psi_ret (pi_ite (pit_cmp opi_lt (pi_v 2) pi_int (by rfl)) (pi_bty (bii_tuple rfl) rfl T.b_tuple rfl (pai_cons (pi_v 3) pai_nil)) (pi_v 3))))) psi_nil)
    (psi_cons (psi_if (pit_cmp opi_lt (pi_v 2) pi_int (by rfl)) (psi_one (psi_ret (pi_call (takes_of rfl rfl rfl rfl) (G__law_pick.callee hr T.mg_F__law_pick T.kp_F__law_pick 0 (by decide) (by exact Dfl.nil)) rfl (pai_cons (pi_v 0) (pai_cons (pi_lst (pai_cons pi_int (pai_cons pi_int (pai_cons (pi_neg pi_int) (pai_cons pi_int (pai_cons (pi_bin opi_pow pi_int pi_int) (pai_cons pi_bl (pai_cons pi_bl (pai_cons pi_non pai_nil))))))))) pai_nil))))) psi_nil)
    (psi_one (psi_ret (pi_call (takes_of rfl rfl rfl rfl) (G__law_pick.callee hr T.mg_F__law_pick T.kp_F__law_pick 0 (by decide) (by exact Dfl.nil)) rfl (pai_cons (pi_v 0) (pai_cons (pi_lst (pai_cons pi_str (pai_cons pi_str (pai_cons pi_str (pai_cons pi_str (pai_cons pi_str (pai_cons pi_str (pai_cons pi_str (pai_cons pi_str (pai_cons pi_str (pai_cons pi_str pai_nil))))))))))) pai_nil))))))))
theorem sc_F_law : FnScope ["_law_script", "_law_deal_here", "_law_turn", "_law_low", "_law_high", "_law_one", "_law_x", "_law_y", "_law_odd", "_law_more", "_law_value"] ["_law_script"] (defScope (top 20)) := ⟨rfl, rfl, rfl, by decide +kernel, rfl, by decide +kernel, by decide +kernel⟩
theorem b_F_law (T : Txt K mg a) (G__law_deal : Good P w K mg base (EN T) 1 a.F__law_deal ["_law_script"] [] 1 m_F__law_deal) (G__law_draw : Good P w K mg base (EN T) 1 a.F__law_draw ["_law_deal_here", "_law_many"] [] 2 m_F__law_draw) (G_F_Room___contains__ : Good P w K mg base (EN T) 3 a.F_Room___contains__ ["self", "cell"] [] 2 m_F_Room___contains__) (G_F_Mark___contains__ : Good P w K mg base (EN T) 3 a.F_Mark___contains__ ["self", "cell"] [] 2 m_F_Mark___contains__) (G__law_any : Good P w K mg base (EN T) 8 a.F__law_any ["_law_deal_here", "_law_deep"] [] 2 (m_F__law_any 5)) (G_F_Room___init__ : GoodN P w K mg base (EN T) 4 a.F_Room___init__ ["self", "name", "low", "high", "barred"] [V.bl false] 4 0 m_F_Room___init__) (G_F_Mark___init__ : GoodN P w K mg base (EN T) 4 a.F_Mark___init__ ["self", "name", "low", "high", "blur"] [] 4 1 m_F_Mark___init__) : ∀ (cdv : Value) (A : Around) (outer : List Env) (s : Shared) (H : Hp) (Z : XK), Room 8 (A.deeper (PyProof.Rows.envOfC "law" (defScope (top 20)) s.heap.objs.size a.F_law cdv)) →
    PSsI ⟨EN T, o_F_law, WZ Z⟩ (cxOf (L2.CX P w) P w K mg base ["_law_script", "_law_deal_here", "_law_turn", "_law_low", "_law_high", "_law_one", "_law_x", "_law_y", "_law_odd", "_law_more", "_law_value"] "law" (defScope (top 20)) a.F_law cdv A outer s H Z) (defBody (top 20)) t_F_law := by
  intro cdv A outer s H Z hr
  exact (psi_cons (psi_asg (pi_call (takes_of rfl rfl rfl rfl) (G__law_deal.callee (hr.mono (by decide)) T.mg_F__law_deal T.kp_F__law_deal 0 (by decide) (by exact Dfl.nil)) rfl (pai_cons (pi_v 0) pai_nil)) (pgi_one (i := 1) sc_F_law.nd rfl (by first | exact Or.inl rfl | exact Or.inr rfl)))
    (psi_cons (psi_for PassesOwn.leaving rfl (pii_rng1 rfl T.b_range pi_int) (pgi_one (i := 2) sc_F_law.nd rfl (by first | exact Or.inl rfl | exact Or.inr rfl)) (psi_cons (psi_asg (pi_tup (pai_cons (pi_bin opi_sub (pi_call (takes_of rfl rfl rfl rfl) (G__law_draw.callee (hr.mono (by decide)) T.mg_F__law_draw T.kp_F__law_draw 0 (by decide) (by exact Dfl.nil)) rfl (pai_cons (pi_v 1) (pai_cons pi_int pai_nil))) pi_int) (pai_cons (pi_bin opi_sub (pi_call (takes_of rfl rfl rfl rfl) (G__law_draw.callee (hr.mono (by decide)) T.mg_F__law_draw T.kp_F__law_draw 0 (by decide) (by exact Dfl.nil)) rfl (pai_cons (pi_v 1) (pai_cons pi_int pai_nil))) pi_int) pai_nil))) (pgi_one (i := 3) sc_F_law.nd rfl (by first | exact Or.inl rfl | exact Or.inr rfl)))
    (psi_cons (psi_asg (pi_tup (pai_cons (pi_bin opi_add (pi_ix rfl (pi_v 3) pi_int) (pi_call (takes_of rfl rfl rfl rfl) (G__law_draw.callee (hr.mono (by decide)) T.mg_F__law_draw T.kp_F__law_draw 0 (by decide) (by exact Dfl.nil)) rfl (pai_cons (pi_v 1) (pai_cons pi_int pai_nil)))) (pai_cons (pi_bin opi_add (pi_ix rfl (pi_v 3) pi_int) (pi_call (takes_of rfl rfl rfl rfl) (G__law_draw.callee (hr.mono (by decide)) T.mg_F__law_draw T.kp_F__law_draw 0 (by decide) (by exact Dfl.nil)) rfl (pai_cons (pi_v 1) (pai_cons pi_int pai_nil)))) pai_nil))) (pgi_one (i := 4) sc_F_law.nd rfl (by first | exact Or.inl rfl | exact Or.inr rfl)))
    (psi_one (psi_for PassesOwn.leaving rfl (pii_it rfl (pi_tup (pai_cons (pi_mk (k := 0) (Z := Z) rfl (takes_of rfl rfl rfl rfl) (G_F_Room___init__.maker (hr.mono (by decide)) rfl T.mk_Room T.mg_Room 1 (by decide) (by exact Dfl.nil)) rfl (pai_cons pi_str (pai_cons (pi_v 3) (pai_cons (pi_v 4) (pai_cons (pi_cmp (opi_eq rfl (hu64 hr)) (pi_call (takes_of rfl rfl rfl rfl) (G__law_draw.callee (hr.mono (by decide)) T.mg_F__law_draw T.kp_F__law_draw 0 (by decide) (by exact Dfl.nil)) rfl (pai_cons (pi_v 1) (pai_cons pi_int pai_nil))) pi_int (by rfl)) pai_nil))))) (pai_cons (pi_mk (k := 1) (Z := Z) rfl (takes_of rfl rfl rfl rfl) (G_F_Mark___init__.maker (hr.mono (by decide)) rfl T.mk_Mark T.mg_Mark 0 (by decide) (by exact Dfl.nil)) rfl (pai_cons pi_str (pai_cons (pi_v 3) (pai_cons (pi_v 4) (pai_cons pi_int pai_nil))))) pai_nil)))) (pgi_one (i := 5) sc_F_law.nd rfl (by first | exact Or.inl rfl | exact Or.inr rfl)) (psi_cons (psi_for PassesOwn.leaving rfl (pii_rng2 rfl T.b_range (pi_bin opi_sub (pi_ix rfl (pi_v 3) pi_int) pi_int) (pi_bin opi_add (pi_ix rfl (pi_v 4) pi_int) pi_int)) (pgi_one (i := 6) sc_F_law.nd rfl (by first | exact Or.inl rfl | exact Or.inr rfl)) (psi_one (psi_for PassesOwn.leaving rfl (pii_rng2 rfl T.b_range (pi_bin opi_sub (pi_ix rfl (pi_v 3) pi_int) pi_int) (pi_bin opi_add (pi_ix rfl (pi_v 4) pi_int) pi_int)) (pgi_one (i := 7) sc_F_law.nd rfl (by first | exact Or.inl rfl | exact Or.inr rfl)) (psi_one (psi_if (pit_cmp (opi_ne rfl (hu64 hr)) (pi_bi (bii_repr) rfl T.b_repr rfl (pai_cons (pi_ino (opi_in (takes_of rfl rfl rfl rfl) ⟨fun | 0, _, _, h => by cases h; exact G_F_Room___contains__.slot (hr.mono (by decide)) T.sl_F_Room___contains__ | 1, _, _, h => by cases h; exact G_F_Mark___contains__.slot (hr.mono (by decide)) T.sl_F_Mark___contains__ | _ + 2, _, h, _ => by cases h⟩) (pi_tup (pai_cons (pi_v 6) (pai_cons (pi_v 7) pai_nil))) (pi_v 5) (by rfl)) pai_nil)) (pi_bi (bii_repr) rfl T.b_repr rfl (pai_cons (pi_and (pi_ch opi_le opi_le (pi_ix rfl (pi_v 3) pi_int) (pi_v 6) (pi_ix rfl (pi_v 4) pi_int)) (pi_one (pi_ch opi_le opi_le (pi_ix rfl (pi_v 3) pi_int) (pi_v 7) (pi_ix rfl (pi_v 4) pi_int)))) pai_nil)) (by rfl)) (psi_one (psi_ret pi_bl)) psi_nil)))))
    (psi_cons (psi_mko (i := 8) sc_F_law.nd rfl (by first | exact Or.inl rfl | exact Or.inr rfl) (pai_cons pi_non (pai_cons pi_int (pai_cons pi_str (pai_cons (pi_tup pai_nil) (pai_cons (pi_sl rfl (pi_v 3) poi_none (poi_some pi_int)) (pai_cons (pi_bin (opi_cat rfl) (pi_v 3) (pi_v 4)) (pai_cons (pi_lst (pai_cons (pi_ix rfl (pi_v 3) pi_int) (pai_cons (pi_ix rfl (pi_v 3) pi_int) pai_nil))) (pai_cons (pi_tup (pai_cons (pi_tup (pai_cons (pi_ix rfl (pi_v 3) pi_int) (pai_cons (pi_ix rfl (pi_v 3) pi_int) pai_nil))) pai_nil)) pai_nil)))))))))
    (psi_cons (psi_app (i := 8) rfl (pi_tup (pai_cons (pi_bty (bii_str) rfl T.b_str rfl (pai_cons (pi_ix rfl (pi_v 3) pi_int) pai_nil)) (pai_cons (pi_ix rfl (pi_v 3) pi_int) pai_nil))))
    (psi_cons (psi_ext (j := 8) (pai_cons (pi_tup (pai_cons (pi_ix rfl (pi_v 3) pi_int) (pai_cons pi_non pai_nil))) (pai_cons (pi_v 5) (pai_cons (pi_ite (pit_cmp (opi_eq rfl (hu64 hr)) (pi_v 3) (pi_tup (pai_cons pi_int (pai_cons pi_int pai_nil))) (by rfl)) (pi_tup (pai_cons pi_bl (pai_cons pi_bl pai_nil))) (pi_tup (pai_cons (pi_bin opi_sub (pi_ix rfl (pi_v 3) pi_int) pi_int) (pai_cons pi_bl pai_nil)))) pai_nil))))
    (psi_frz (i := 8) (psi_cons (psi_if (pit_cmp (opi_ne rfl (hu64 hr)) (pi_lc (i := 10) rfl sc_F_law.nd (pii_it rfl (pi_v 8)) (blk_cx (by exact ⟨rfl, by decide +kernel, by decide +kernel, by decide +kernel, by decide +kernel⟩)) (fun _ _ _ _ _ => pg_name (i := 10) sc_F_law.nd rfl (by first | exact Or.inl rfl | exact Or.inr rfl)) (fun _ _ _ _ _ => ptsi_one (pit_ino (opi_in takes0 ⟨fun | 0, _, _, h => by cases h; exact G_F_Room___contains__.slot (hr.mono (by decide)) T.sl_F_Room___contains__ | 1, _, _, h => by cases h; exact G_F_Mark___contains__.slot (hr.mono (by decide)) T.sl_F_Mark___contains__ | _ + 2, _, h, _ => by cases h⟩) (pi_v 10) (pi_v 5) (by rfl))) (fun _ _ _ _ _ => (pi_v 10))) (pi_lst pai_nil) (by rfl)) (psi_one (psi_ret pi_bl)) psi_nil)
    (psi_one (psi_for PassesOwn.leaving rfl (pii_rng1 rfl T.b_range pi_int) (pgi_one (i := 9) sc_F_law.nd rfl (by first | exact Or.inl rfl | exact Or.inr rfl)) (psi_cons (psi_asg (pi_lst (pai_cons (pi_call (takes_of rfl rfl rfl rfl) (G__law_any.callee (hr.mono (by decide)) T.mg_F__law_any T.kp_F__law_any 0 (by decide) (by exact Dfl.nil)) rfl (pai_cons (pi_v 1) (pai_cons pi_int pai_nil))) pai_nil)) (pgi_one (i := 10) sc_F_law.nd rfl (by first | exact Or.inl rfl | exact Or.inr rfl)))
    (psi_one (psi_if (pit_w (pwi_or (pit_ino (opi_in (takes_of rfl rfl rfl rfl) ⟨fun | 0, _, _, h => by cases h; exact G_F_Room___contains__.slot (hr.mono (by decide)) T.sl_F_Room___contains__ | 1, _, _, h => by cases h; exact G_F_Mark___contains__.slot (hr.mono (by decide)) T.sl_F_Mark___contains__ | _ + 2, _, h, _ => by cases h⟩) (pi_v 10) (pi_v 5) (by rfl)) (pwi_or (pit_ino (opi_in (takes_of rfl rfl rfl rfl) ⟨fun | 0, _, _, h => by cases h; exact G_F_Room___contains__.slot (hr.mono (by decide)) T.sl_F_Room___contains__ | 1, _, _, h => by cases h; exact G_F_Mark___contains__.slot (hr.mono (by decide)) T.sl_F_Mark___contains__ | _ + 2, _, h, _ => by cases h⟩) (pi_bty (bii_tuple rfl) rfl T.b_tuple rfl (pai_cons (pi_v 10) pai_nil)) (pi_v 5) (by rfl)) (pwi_or1 (pit_ino (opi_in (takes_of rfl rfl rfl rfl) ⟨fun | 0, _, _, h => by cases h; exact G_F_Room___contains__.slot (hr.mono (by decide)) T.sl_F_Room___contains__ | 1, _, _, h => by cases h; exact G_F_Mark___contains__.slot (hr.mono (by decide)) T.sl_F_Mark___contains__ | _ + 2, _, h, _ => by cases h⟩) (pi_tup (pai_cons (pi_ix rfl (pi_v 3) pi_int) (pai_cons (pi_ix rfl (pi_v 3) pi_int) (pai_cons (pi_v 10) pai_nil)))) (pi_v 5) (by rfl)))))) (psi_one (psi_ret pi_bl)) psi_nil))))))))))))))))
    (psi_one (psi_ret (pi_and (pi_ino (opi_in (takes_of rfl rfl rfl rfl) ⟨fun | 0, _, _, h => by cases h; exact G_F_Room___contains__.slot (hr.mono (by decide)) T.sl_F_Room___contains__ | 1, _, _, h => by cases h; exact G_F_Mark___contains__.slot (hr.mono (by decide)) T.sl_F_Mark___contains__ | _ + 2, _, h, _ => by cases h⟩) (pi_tup (pai_cons pi_int (pai_cons pi_int pai_nil))) (pi_mk (k := 0) (Z := Z) rfl (takes_of rfl rfl rfl rfl) (G_F_Room___init__.maker (hr.mono (by decide)) rfl T.mk_Room T.mg_Room 0 (by decide) (by exact (Dfl.bl false Dfl.nil))) rfl (pai_cons pi_str (pai_cons (pi_tup (pai_cons pi_int (pai_cons pi_int pai_nil))) (pai_cons (pi_tup (pai_cons pi_int (pai_cons pi_int pai_nil))) pai_nil)))) (by rfl)) (pi_one (pi_ino (opi_nin (takes_of rfl rfl rfl rfl) ⟨fun | 0, _, _, h => by cases h; exact G_F_Room___contains__.slot (hr.mono (by decide)) T.sl_F_Room___contains__ | 1, _, _, h => by cases h; exact G_F_Mark___contains__.slot (hr.mono (by decide)) T.sl_F_Mark___contains__ | _ + 2, _, h, _ => by cases h⟩) (pi_tup (pai_cons pi_bl (pai_cons pi_int pai_nil))) (pi_mk (k := 0) (Z := Z) rfl (takes_of rfl rfl rfl rfl) (G_F_Room___init__.maker (hr.mono (by decide)) rfl T.mk_Room T.mg_Room 0 (by decide) (by exact (Dfl.bl false Dfl.nil))) rfl (pai_cons pi_str (pai_cons (pi_tup (pai_cons pi_int (pai_cons pi_int pai_nil))) (pai_cons (pi_tup (pai_cons pi_int (pai_cons pi_int pai_nil))) pai_nil)))) (by rfl))))))))
theorem law_fn (T : Txt K mg a) {fd : FuncData} (F : FunD K "law" "law" (defArgs (top 20)) (defBody (top 20)) (defScope (top 20)) [] [] a.F_law fd) : FnOk P w K mg base (L2.CX P w) 9 a.F_law fd ["_law_script"] (spI (EN T) 1 m_F_law) := by
  have G_is_integer : Good P w K mg base (EN T) 1 a.F_is_integer ["value"] [] 1 m_F_is_integer := T.df_F_is_integer.good (N := ["value"]) (ps := ["value"]) (o := o_F_is_integer) (t := t_F_is_integer) sc_F_is_integer (by decide) (b_F_is_integer T)
  have G_is_count : Good P w K mg base (EN T) 2 a.F_is_count ["value", "least"] [] 2 m_F_is_count := T.df_F_is_count.good (N := ["value", "least"]) (ps := ["value", "least"]) (o := o_F_is_count) (t := t_F_is_count) sc_F_is_count (by decide) (b_F_is_count T G_is_integer)
  have G_is_cell : Good P w K mg base (EN T) 2 a.F_is_cell ["value"] [] 1 m_F_is_cell := T.df_F_is_cell.good (N := ["value"]) (ps := ["value"]) (o := o_F_is_cell) (t := t_F_is_cell) sc_F_is_cell (by decide) (b_F_is_cell T G_is_integer)
  have G_is_name : Good P w K mg base (EN T) 1 a.F_is_name ["value"] [] 1 m_F_is_name := T.df_F_is_name.good (N := ["value", "letter"]) (ps := ["value"]) (o := o_F_is_name) (t := t_F_is_name) sc_F_is_name (by decide) (b_F_is_name T)
  have G_lies_within : Good P w K mg base (EN T) 1 a.F_lies_within ["cell", "low", "high"] [] 3 m_F_lies_within := T.df_F_lies_within.good (N := ["cell", "low", "high"]) (ps := ["cell", "low", "high"]) (o := o_F_lies_within) (t := t_F_lies_within) sc_F_lies_within (by decide) (b_F_lies_within T)
  have G__check_rectangle : Good P w K mg base (EN T) 3 a.F__check_rectangle ["name", "low", "high"] [] 3 m_F__check_rectangle := T.df_F__check_rectangle.good (N := ["name", "low", "high"]) (ps := ["name", "low", "high"]) (o := o_F__check_rectangle) (t := t_F__check_rectangle) sc_F__check_rectangle (by decide) (b_F__check_rectangle T G_is_name G_is_cell)
  have G_F_Room___init__ : GoodN P w K mg base (EN T) 4 a.F_Room___init__ ["self", "name", "low", "high", "barred"] [V.bl false] 4 0 m_F_Room___init__ := T.df_F_Room___init__.goodN (N := ["self", "name", "low", "high", "barred"]) (ps := ["self", "name", "low", "high", "barred"]) (n := 4) (c := 0) (o := o_F_Room___init__) (t := t_F_Room___init__) sc_F_Room___init__ rfl (by decide) rfl (b_F_Room___init__ T G__check_rectangle)
  have G_F_Room___contains__ : Good P w K mg base (EN T) 3 a.F_Room___contains__ ["self", "cell"] [] 2 m_F_Room___contains__ := T.df_F_Room___contains__.good (N := ["self", "cell"]) (ps := ["self", "cell"]) (o := o_F_Room___contains__) (t := t_F_Room___contains__) sc_F_Room___contains__ (by decide) (b_F_Room___contains__ T G_is_cell G_lies_within)
  have G_F_Mark___init__ : GoodN P w K mg base (EN T) 4 a.F_Mark___init__ ["self", "name", "low", "high", "blur"] [] 4 1 m_F_Mark___init__ := T.df_F_Mark___init__.goodN (N := ["self", "name", "low", "high", "blur"]) (ps := ["self", "name", "low", "high", "blur"]) (n := 4) (c := 1) (o := o_F_Mark___init__) (t := t_F_Mark___init__) sc_F_Mark___init__ rfl (by decide) rfl (b_F_Mark___init__ T G__check_rectangle G_is_count)
  have G_F_Mark___contains__ : Good P w K mg base (EN T) 3 a.F_Mark___contains__ ["self", "cell"] [] 2 m_F_Mark___contains__ := T.df_F_Mark___contains__.good (N := ["self", "cell"]) (ps := ["self", "cell"]) (o := o_F_Mark___contains__) (t := t_F_Mark___contains__) sc_F_Mark___contains__ (by decide) (b_F_Mark___contains__ T G_is_cell G_lies_within)
  have G__law_deal : Good P w K mg base (EN T) 1 a.F__law_deal ["_law_script"] [] 1 m_F__law_deal := T.df_F__law_deal.good (N := ["_law_script", "_law_cells", "_law_mixed", "_law_cell"]) (ps := ["_law_script"]) (o := o_F__law_deal) (t := t_F__law_deal) sc_F__law_deal (by decide) (b_F__law_deal T)
  have G__law_draw : Good P w K mg base (EN T) 1 a.F__law_draw ["_law_deal_here", "_law_many"] [] 2 m_F__law_draw := T.df_F__law_draw.good (N := ["_law_deal_here", "_law_many", "_law_left"]) (ps := ["_law_deal_here", "_law_many"]) (o := o_F__law_draw) (t := t_F__law_draw) sc_F__law_draw (by decide) (b_F__law_draw T)
  have G__law_pick : Good P w K mg base (EN T) 2 a.F__law_pick ["_law_deal_here", "_law_some"] [] 2 m_F__law_pick := T.df_F__law_pick.good (N := ["_law_deal_here", "_law_some"]) (ps := ["_law_deal_here", "_law_some"]) (o := o_F__law_pick) (t := t_F__law_pick) sc_F__law_pick (by decide) (b_F__law_pick T G__law_draw)
  have G0__law_any : Good P w K mg base (EN T) 3 a.F__law_any ["_law_deal_here", "_law_deep"] [] 2 (m_F__law_any 0) := T.df_F__law_any.never sc_F__law_any _ fun _ _ => rfl
  have G1__law_any : Good P w K mg base (EN T) 4 a.F__law_any ["_law_deal_here", "_law_deep"] [] 2 (m_F__law_any 1) := T.df_F__law_any.good (N := ["_law_deal_here", "_law_deep", "_law_form", "_law_some", "_law_k"]) (ps := ["_law_deal_here", "_law_deep"]) (o := o_F__law_any (m_F__law_any 0)) (t := t_F__law_any) sc_F__law_any (by decide) (b_F__law_any T (G__law_draw.mono (by decide)) G0__law_any (G__law_pick.mono (by decide)))
  have G2__law_any : Good P w K mg base (EN T) 5 a.F__law_any ["_law_deal_here", "_law_deep"] [] 2 (m_F__law_any 2) := T.df_F__law_any.good (N := ["_law_deal_here", "_law_deep", "_law_form", "_law_some", "_law_k"]) (ps := ["_law_deal_here", "_law_deep"]) (o := o_F__law_any (m_F__law_any 1)) (t := t_F__law_any) sc_F__law_any (by decide) (b_F__law_any T (G__law_draw.mono (by decide)) G1__law_any (G__law_pick.mono (by decide)))
  have G3__law_any : Good P w K mg base (EN T) 6 a.F__law_any ["_law_deal_here", "_law_deep"] [] 2 (m_F__law_any 3) := T.df_F__law_any.good (N := ["_law_deal_here", "_law_deep", "_law_form", "_law_some", "_law_k"]) (ps := ["_law_deal_here", "_law_deep"]) (o := o_F__law_any (m_F__law_any 2)) (t := t_F__law_any) sc_F__law_any (by decide) (b_F__law_any T (G__law_draw.mono (by decide)) G2__law_any (G__law_pick.mono (by decide)))
  have G4__law_any : Good P w K mg base (EN T) 7 a.F__law_any ["_law_deal_here", "_law_deep"] [] 2 (m_F__law_any 4) := T.df_F__law_any.good (N := ["_law_deal_here", "_law_deep", "_law_form", "_law_some", "_law_k"]) (ps := ["_law_deal_here", "_law_deep"]) (o := o_F__law_any (m_F__law_any 3)) (t := t_F__law_any) sc_F__law_any (by decide) (b_F__law_any T (G__law_draw.mono (by decide)) G3__law_any (G__law_pick.mono (by decide)))
  have G5__law_any : Good P w K mg base (EN T) 8 a.F__law_any ["_law_deal_here", "_law_deep"] [] 2 (m_F__law_any 5) := T.df_F__law_any.good (N := ["_law_deal_here", "_law_deep", "_law_form", "_law_some", "_law_k"]) (ps := ["_law_deal_here", "_law_deep"]) (o := o_F__law_any (m_F__law_any 4)) (t := t_F__law_any) sc_F__law_any (by decide) (b_F__law_any T (G__law_draw.mono (by decide)) G4__law_any (G__law_pick.mono (by decide)))
  have G__law_any : Good P w K mg base (EN T) 8 a.F__law_any ["_law_deal_here", "_law_deep"] [] 2 (m_F__law_any 5) := G5__law_any
  exact fnI (N := ["_law_script", "_law_deal_here", "_law_turn", "_law_low", "_law_high", "_law_one", "_law_x", "_law_y", "_law_odd", "_law_more", "_law_value"]) (ps := ["_law_script"]) (o := o_F_law) (t := t_F_law) F sc_F_law (by decide) (b_F_law T G__law_deal G__law_draw G_F_Room___contains__ G_F_Mark___contains__ G__law_any G_F_Room___init__ G_F_Mark___init__)
end
/-- what the top has written -/
theorem txt_mk {K : PySem.W.Frag} {h : Heap} {mg : Str → Option Value} {c_Room c_Mark F_is_integer F_is_count F_is_cell F_is_name F_lies_within F_Room___init__ F_Room___contains__ F_Mark___init__ F_Mark___contains__ F__check_rectangle F__law_deal F__law_draw F__law_pick F__law_any F_law a_RESERVED T_F_Room___init__ : Addr} {oc_F_is_integer kV_F_is_integer dc_F_is_integer pm_F_is_integer cd_F_is_integer ct_F_is_integer oc_F_is_count kV_F_is_count dc_F_is_count pm_F_is_count cd_F_is_count ct_F_is_count oc_F_is_cell kV_F_is_cell dc_F_is_cell pm_F_is_cell cd_F_is_cell ct_F_is_cell oc_F_is_name kV_F_is_name dc_F_is_name pm_F_is_name cd_F_is_name ct_F_is_name oc_F_lies_within kV_F_lies_within dc_F_lies_within pm_F_lies_within cd_F_lies_within ct_F_lies_within oc_F_Room___init__ kV_F_Room___init__ dc_F_Room___init__ pm_F_Room___init__ cd_F_Room___init__ ct_F_Room___init__ pc_F_Room___init__ oc_F_Room___contains__ kV_F_Room___contains__ dc_F_Room___contains__ pm_F_Room___contains__ cd_F_Room___contains__ ct_F_Room___contains__ oc_F_Mark___init__ kV_F_Mark___init__ dc_F_Mark___init__ pm_F_Mark___init__ cd_F_Mark___init__ ct_F_Mark___init__ oc_F_Mark___contains__ kV_F_Mark___contains__ dc_F_Mark___contains__ pm_F_Mark___contains__ cd_F_Mark___contains__ ct_F_Mark___contains__ oc_F__check_rectangle kV_F__check_rectangle dc_F__check_rectangle pm_F__check_rectangle cd_F__check_rectangle ct_F__check_rectangle oc_F__law_deal kV_F__law_deal dc_F__law_deal pm_F__law_deal cd_F__law_deal ct_F__law_deal oc_F__law_draw kV_F__law_draw dc_F__law_draw pm_F__law_draw cd_F__law_draw ct_F__law_draw oc_F__law_pick kV_F__law_pick dc_F__law_pick pm_F__law_pick cd_F__law_pick ct_F__law_pick oc_F__law_any kV_F__law_any dc_F__law_any pm_F__law_any cd_F__law_any ct_F__law_any oc_F_law kV_F_law dc_F_law pm_F_law cd_F_law ct_F_law : Value} {od_F_is_integer an_F_is_integer od_F_is_count an_F_is_count od_F_is_cell an_F_is_cell od_F_is_name an_F_is_name od_F_lies_within an_F_lies_within od_F_Room___init__ an_F_Room___init__ pd_F_Room___init__ od_F_Room___contains__ an_F_Room___contains__ od_F_Mark___init__ an_F_Mark___init__ od_F_Mark___contains__ an_F_Mark___contains__ od_F__check_rectangle an_F__check_rectangle od_F__law_deal an_F__law_deal od_F__law_draw an_F__law_draw od_F__law_pick an_F__law_pick od_F__law_any an_F__law_any od_F_law an_F_law od_RESERVED : Option Addr} {sl_F_is_integer sl_F_is_count sl_F_is_cell sl_F_is_name sl_F_lies_within sl_F_Room___init__ ps_F_Room___init__ sl_F_Room___contains__ sl_F_Mark___init__ sl_F_Mark___contains__ sl_F__check_rectangle sl_F__law_deal sl_F__law_draw sl_F__law_pick sl_F__law_any sl_F_law sl_RESERVED : Array (Option Value)} {pe_F_Room___init__ en_RESERVED : Nat} {tk_LETTERS tk_RESERVED_0 tk_RESERVED_1 tk_RESERVED_2 tk_RESERVED_3 tk_RESERVED_4 tk_RESERVED_5 tk_RESERVED_6 tk_RESERVED_7 tk_RESERVED_8 tk_RESERVED_9 tk_RESERVED_10 tk_RESERVED_11 tk_RESERVED_12 : Nat} (X : K.In h) (G : h.Ns mainGlobals mg)
    (h_ogc : PySem.W.specialIn K (.builtin "object.__class__") "__get__" = some (some (.builtin "getset_descriptor.__get__")))
    (h_otk : PySem.W.takesIn K (.builtin "object.__class__") = some true)
    (n_Room : PySem.W.nsIn K mainGlobals "Room" = some (some (.ref c_Room)))
    (pg_Room : PySem.W.plainGet K c_Room Str.empty = true)
    (hd_Room : PySem.W.hasDictIn K c_Room = true)
    (po_Room : PySem.W.plainOver K c_Room = true)
    (sa_Room : PySem.W.findIn K (.ref c_Room) "__setattr__" = some (some (.builtin "object.__setattr__")))
    (mk_Room : PySem.W.makesIn K c_Room = true)
    (kc_Room : PySem.W.keepIn K (.ref c_Room) = true)
    (gc_Room : PySem.W.findIn K (.ref c_Room) "__class__" = some (some (.builtin "object.__class__")))
    (mr_Room : PySem.W.mroIn K c_Room (.type "object") = some true)
    (in_Room : PySem.W.findIn K (.ref c_Room) "__init__" = some (some (.ref F_Room___init__)))
    (if_Room : PySem.W.isFn K (.ref F_Room___init__) = true)
    (kt_Room_int : PySem.W.mroIn K c_Room (.type "int") = some false)
    (kt_Room_bool : PySem.W.mroIn K c_Room (.type "bool") = some false)
    (kt_Room_tuple : PySem.W.mroIn K c_Room (.type "tuple") = some false)
    (kt_Room_str : PySem.W.mroIn K c_Room (.type "str") = some false)
    (na_Room_name : PySem.W.findIn K (.ref c_Room) "name" = some none)
    (na_Room_low : PySem.W.findIn K (.ref c_Room) "low" = some none)
    (na_Room_high : PySem.W.findIn K (.ref c_Room) "high" = some none)
    (na_Room_barred : PySem.W.findIn K (.ref c_Room) "barred" = some none)
    (n_Mark : PySem.W.nsIn K mainGlobals "Mark" = some (some (.ref c_Mark)))
    (pg_Mark : PySem.W.plainGet K c_Mark Str.empty = true)
    (hd_Mark : PySem.W.hasDictIn K c_Mark = true)
    (po_Mark : PySem.W.plainOver K c_Mark = true)
    (sa_Mark : PySem.W.findIn K (.ref c_Mark) "__setattr__" = some (some (.builtin "object.__setattr__")))
    (mk_Mark : PySem.W.makesIn K c_Mark = true)
    (kc_Mark : PySem.W.keepIn K (.ref c_Mark) = true)
    (gc_Mark : PySem.W.findIn K (.ref c_Mark) "__class__" = some (some (.builtin "object.__class__")))
    (mr_Mark : PySem.W.mroIn K c_Mark (.type "object") = some true)
    (in_Mark : PySem.W.findIn K (.ref c_Mark) "__init__" = some (some (.ref F_Mark___init__)))
    (if_Mark : PySem.W.isFn K (.ref F_Mark___init__) = true)
    (kt_Mark_int : PySem.W.mroIn K c_Mark (.type "int") = some false)
    (kt_Mark_bool : PySem.W.mroIn K c_Mark (.type "bool") = some false)
    (kt_Mark_tuple : PySem.W.mroIn K c_Mark (.type "tuple") = some false)
    (kt_Mark_str : PySem.W.mroIn K c_Mark (.type "str") = some false)
    (na_Mark_name : PySem.W.findIn K (.ref c_Mark) "name" = some none)
    (na_Mark_low : PySem.W.findIn K (.ref c_Mark) "low" = some none)
    (na_Mark_high : PySem.W.findIn K (.ref c_Mark) "high" = some none)
    (na_Mark_blur : PySem.W.findIn K (.ref c_Mark) "blur" = some none)
    (n_F_is_integer : PySem.W.nsIn K mainGlobals "is_integer" = some (some (.ref F_is_integer)))
    (l_F_is_integer : K.lookup F_is_integer = some ⟨oc_F_is_integer, od_F_is_integer, .func (PySem.W.fnOf "is_integer" "is_integer" (defArgs (top 3)) (defBody (top 3)) (defScope (top 3)) .none kV_F_is_integer dc_F_is_integer pm_F_is_integer an_F_is_integer cd_F_is_integer ct_F_is_integer), sl_F_is_integer⟩)
    (co_F_is_integer : PySem.W.codeIn K cd_F_is_integer "is_integer" = true)
    (kp_F_is_integer : PySem.W.keepIn K (.ref F_is_integer) = true)
    (n_F_is_count : PySem.W.nsIn K mainGlobals "is_count" = some (some (.ref F_is_count)))
    (l_F_is_count : K.lookup F_is_count = some ⟨oc_F_is_count, od_F_is_count, .func (PySem.W.fnOf "is_count" "is_count" (defArgs (top 4)) (defBody (top 4)) (defScope (top 4)) .none kV_F_is_count dc_F_is_count pm_F_is_count an_F_is_count cd_F_is_count ct_F_is_count), sl_F_is_count⟩)
    (co_F_is_count : PySem.W.codeIn K cd_F_is_count "is_count" = true)
    (kp_F_is_count : PySem.W.keepIn K (.ref F_is_count) = true)
    (n_F_is_cell : PySem.W.nsIn K mainGlobals "is_cell" = some (some (.ref F_is_cell)))
    (l_F_is_cell : K.lookup F_is_cell = some ⟨oc_F_is_cell, od_F_is_cell, .func (PySem.W.fnOf "is_cell" "is_cell" (defArgs (top 5)) (defBody (top 5)) (defScope (top 5)) .none kV_F_is_cell dc_F_is_cell pm_F_is_cell an_F_is_cell cd_F_is_cell ct_F_is_cell), sl_F_is_cell⟩)
    (co_F_is_cell : PySem.W.codeIn K cd_F_is_cell "is_cell" = true)
    (kp_F_is_cell : PySem.W.keepIn K (.ref F_is_cell) = true)
    (n_F_is_name : PySem.W.nsIn K mainGlobals "is_name" = some (some (.ref F_is_name)))
    (l_F_is_name : K.lookup F_is_name = some ⟨oc_F_is_name, od_F_is_name, .func (PySem.W.fnOf "is_name" "is_name" (defArgs (top 6)) (defBody (top 6)) (defScope (top 6)) .none kV_F_is_name dc_F_is_name pm_F_is_name an_F_is_name cd_F_is_name ct_F_is_name), sl_F_is_name⟩)
    (co_F_is_name : PySem.W.codeIn K cd_F_is_name "is_name" = true)
    (kp_F_is_name : PySem.W.keepIn K (.ref F_is_name) = true)
    (n_F_lies_within : PySem.W.nsIn K mainGlobals "lies_within" = some (some (.ref F_lies_within)))
    (l_F_lies_within : K.lookup F_lies_within = some ⟨oc_F_lies_within, od_F_lies_within, .func (PySem.W.fnOf "lies_within" "lies_within" (defArgs (top 7)) (defBody (top 7)) (defScope (top 7)) .none kV_F_lies_within dc_F_lies_within pm_F_lies_within an_F_lies_within cd_F_lies_within ct_F_lies_within), sl_F_lies_within⟩)
    (co_F_lies_within : PySem.W.codeIn K cd_F_lies_within "lies_within" = true)
    (kp_F_lies_within : PySem.W.keepIn K (.ref F_lies_within) = true)
    (l_F_Room___init__ : K.lookup F_Room___init__ = some ⟨oc_F_Room___init__, od_F_Room___init__, .func (PySem.W.fnOf "__init__" "Room.__init__" (defArgs (inClass (top 12) 0)) (defBody (inClass (top 12) 0)) (defScope (inClass (top 12) 0)) (.ref T_F_Room___init__) kV_F_Room___init__ dc_F_Room___init__ pm_F_Room___init__ an_F_Room___init__ cd_F_Room___init__ ct_F_Room___init__), sl_F_Room___init__⟩)
    (co_F_Room___init__ : PySem.W.codeIn K cd_F_Room___init__ "Room.__init__" = true)
    (kp_F_Room___init__ : PySem.W.keepIn K (.ref F_Room___init__) = true)
    (lt_F_Room___init__ : K.lookup T_F_Room___init__ = some ⟨pc_F_Room___init__, pd_F_Room___init__, .seq (List.toArray [Value.bool false]) pe_F_Room___init__, ps_F_Room___init__⟩)
    (fi_F_Room___contains__ : PySem.W.findIn K (.ref c_Room) "__contains__" = some (some (.ref F_Room___contains__)))
    (ty_F_Room___contains__ : PySem.W.typeIn K (.ref F_Room___contains__) = some (.type "function"))
    (l_F_Room___contains__ : K.lookup F_Room___contains__ = some ⟨oc_F_Room___contains__, od_F_Room___contains__, .func (PySem.W.fnOf "__contains__" "Room.__contains__" (defArgs (inClass (top 12) 1)) (defBody (inClass (top 12) 1)) (defScope (inClass (top 12) 1)) .none kV_F_Room___contains__ dc_F_Room___contains__ pm_F_Room___contains__ an_F_Room___contains__ cd_F_Room___contains__ ct_F_Room___contains__), sl_F_Room___contains__⟩)
    (co_F_Room___contains__ : PySem.W.codeIn K cd_F_Room___contains__ "Room.__contains__" = true)
    (kp_F_Room___contains__ : PySem.W.keepIn K (.ref F_Room___contains__) = true)
    (l_F_Mark___init__ : K.lookup F_Mark___init__ = some ⟨oc_F_Mark___init__, od_F_Mark___init__, .func (PySem.W.fnOf "__init__" "Mark.__init__" (defArgs (inClass (top 13) 0)) (defBody (inClass (top 13) 0)) (defScope (inClass (top 13) 0)) .none kV_F_Mark___init__ dc_F_Mark___init__ pm_F_Mark___init__ an_F_Mark___init__ cd_F_Mark___init__ ct_F_Mark___init__), sl_F_Mark___init__⟩)
    (co_F_Mark___init__ : PySem.W.codeIn K cd_F_Mark___init__ "Mark.__init__" = true)
    (kp_F_Mark___init__ : PySem.W.keepIn K (.ref F_Mark___init__) = true)
    (fi_F_Mark___contains__ : PySem.W.findIn K (.ref c_Mark) "__contains__" = some (some (.ref F_Mark___contains__)))
    (ty_F_Mark___contains__ : PySem.W.typeIn K (.ref F_Mark___contains__) = some (.type "function"))
    (l_F_Mark___contains__ : K.lookup F_Mark___contains__ = some ⟨oc_F_Mark___contains__, od_F_Mark___contains__, .func (PySem.W.fnOf "__contains__" "Mark.__contains__" (defArgs (inClass (top 13) 1)) (defBody (inClass (top 13) 1)) (defScope (inClass (top 13) 1)) .none kV_F_Mark___contains__ dc_F_Mark___contains__ pm_F_Mark___contains__ an_F_Mark___contains__ cd_F_Mark___contains__ ct_F_Mark___contains__), sl_F_Mark___contains__⟩)
    (co_F_Mark___contains__ : PySem.W.codeIn K cd_F_Mark___contains__ "Mark.__contains__" = true)
    (kp_F_Mark___contains__ : PySem.W.keepIn K (.ref F_Mark___contains__) = true)
    (n_F__check_rectangle : PySem.W.nsIn K mainGlobals "_check_rectangle" = some (some (.ref F__check_rectangle)))
    (l_F__check_rectangle : K.lookup F__check_rectangle = some ⟨oc_F__check_rectangle, od_F__check_rectangle, .func (PySem.W.fnOf "_check_rectangle" "_check_rectangle" (defArgs (top 14)) (defBody (top 14)) (defScope (top 14)) .none kV_F__check_rectangle dc_F__check_rectangle pm_F__check_rectangle an_F__check_rectangle cd_F__check_rectangle ct_F__check_rectangle), sl_F__check_rectangle⟩)
    (co_F__check_rectangle : PySem.W.codeIn K cd_F__check_rectangle "_check_rectangle" = true)
    (kp_F__check_rectangle : PySem.W.keepIn K (.ref F__check_rectangle) = true)
    (n_F__law_deal : PySem.W.nsIn K mainGlobals "_law_deal" = some (some (.ref F__law_deal)))
    (l_F__law_deal : K.lookup F__law_deal = some ⟨oc_F__law_deal, od_F__law_deal, .func (PySem.W.fnOf "_law_deal" "_law_deal" (defArgs (top 16)) (defBody (top 16)) (defScope (top 16)) .none kV_F__law_deal dc_F__law_deal pm_F__law_deal an_F__law_deal cd_F__law_deal ct_F__law_deal), sl_F__law_deal⟩)
    (co_F__law_deal : PySem.W.codeIn K cd_F__law_deal "_law_deal" = true)
    (kp_F__law_deal : PySem.W.keepIn K (.ref F__law_deal) = true)
    (n_F__law_draw : PySem.W.nsIn K mainGlobals "_law_draw" = some (some (.ref F__law_draw)))
    (l_F__law_draw : K.lookup F__law_draw = some ⟨oc_F__law_draw, od_F__law_draw, .func (PySem.W.fnOf "_law_draw" "_law_draw" (defArgs (top 17)) (defBody (top 17)) (defScope (top 17)) .none kV_F__law_draw dc_F__law_draw pm_F__law_draw an_F__law_draw cd_F__law_draw ct_F__law_draw), sl_F__law_draw⟩)
    (co_F__law_draw : PySem.W.codeIn K cd_F__law_draw "_law_draw" = true)
    (kp_F__law_draw : PySem.W.keepIn K (.ref F__law_draw) = true)
    (n_F__law_pick : PySem.W.nsIn K mainGlobals "_law_pick" = some (some (.ref F__law_pick)))
    (l_F__law_pick : K.lookup F__law_pick = some ⟨oc_F__law_pick, od_F__law_pick, .func (PySem.W.fnOf "_law_pick" "_law_pick" (defArgs (top 18)) (defBody (top 18)) (defScope (top 18)) .none kV_F__law_pick dc_F__law_pick pm_F__law_pick an_F__law_pick cd_F__law_pick ct_F__law_pick), sl_F__law_pick⟩)
    (co_F__law_pick : PySem.W.codeIn K cd_F__law_pick "_law_pick" = true)
    (kp_F__law_pick : PySem.W.keepIn K (.ref F__law_pick) = true)
    (n_F__law_any : PySem.W.nsIn K mainGlobals "_law_any" = some (some (.ref F__law_any)))
    (l_F__law_any : K.lookup F__law_any = some ⟨oc_F__law_any, od_F__law_any, .func (PySem.W.fnOf "_law_any" "_law_any" (defArgs (top 19)) (defBody (top 19)) (defScope (top 19)) .none kV_F__law_any dc_F__law_any pm_F__law_any an_F__law_any cd_F__law_any ct_F__law_any), sl_F__law_any⟩)
    (co_F__law_any : PySem.W.codeIn K cd_F__law_any "_law_any" = true)
    (kp_F__law_any : PySem.W.keepIn K (.ref F__law_any) = true)
    (n_F_law : PySem.W.nsIn K mainGlobals "law" = some (some (.ref F_law)))
    (l_F_law : K.lookup F_law = some ⟨oc_F_law, od_F_law, .func (PySem.W.fnOf "law" "law" (defArgs (top 20)) (defBody (top 20)) (defScope (top 20)) .none kV_F_law dc_F_law pm_F_law an_F_law cd_F_law ct_F_law), sl_F_law⟩)
    (co_F_law : PySem.W.codeIn K cd_F_law "law" = true)
    (kp_F_law : PySem.W.keepIn K (.ref F_law) = true)
    (z_isinstance : PySem.W.nsIn K mainGlobals "isinstance" = some none)
    (z_int : PySem.W.nsIn K mainGlobals "int" = some none)
    (z_bool : PySem.W.nsIn K mainGlobals "bool" = some none)
    (z_tuple : PySem.W.nsIn K mainGlobals "tuple" = some none)
    (z_len : PySem.W.nsIn K mainGlobals "len" = some none)
    (z_str : PySem.W.nsIn K mainGlobals "str" = some none)
    (z_all : PySem.W.nsIn K mainGlobals "all" = some none)
    (z_abs : PySem.W.nsIn K mainGlobals "abs" = some none)
    (z_range : PySem.W.nsIn K mainGlobals "range" = some none)
    (z_repr : PySem.W.nsIn K mainGlobals "repr" = some none)
    (g_LETTERS : PySem.W.nsIn K mainGlobals "LETTERS" = some (some (.str "abcdefghijklmnopqrstuvwxyz" tk_LETTERS)))
    (g_RESERVED : PySem.W.nsIn K mainGlobals "RESERVED" = some (some (.ref a_RESERVED)))
    (q_RESERVED : K.lookup a_RESERVED = some ⟨.type "tuple", od_RESERVED, .seq (List.toArray [Value.str "start" tk_RESERVED_0, Value.str "go" tk_RESERVED_1, Value.str "if" tk_RESERVED_2, Value.str "else" tk_RESERVED_3, Value.str "while" tk_RESERVED_4, Value.str "see" tk_RESERVED_5, Value.str "stop" tk_RESERVED_6, Value.str "end" tk_RESERVED_7, Value.str "barred" tk_RESERVED_8, Value.str "halted" tk_RESERVED_9, Value.str "never" tk_RESERVED_10, Value.str "astray" tk_RESERVED_11, Value.str "endless" tk_RESERVED_12]) en_RESERVED, sl_RESERVED⟩) :
    Txt K mg ⟨c_Room, c_Mark, F_is_integer, F_is_count, F_is_cell, F_is_name, F_lies_within, F_Room___init__, F_Room___contains__, F_Mark___init__, F_Mark___contains__, F__check_rectangle, F__law_deal, F__law_draw, F__law_pick, F__law_any, F_law, a_RESERVED⟩ := by
  have D_F_is_integer : Def K F_is_integer "is_integer" "is_integer" (top 3) ["value"] [] := by
    have FD : FunD K "is_integer" "is_integer" (defArgs (top 3)) (defBody (top 3)) (defScope (top 3)) [] [] F_is_integer _ := ⟨⟨_, _, _, _, _, _, _, _, _, _, rfl, l_F_is_integer, co_F_is_integer, .inl ⟨rfl, rfl⟩, .inl rfl⟩, kp_F_is_integer⟩
    exact ⟨_, FD, fun j _ => ⟨[], by cases j <;> exact .nil, FD.bindsN fun _ _ _ _ _ _ us hl => match us, hl with | [_], _ => rfl⟩⟩
  have D_F_is_count : Def K F_is_count "is_count" "is_count" (top 4) ["value", "least"] [] := by
    have FD : FunD K "is_count" "is_count" (defArgs (top 4)) (defBody (top 4)) (defScope (top 4)) [] [] F_is_count _ := ⟨⟨_, _, _, _, _, _, _, _, _, _, rfl, l_F_is_count, co_F_is_count, .inl ⟨rfl, rfl⟩, .inl rfl⟩, kp_F_is_count⟩
    exact ⟨_, FD, fun j _ => ⟨[], by cases j <;> exact .nil, FD.bindsN fun _ _ _ _ _ _ us hl => match us, hl with | [_, _], _ => rfl⟩⟩
  have D_F_is_cell : Def K F_is_cell "is_cell" "is_cell" (top 5) ["value"] [] := by
    have FD : FunD K "is_cell" "is_cell" (defArgs (top 5)) (defBody (top 5)) (defScope (top 5)) [] [] F_is_cell _ := ⟨⟨_, _, _, _, _, _, _, _, _, _, rfl, l_F_is_cell, co_F_is_cell, .inl ⟨rfl, rfl⟩, .inl rfl⟩, kp_F_is_cell⟩
    exact ⟨_, FD, fun j _ => ⟨[], by cases j <;> exact .nil, FD.bindsN fun _ _ _ _ _ _ us hl => match us, hl with | [_], _ => rfl⟩⟩
  have D_F_is_name : Def K F_is_name "is_name" "is_name" (top 6) ["value"] [] := by
    have FD : FunD K "is_name" "is_name" (defArgs (top 6)) (defBody (top 6)) (defScope (top 6)) [] [] F_is_name _ := ⟨⟨_, _, _, _, _, _, _, _, _, _, rfl, l_F_is_name, co_F_is_name, .inl ⟨rfl, rfl⟩, .inl rfl⟩, kp_F_is_name⟩
    exact ⟨_, FD, fun j _ => ⟨[], by cases j <;> exact .nil, FD.bindsN fun _ _ _ _ _ _ us hl => match us, hl with | [_], _ => rfl⟩⟩
  have D_F_lies_within : Def K F_lies_within "lies_within" "lies_within" (top 7) ["cell", "low", "high"] [] := by
    have FD : FunD K "lies_within" "lies_within" (defArgs (top 7)) (defBody (top 7)) (defScope (top 7)) [] [] F_lies_within _ := ⟨⟨_, _, _, _, _, _, _, _, _, _, rfl, l_F_lies_within, co_F_lies_within, .inl ⟨rfl, rfl⟩, .inl rfl⟩, kp_F_lies_within⟩
    exact ⟨_, FD, fun j _ => ⟨[], by cases j <;> exact .nil, FD.bindsN fun _ _ _ _ _ _ us hl => match us, hl with | [_, _, _], _ => rfl⟩⟩
  have D_F_Room___init__ : Def K F_Room___init__ "__init__" "Room.__init__" (inClass (top 12) 0) ["self", "name", "low", "high", "barred"] [V.bl false] := by
    have FD : FunD K "__init__" "Room.__init__" (defArgs (inClass (top 12) 0)) (defBody (inClass (top 12) 0)) (defScope (inClass (top 12) 0)) [V.bl false] [] F_Room___init__ _ := ⟨⟨_, _, _, _, _, _, _, _, _, _, rfl, l_F_Room___init__, co_F_Room___init__, .inr ⟨by simp, T_F_Room___init__, _, [Value.bool false], _, rfl, lt_F_Room___init__, rfl, (.cons rfl .nil)⟩, .inl rfl⟩, kp_F_Room___init__⟩
    exact ⟨_, FD, fun
      | 0, _ => FD.binds1 4 0 (by simp) rfl fun T kV doc pm an cdv ct us its h1 h2 => match us, its, h1, h2 with | [_, _, _, _], [_], _, _ => ⟨_, rfl, rfl⟩
      | 1, _ => FD.binds1 5 1 (by simp) rfl fun T kV doc pm an cdv ct us its h1 h2 => match us, its, h1, h2 with | [_, _, _, _, _], [_], _, _ => ⟨_, rfl, rfl⟩
      | n + 2, h => absurd h (by simp)⟩
  have D_F_Room___contains__ : Def K F_Room___contains__ "__contains__" "Room.__contains__" (inClass (top 12) 1) ["self", "cell"] [] := by
    have FD : FunD K "__contains__" "Room.__contains__" (defArgs (inClass (top 12) 1)) (defBody (inClass (top 12) 1)) (defScope (inClass (top 12) 1)) [] [] F_Room___contains__ _ := ⟨⟨_, _, _, _, _, _, _, _, _, _, rfl, l_F_Room___contains__, co_F_Room___contains__, .inl ⟨rfl, rfl⟩, .inl rfl⟩, kp_F_Room___contains__⟩
    exact ⟨_, FD, fun j _ => ⟨[], by cases j <;> exact .nil, FD.bindsN fun _ _ _ _ _ _ us hl => match us, hl with | [_, _], _ => rfl⟩⟩
  have D_F_Mark___init__ : Def K F_Mark___init__ "__init__" "Mark.__init__" (inClass (top 13) 0) ["self", "name", "low", "high", "blur"] [] := by
    have FD : FunD K "__init__" "Mark.__init__" (defArgs (inClass (top 13) 0)) (defBody (inClass (top 13) 0)) (defScope (inClass (top 13) 0)) [] [] F_Mark___init__ _ := ⟨⟨_, _, _, _, _, _, _, _, _, _, rfl, l_F_Mark___init__, co_F_Mark___init__, .inl ⟨rfl, rfl⟩, .inl rfl⟩, kp_F_Mark___init__⟩
    exact ⟨_, FD, fun j _ => ⟨[], by cases j <;> exact .nil, FD.bindsN fun _ _ _ _ _ _ us hl => match us, hl with | [_, _, _, _, _], _ => rfl⟩⟩
  have D_F_Mark___contains__ : Def K F_Mark___contains__ "__contains__" "Mark.__contains__" (inClass (top 13) 1) ["self", "cell"] [] := by
    have FD : FunD K "__contains__" "Mark.__contains__" (defArgs (inClass (top 13) 1)) (defBody (inClass (top 13) 1)) (defScope (inClass (top 13) 1)) [] [] F_Mark___contains__ _ := ⟨⟨_, _, _, _, _, _, _, _, _, _, rfl, l_F_Mark___contains__, co_F_Mark___contains__, .inl ⟨rfl, rfl⟩, .inl rfl⟩, kp_F_Mark___contains__⟩
    exact ⟨_, FD, fun j _ => ⟨[], by cases j <;> exact .nil, FD.bindsN fun _ _ _ _ _ _ us hl => match us, hl with | [_, _], _ => rfl⟩⟩
  have D_F__check_rectangle : Def K F__check_rectangle "_check_rectangle" "_check_rectangle" (top 14) ["name", "low", "high"] [] := by
    have FD : FunD K "_check_rectangle" "_check_rectangle" (defArgs (top 14)) (defBody (top 14)) (defScope (top 14)) [] [] F__check_rectangle _ := ⟨⟨_, _, _, _, _, _, _, _, _, _, rfl, l_F__check_rectangle, co_F__check_rectangle, .inl ⟨rfl, rfl⟩, .inl rfl⟩, kp_F__check_rectangle⟩
    exact ⟨_, FD, fun j _ => ⟨[], by cases j <;> exact .nil, FD.bindsN fun _ _ _ _ _ _ us hl => match us, hl with | [_, _, _], _ => rfl⟩⟩
  have D_F__law_deal : Def K F__law_deal "_law_deal" "_law_deal" (top 16) ["_law_script"] [] := by
    have FD : FunD K "_law_deal" "_law_deal" (defArgs (top 16)) (defBody (top 16)) (defScope (top 16)) [] [] F__law_deal _ := ⟨⟨_, _, _, _, _, _, _, _, _, _, rfl, l_F__law_deal, co_F__law_deal, .inl ⟨rfl, rfl⟩, .inl rfl⟩, kp_F__law_deal⟩
    exact ⟨_, FD, fun j _ => ⟨[], by cases j <;> exact .nil, FD.bindsN fun _ _ _ _ _ _ us hl => match us, hl with | [_], _ => rfl⟩⟩
  have D_F__law_draw : Def K F__law_draw "_law_draw" "_law_draw" (top 17) ["_law_deal_here", "_law_many"] [] := by
    have FD : FunD K "_law_draw" "_law_draw" (defArgs (top 17)) (defBody (top 17)) (defScope (top 17)) [] [] F__law_draw _ := ⟨⟨_, _, _, _, _, _, _, _, _, _, rfl, l_F__law_draw, co_F__law_draw, .inl ⟨rfl, rfl⟩, .inl rfl⟩, kp_F__law_draw⟩
    exact ⟨_, FD, fun j _ => ⟨[], by cases j <;> exact .nil, FD.bindsN fun _ _ _ _ _ _ us hl => match us, hl with | [_, _], _ => rfl⟩⟩
  have D_F__law_pick : Def K F__law_pick "_law_pick" "_law_pick" (top 18) ["_law_deal_here", "_law_some"] [] := by
    have FD : FunD K "_law_pick" "_law_pick" (defArgs (top 18)) (defBody (top 18)) (defScope (top 18)) [] [] F__law_pick _ := ⟨⟨_, _, _, _, _, _, _, _, _, _, rfl, l_F__law_pick, co_F__law_pick, .inl ⟨rfl, rfl⟩, .inl rfl⟩, kp_F__law_pick⟩
    exact ⟨_, FD, fun j _ => ⟨[], by cases j <;> exact .nil, FD.bindsN fun _ _ _ _ _ _ us hl => match us, hl with | [_, _], _ => rfl⟩⟩
  have D_F__law_any : Def K F__law_any "_law_any" "_law_any" (top 19) ["_law_deal_here", "_law_deep"] [] := by
    have FD : FunD K "_law_any" "_law_any" (defArgs (top 19)) (defBody (top 19)) (defScope (top 19)) [] [] F__law_any _ := ⟨⟨_, _, _, _, _, _, _, _, _, _, rfl, l_F__law_any, co_F__law_any, .inl ⟨rfl, rfl⟩, .inl rfl⟩, kp_F__law_any⟩
    exact ⟨_, FD, fun j _ => ⟨[], by cases j <;> exact .nil, FD.bindsN fun _ _ _ _ _ _ us hl => match us, hl with | [_, _], _ => rfl⟩⟩
  have D_F_law : Def K F_law "law" "law" (top 20) ["_law_script"] [] := by
    have FD : FunD K "law" "law" (defArgs (top 20)) (defBody (top 20)) (defScope (top 20)) [] [] F_law _ := ⟨⟨_, _, _, _, _, _, _, _, _, _, rfl, l_F_law, co_F_law, .inl ⟨rfl, rfl⟩, .inl rfl⟩, kp_F_law⟩
    exact ⟨_, FD, fun j _ => ⟨[], by cases j <;> exact .nil, FD.bindsN fun _ _ _ _ _ _ us hl => match us, hl with | [_], _ => rfl⟩⟩
  exact ⟨h_ogc,
    h_otk,
    ⟨⟨pg_Room, hd_Room, po_Room, sa_Room⟩, gc_Room, mr_Room⟩,
    PySem.W.mg_of X G n_Room,
    ⟨mk_Room, in_Room, if_Room, kc_Room⟩,
    kit_mro rfl kt_Room_int,
    kit_mro rfl kt_Room_bool,
    kit_mro rfl kt_Room_tuple,
    kit_mro rfl kt_Room_str,
    na_Room_name,
    na_Room_low,
    na_Room_high,
    na_Room_barred,
    ⟨⟨pg_Mark, hd_Mark, po_Mark, sa_Mark⟩, gc_Mark, mr_Mark⟩,
    PySem.W.mg_of X G n_Mark,
    ⟨mk_Mark, in_Mark, if_Mark, kc_Mark⟩,
    kit_mro rfl kt_Mark_int,
    kit_mro rfl kt_Mark_bool,
    kit_mro rfl kt_Mark_tuple,
    kit_mro rfl kt_Mark_str,
    na_Mark_name,
    na_Mark_low,
    na_Mark_high,
    na_Mark_blur,
    D_F_is_integer,
    PySem.W.mg_of X G n_F_is_integer,
    kp_F_is_integer,
    D_F_is_count,
    PySem.W.mg_of X G n_F_is_count,
    kp_F_is_count,
    D_F_is_cell,
    PySem.W.mg_of X G n_F_is_cell,
    kp_F_is_cell,
    D_F_is_name,
    PySem.W.mg_of X G n_F_is_name,
    kp_F_is_name,
    D_F_lies_within,
    PySem.W.mg_of X G n_F_lies_within,
    kp_F_lies_within,
    D_F_Room___init__,
    D_F_Room___contains__,
    ⟨fi_F_Room___contains__, ty_F_Room___contains__⟩,
    D_F_Mark___init__,
    D_F_Mark___contains__,
    ⟨fi_F_Mark___contains__, ty_F_Mark___contains__⟩,
    D_F__check_rectangle,
    PySem.W.mg_of X G n_F__check_rectangle,
    kp_F__check_rectangle,
    D_F__law_deal,
    PySem.W.mg_of X G n_F__law_deal,
    kp_F__law_deal,
    D_F__law_draw,
    PySem.W.mg_of X G n_F__law_draw,
    kp_F__law_draw,
    D_F__law_pick,
    PySem.W.mg_of X G n_F__law_pick,
    kp_F__law_pick,
    D_F__law_any,
    PySem.W.mg_of X G n_F__law_any,
    kp_F__law_any,
    D_F_law,
    PySem.W.mg_of X G n_F_law,
    kp_F_law,
    PySem.W.mg_none_of X G z_isinstance,
    PySem.W.mg_none_of X G z_int,
    PySem.W.mg_none_of X G z_bool,
    PySem.W.mg_none_of X G z_tuple,
    PySem.W.mg_none_of X G z_len,
    PySem.W.mg_none_of X G z_str,
    PySem.W.mg_none_of X G z_all,
    PySem.W.mg_none_of X G z_abs,
    PySem.W.mg_none_of X G z_range,
    PySem.W.mg_none_of X G z_repr,
    ⟨_, PySem.W.mg_of X G g_LETTERS⟩,
    PySem.W.mg_of X G g_RESERVED,
    fun S => .inr ⟨_, _, _, q_RESERVED, rfl, rfl, by show 13 ≤ sizeLine; decide, (.cons ⟨_, rfl⟩ (.cons ⟨_, rfl⟩ (.cons ⟨_, rfl⟩ (.cons ⟨_, rfl⟩ (.cons ⟨_, rfl⟩ (.cons ⟨_, rfl⟩ (.cons ⟨_, rfl⟩ (.cons ⟨_, rfl⟩ (.cons ⟨_, rfl⟩ (.cons ⟨_, rfl⟩ (.cons ⟨_, rfl⟩ (.cons ⟨_, rfl⟩ (.cons ⟨_, rfl⟩ .nil)))))))))))))⟩⟩
end K04
namespace K04
open PySem Pi
section
variable {g : List MO} {r : Nat} {m : Int}
theorem draw4 (h : Strm g r) (h0 : 0 < m) (h1 : m < 1073741824) : ∃ k g', m_F__law_draw [.ref r, .int m] g = .ok (.int k) g' ∧ 0 ≤ k ∧ k < m ∧ Strm g' r := by
  obtain ⟨k, g', e, a, b, c, _⟩ := draw_ok (o := o_F__law_draw) h h0 h1
  exact ⟨k, g', e, a, b, c⟩
theorem deal4 (ns : List Int) : ∃ g', m_F__law_deal [.lst (ns.map .int)] [] = .ok (.ref 1) g' ∧ Strm g' 1 := by
  obtain ⟨g', e, a, _⟩ := deal_ok (o := o_F__law_deal) ns
  exact ⟨g', e, a⟩
theorem atI_nat {α : Type} {ds : List α} {k : Int} (h0 : 0 ≤ k) (h1 : k < ds.length) : ∃ x, L2.atI ds k = some x ∧ x ∈ ds := by
  unfold L2.atI L2.ixN
  rw [if_pos h0, if_pos h1]
  have hk : k.toNat < ds.length := by omega
  exact ⟨ds[k.toNat], by simp [hk], List.getElem_mem hk⟩
theorem pick4 {ds : List D} (h : Strm g r) (h0 : 0 < ds.length) (h1 : ds.length ≤ big) : ∃ x g', m_F__law_pick [.ref r, .lst ds] g = .ok x g' ∧ x ∈ ds ∧ Strm g' r := by
  obtain ⟨k, g', e, a, b, c⟩ := draw4 (m := ds.length) h (by omega) (by unfold big at h1; omega)
  obtain ⟨x, hx, hm⟩ := atI_nat a b
  refine ⟨x, g', ?_, hm, c⟩
  have e1 : ev o_F__law_pick (.call 13 (.cons (.v 0) (.cons (.bi .len (.cons (.v 1) .nil)) .nil)) []) ⟨[.v (.ref r), .v (.lst ds)], g⟩ = .ok (.int k) ⟨[.v (.ref r), .v (.lst ds)], g'⟩ := by
    show R.ofC _ (m_F__law_draw [.ref r, .int ds.length] g) = _
    rw [e]
    rfl
  show ((((ev o_F__law_pick (.call 13 (.cons (.v 0) (.cons (.bi .len (.cons (.v 1) .nil)) .nil)) []) ⟨[.v (.ref r), .v (.lst ds)], g⟩).bind fun y s => R.of (ixS (view s.g (.lst ds)) y) s).bind fun d s => .ok (.rt d) s) : R F).toC = _
  rw [e1]
  show ((R.of (L2.atI ds k) (⟨[.v (.ref r), .v (.lst ds)], g'⟩ : S)).bind fun d s => (.ok (.rt d) s : R F)).toC = _
  rw [hx]
  rfl
/-- any value -/
theorem any4 : ∀ (n : Nat) {g : List MO} {d : Int}, Strm g r → 0 ≤ d → d < n → ∃ x g', m_F__law_any n [.ref r, .int d] g = .ok x g' ∧ Strm g' r
  | 0, g, d, h, h0, h1 => by omega
  | n + 1, g, d, h, h0, h1 => by
    obtain ⟨k, g1, e1, a1, b1, c1⟩ := draw4 (m := 11) h (by decide) (by decide)
    have s1 : evS (o_F__law_any (m_F__law_any n)) (.asg (.one 2) (.call 13 (.cons (.v 0) (.cons (.c (.int 11)) .nil)) [])) ⟨[.v (.ref r), .v (.int d), .un, .un, .un], g⟩ = .ok .nx ⟨[.v (.ref r), .v (.int d), .v (.int k), .un, .un], g1⟩ := by
      show ((R.ofC _ (m_F__law_draw [.ref r, .int 11] g) : R D).bind _ : R F) = _
      rw [e1]
      rfl
    have pk : ∀ (ta : T) (ds : List D), ev (o_F__law_any (m_F__law_any n)) (.lst ta) ⟨[.v (.ref r), .v (.int d), .v (.int k), .un, .un], g1⟩ = .ok (.lst ds) ⟨[.v (.ref r), .v (.int d), .v (.int k), .un, .un], g1⟩ → 0 < ds.length → ds.length ≤ big →
        ∃ x g', evS (o_F__law_any (m_F__law_any n)) (.ret (.call 14 (.cons (.v 0) (.cons (.lst ta) .nil)) [])) ⟨[.v (.ref r), .v (.int d), .v (.int k), .un, .un], g1⟩ = .ok (.rt x) ⟨[.v (.ref r), .v (.int d), .v (.int k), .un, .un], g'⟩ ∧ Strm g' r := by
      intro ta ds e l0 l1
      obtain ⟨x, g', e2, _, c2⟩ := pick4 c1 l0 l1
      refine ⟨x, g', ?_, c2⟩
      show ((((ev (o_F__law_any (m_F__law_any n)) (.lst ta) ⟨[.v (.ref r), .v (.int d), .v (.int k), .un, .un], g1⟩).bind fun x s => (R.ok [] s : R (List D)).bind fun xs s => R.ok (x :: xs) s).bind fun xs s => R.ok (D.ref r :: xs) s).bind fun ds s => R.ofC s.l (m_F__law_pick (ds ++ []) s.g) : R D).bind _ = _
      rw [e]
      show ((R.ofC _ (m_F__law_pick [.ref r, .lst ds] g1) : R D).bind _ : R F) = _
      rw [e2]
      rfl
    obtain ⟨x1, g2, q1, q2⟩ := pk (.cons (.c (.int 0)) (.cons (.c (.int 1)) (.cons (.neg (.c (.int 1))) (.cons (.c (.int 3)) (.cons (.op2 .pow (.c (.int 10)) (.c (.int 20))) (.cons (.c (.bl true)) (.cons (.c (.bl false)) (.cons (.c .non) .nil))))))))
      [.int 0, .int 1, .int (-1), .int 3, .int (10 ^ 20), .bl true, .bl false, .non] rfl (by decide) (by decide)
    obtain ⟨x2, g3, q3, q4⟩ := pk (.cons (.c (.str "")) (.cons (.c (.str "east")) (.cons (.c (.str "x < 3")) (.cons (.c (.str "goal")) (.cons (.c (.str "go")) (.cons (.c (.str "barred")) (.cons (.c (.str "start")) (.cons (.c (.str "Lamp")) (.cons (.c (.str " ")) (.cons (.c (.str "sevenly")) .nil))))))))))
      [.str "", .str "east", .str "x < 3", .str "goal", .str "go", .str "barred", .str "start", .str "Lamp", .str " ", .str "sevenly"] rfl (by decide) (by decide)
    -- the first way
    have way1 : (0 < d ∧ k < 4) → ∃ x g' l, evS (o_F__law_any (m_F__law_any n)) (.ite (.and (.op2 .gt (.v 1) (.c (.int 0))) (.op2 .lt (.v 2) (.c (.int 4)))) (.seq (.asg (.one 3) (.comp 4 (.rng1 (.call 13 (.cons (.v 0) (.cons (.c (.int 4)) .nil)) [])) (.c (.bl true)) (.call 15 (.cons (.v 0) (.cons (.op2 .sub (.v 1) (.c (.int 1))) .nil)) [])))
    (.ret (.ite (.op2 .lt (.v 2) (.c (.int 2))) (.bi .tuple (.cons (.v 3) .nil)) (.v 3)))) .nil) ⟨[.v (.ref r), .v (.int d), .v (.int k), .un, .un], g1⟩ = .ok (.rt x) ⟨l, g'⟩ ∧ Strm g' r := by
      rintro ⟨hd, hk⟩
      obtain ⟨j, g4, e4, a4, b4, c4⟩ := draw4 (m := 4) c1 (by decide) (by decide)
      have i1 : evI (o_F__law_any (m_F__law_any n)) (.rng1 (.call 13 (.cons (.v 0) (.cons (.c (.int 4)) .nil)) [])) ⟨[.v (.ref r), .v (.int d), .v (.int k), .un, .un], g1⟩ = .ok ((List.range j.toNat).map fun (k : Nat) => .int k) ⟨[.v (.ref r), .v (.int d), .v (.int k), .un, .un], g4⟩ := by
        show ((R.ofC _ (m_F__law_draw [.ref r, .int 4] g1) : R D).bind _ : R (List D)) = _
        rw [e4]
        show (bif decide (-(2 ^ 62) ≤ j) && decide (j < 2 ^ 62) then R.ok ((List.range j.toNat).map fun (k : Nat) => D.int k) _ else .no) = _
        rw [decide_eq_true (by omega), decide_eq_true (by omega)]
        rfl
      obtain ⟨xs, s5, e5, c5, l5, _⟩ := loopC_inv (I := fun g => Strm g r) (Q := fun _ => True) (acc := []) (g := g4) (ds := (List.range j.toNat).map fun (k : Nat) => .int k)
        (f := cbody (o_F__law_any (m_F__law_any n)) [.v (.ref r), .v (.int d), .v (.int k), .un, .un] 4 (.c (.bl true)) (.call 15 (.cons (.v 0) (.cons (.op2 .sub (.v 1) (.c (.int 1))) .nil)) [])) (fun y _ g hg => by
          obtain ⟨x, g', e, c⟩ := any4 n (d := d - 1) hg (by omega) (by omega)
          refine ⟨⟨[.v (.ref r), .v (.int d), .v (.int k), .un, .v y], g'⟩, c, .inr ⟨x, trivial, ?_⟩⟩
          show ((R.ofC _ (m_F__law_any n [.ref r, .int (d - 1)] g) : R D).bind _ : R (Option D)) = _
          rw [e]
          rfl) c4
      rw [List.nil_append] at e5
      have hl : ((List.range j.toNat).map fun (k : Nat) => D.int k).length ≤ big := by rw [List.length_map, List.length_range]; unfold big; omega
      have cc := ev_comp i1 hl e5
      have t0 : ev (o_F__law_any (m_F__law_any n)) (.and (.op2 .gt (.v 1) (.c (.int 0))) (.op2 .lt (.v 2) (.c (.int 4)))) ⟨[.v (.ref r), .v (.int d), .v (.int k), .un, .un], g1⟩ = .ok (.bl true) ⟨[.v (.ref r), .v (.int d), .v (.int k), .un, .un], g1⟩ := by
        show (R.ok (D.bl (decide (0 < d))) (⟨[.v (.ref r), .v (.int d), .v (.int k), .un, .un], g1⟩ : S)).bind _ = _
        rw [decide_eq_true hd]
        show R.ok (D.bl (decide (k < 4))) (⟨[.v (.ref r), .v (.int d), .v (.int k), .un, .un], g1⟩ : S) = _
        rw [decide_eq_true hk]
      refine ⟨if k < 2 then .tup xs else .lst xs, s5.g, [.v (.ref r), .v (.int d), .v (.int k), .v (.lst xs), .un], ?_, c5⟩
      show (ev (o_F__law_any (m_F__law_any n)) (.and (.op2 .gt (.v 1) (.c (.int 0))) (.op2 .lt (.v 2) (.c (.int 4)))) ⟨[.v (.ref r), .v (.int d), .v (.int k), .un, .un], g1⟩).bind _ = _
      rw [t0]
      show (match (ev (o_F__law_any (m_F__law_any n)) (.comp 4 (.rng1 (.call 13 (.cons (.v 0) (.cons (.c (.int 4)) .nil)) [])) (.c (.bl true)) (.call 15 (.cons (.v 0) (.cons (.op2 .sub (.v 1) (.c (.int 1))) .nil)) [])) ⟨[.v (.ref r), .v (.int d), .v (.int k), .un, .un], g1⟩).bind (fun d s => match tgS (.one 3) d s.l with
        | some l => R.ok F.nx ⟨l, s.g⟩
        | none => .no) with
        | .ok .nx s => evS (o_F__law_any (m_F__law_any n)) (.ret (.ite (.op2 .lt (.v 2) (.c (.int 2))) (.bi .tuple (.cons (.v 3) .nil)) (.v 3))) s
        | r => r) = _
      rw [cc]
      show ((R.ok (D.bl (decide (k < 2))) (⟨[.v (.ref r), .v (.int d), .v (.int k), .v (.lst xs), .un], s5.g⟩ : S)).bind _).bind _ = _
      by_cases h2 : k < 2
      · rw [decide_eq_true h2, if_pos h2]
        rfl
      · rw [decide_eq_false h2, if_neg h2]
        rfl
    have way0 : ¬ (0 < d ∧ k < 4) → evS (o_F__law_any (m_F__law_any n)) (.ite (.and (.op2 .gt (.v 1) (.c (.int 0))) (.op2 .lt (.v 2) (.c (.int 4)))) (.seq (.asg (.one 3) (.comp 4 (.rng1 (.call 13 (.cons (.v 0) (.cons (.c (.int 4)) .nil)) [])) (.c (.bl true)) (.call 15 (.cons (.v 0) (.cons (.op2 .sub (.v 1) (.c (.int 1))) .nil)) [])))
    (.ret (.ite (.op2 .lt (.v 2) (.c (.int 2))) (.bi .tuple (.cons (.v 3) .nil)) (.v 3)))) .nil) ⟨[.v (.ref r), .v (.int d), .v (.int k), .un, .un], g1⟩ = .ok .nx ⟨[.v (.ref r), .v (.int d), .v (.int k), .un, .un], g1⟩ := by
      intro hn
      have t0 : ev (o_F__law_any (m_F__law_any n)) (.and (.op2 .gt (.v 1) (.c (.int 0))) (.op2 .lt (.v 2) (.c (.int 4)))) ⟨[.v (.ref r), .v (.int d), .v (.int k), .un, .un], g1⟩ = .ok (.bl false) ⟨[.v (.ref r), .v (.int d), .v (.int k), .un, .un], g1⟩ := by
        show (R.ok (D.bl (decide (0 < d))) (⟨[.v (.ref r), .v (.int d), .v (.int k), .un, .un], g1⟩ : S)).bind _ = _
        by_cases hd : 0 < d
        · rw [decide_eq_true hd]
          show R.ok (D.bl (decide (k < 4))) (⟨[.v (.ref r), .v (.int d), .v (.int k), .un, .un], g1⟩ : S) = _
          rw [decide_eq_false fun z => hn ⟨hd, z⟩]
        · rw [decide_eq_false hd]
          rfl
      show (ev (o_F__law_any (m_F__law_any n)) (.and (.op2 .gt (.v 1) (.c (.int 0))) (.op2 .lt (.v 2) (.c (.int 4)))) ⟨[.v (.ref r), .v (.int d), .v (.int k), .un, .un], g1⟩).bind _ = _
      rw [t0]
      rfl
    have t7 : ∀ b, decide (k < 7) = b → ev (o_F__law_any (m_F__law_any n)) (.op2 .lt (.v 2) (.c (.int 7))) ⟨[.v (.ref r), .v (.int d), .v (.int k), .un, .un], g1⟩ = .ok (.bl b) ⟨[.v (.ref r), .v (.int d), .v (.int k), .un, .un], g1⟩ := by
      intro b hb
      rw [← hb]
      rfl
    by_cases hw : 0 < d ∧ k < 4
    · obtain ⟨x, g', l, e, c⟩ := way1 hw
      exact ⟨x, g', toC_rt (s1 := ⟨l, g'⟩) (seq_nx s1 (seq_rt e)), c⟩
    · by_cases h7 : k < 7
      · exact ⟨x1, g2, toC_rt (s1 := ⟨_, g2⟩) (seq_nx s1 (seq_nx (way0 hw) (seq_rt (ite_t (t7 true (decide_eq_true h7)) q1)))), q2⟩
      · exact ⟨x2, g3, toC_rt (s1 := ⟨_, g3⟩) (seq_nx s1 (seq_nx (way0 hw) (seq_nx (ite_f (t7 false (decide_eq_false h7)) rfl) q3))), q4⟩
end
end K04
namespace K04
open PySem Pi
section
variable {g : List MO} {o : O} {s : S}
theorem call_p {f : Nat} {d : T} {df ds : List D} {x : D} (h2 : evA o d s = .ok ds s) (h3 : o.call f (ds ++ df) s.g = .ok x s.g) : ev o (.call f d df) s = .ok x s := call_ok h2 h3
theorem op_p {p : Op} {c d : T} {x y z : D} (h : ev o c s = .ok x s) (h2 : ev o d s = .ok y s) (h3 : op2S s.g p x y = some z) : ev o (.op2 p c d) s = .ok z s := op_ok h h2 h3
theorem A_p {c d : T} {x : D} {ds : List D} (h : ev o c s = .ok x s) (h2 : evA o d s = .ok ds s) : evA o (.cons c d) s = .ok (x :: ds) s := A_cons h h2
theorem chain_ok {a b c : T} {i j k : Int} (h1 : ev o a s = .ok (.int i) s) (h2 : ev o b s = .ok (.int j) s) (h3 : ev o c s = .ok (.int k) s) : ev o (.ch .le .le a b c) s = .ok (.bl (decide (i ≤ j) && decide (j ≤ k))) s := by
  show (ev o a s).bind _ = _
  rw [h1]
  show (ev o b s).bind _ = _
  rw [h2]
  show (match op2S s.g .le (.int i) (.int j) with
    | some (.bl true) => (ev o c s).bind fun z s => R.of (op2S s.g .le (.int j) z) s
    | some (.bl false) => R.ok (D.bl false) s
    | _ => .no) = _
  have e : op2S s.g .le (.int i) (.int j) = some (.bl (decide (i ≤ j))) := rfl
  rw [e]
  cases decide (i ≤ j) with
  | true =>
    show (ev o c s).bind _ = _
    rw [h3]
    rfl
  | false => rfl
theorem and_ok {a b : T} {p q : Bool} (h1 : ev o a s = .ok (.bl p) s) (h2 : ev o b s = .ok (.bl q) s) : ev o (.and a b) s = .ok (.bl (p && q)) s := by
  cases p with
  | true => exact and_t h1 h2
  | false => exact and_f h1
theorem cell_t (x y : Int) : m_F_is_cell [.tup [.int x, .int y]] g = .ok (.bl true) g := rfl
def ins (x y a b c d : Int) : Bool := (decide (a ≤ x) && decide (x ≤ c)) && (decide (b ≤ y) && decide (y ≤ d))
theorem lies (x y a b c d : Int) : m_F_lies_within [.tup [.int x, .int y], .tup [.int a, .int b], .tup [.int c, .int d]] g = .ok (.bl (ins x y a b c d)) g :=
  toC_rt (s1 := ⟨[.v (.tup [.int x, .int y]), .v (.tup [.int a, .int b]), .v (.tup [.int c, .int d])], g⟩) (ret_ok (and_ok (chain_ok rfl rfl rfl) (chain_ok rfl rfl rfl)))
theorem fld_ok {e : T} {n k : Nat} {fs : List (Nat × D)} {d : D} (h : ev o e s = .ok (.ins k fs) s) (hf : fs.lookup n = some d) : ev o (.fld e n) s = .ok d s := by
  show (ev o e s).bind _ = _
  rw [h]
  show R.of (fs.lookup n) s = _
  rw [hf]
  rfl
theorem contR {k : Nat} {fs : List (Nat × D)} {a b c d : Int} (h1 : fs.lookup 1 = some (.tup [.int a, .int b])) (h2 : fs.lookup 2 = some (.tup [.int c, .int d])) (x y : Int) :
    m_F_Room___contains__ [.ins k fs, .tup [.int x, .int y]] g = .ok (.bl (ins x y a b c d)) g :=
  toC_rt (s1 := ⟨[.v (.ins k fs), .v (.tup [.int x, .int y])], g⟩) (ret_ok (and_t (call_p (A_p rfl rfl) (cell_t x y)) (call_p (A_p rfl (A_p (fld_ok rfl h1) (A_p (fld_ok rfl h2) rfl))) (lies x y a b c d))))
theorem contM {k : Nat} {fs : List (Nat × D)} {a b c d : Int} (h1 : fs.lookup 1 = some (.tup [.int a, .int b])) (h2 : fs.lookup 2 = some (.tup [.int c, .int d])) (x y : Int) :
    m_F_Mark___contains__ [.ins k fs, .tup [.int x, .int y]] g = .ok (.bl (ins x y a b c d)) g :=
  toC_rt (s1 := ⟨[.v (.ins k fs), .v (.tup [.int x, .int y])], g⟩) (ret_ok (and_t (call_p (A_p rfl rfl) (cell_t x y)) (call_p (A_p rfl (A_p (fld_ok rfl h1) (A_p (fld_ok rfl h2) rfl))) (lies x y a b c d))))
theorem contRf {k : Nat} {fs : List (Nat × D)} {v : D} (h : m_F_is_cell [v] g = .ok (.bl false) g) : m_F_Room___contains__ [.ins k fs, v] g = .ok (.bl false) g :=
  toC_rt (s1 := ⟨[.v (.ins k fs), .v v], g⟩) (ret_ok (and_f (call_p (A_p rfl rfl) h)))
theorem contMf {k : Nat} {fs : List (Nat × D)} {v : D} (h : m_F_is_cell [v] g = .ok (.bl false) g) : m_F_Mark___contains__ [.ins k fs, v] g = .ok (.bl false) g :=
  toC_rt (s1 := ⟨[.v (.ins k fs), .v v], g⟩) (ret_ok (and_f (call_p (A_p rfl rfl) h)))
theorem name_a : m_F_is_name [.str "a"] g = .ok (.bl true) g := rfl
theorem not_ok {a : T} {p : Bool} (h1 : ev o a s = .ok (.bl p) s) : ev o (.not a) s = .ok (.bl (!p)) s := by
  show (ev o a s).bind _ = _
  rw [h1]
  rfl
theorem not_t {a : T} (h1 : ev o a s = .ok (.bl true) s) : ev o (.not a) s = .ok (.bl false) s := not_ok h1
theorem or_p {c d : T} {r : R D} (h : ev o c s = .ok (.bl false) s) (h2 : ev o d s = r) : ev o (.or c d) s = r := or_f h h2
theorem check_ok {a b c d : Int} (h1 : a ≤ c) (h2 : b ≤ d) : m_F__check_rectangle [.str "a", .tup [.int a, .int b], .tup [.int c, .int d]] g = .ok .non g := by
  have e : evS o_F__check_rectangle t_F__check_rectangle ⟨[.v (.str "a"), .v (.tup [.int a, .int b]), .v (.tup [.int c, .int d])], g⟩ = .ok .nx ⟨[.v (.str "a"), .v (.tup [.int a, .int b]), .v (.tup [.int c, .int d])], g⟩ :=
    seq_nx (ite_f (not_t (call_p (A_p rfl rfl) name_a)) rfl) (seq_nx (ite_f (not_t (call_p (A_p rfl rfl) (cell_t a b))) rfl)
      (ite_f (or_p (not_t (call_p (A_p rfl rfl) (cell_t c d))) (or_p (op_p (x := .int c) (y := .int a) rfl rfl (show some (D.bl (decide (c < a))) = some (.bl false) by rw [decide_eq_false (by omega)]))
        (op_p (x := .int d) (y := .int b) rfl rfl (show some (D.bl (decide (d < b))) = some (.bl false) by rw [decide_eq_false (by omega)])))) rfl))
  show (evS o_F__check_rectangle t_F__check_rectangle ⟨[.v (.str "a"), .v (.tup [.int a, .int b]), .v (.tup [.int c, .int d])], g⟩).toC = _
  rw [e]
  rfl
theorem room_ok {a b c d : Int} {p : Bool} (h1 : a ≤ c) (h2 : b ≤ d) : m_F_Room___init__ [.str "a", .tup [.int a, .int b], .tup [.int c, .int d], .bl p] g = .ok [(0, .str "a"), (1, .tup [.int a, .int b]), (2, .tup [.int c, .int d]), (3, .bl p)] g := by
  have e : evS o_F_Room___init__ t_F_Room___init__ ⟨[.ob 0 [], .v (.str "a"), .v (.tup [.int a, .int b]), .v (.tup [.int c, .int d]), .v (.bl p)], g⟩ = .ok .nx ⟨[.ob 0 [(0, .str "a"), (1, .tup [.int a, .int b]), (2, .tup [.int c, .int d]), (3, .bl p)], .v (.str "a"), .v (.tup [.int a, .int b]), .v (.tup [.int c, .int d]), .v (.bl p)], g⟩ :=
    seq_nx (ex_ok (call_p (A_p rfl (A_p rfl (A_p rfl rfl))) (check_ok h1 h2))) rfl
  show (evS o_F_Room___init__ t_F_Room___init__ ⟨[.ob 0 [], .v (.str "a"), .v (.tup [.int a, .int b]), .v (.tup [.int c, .int d]), .v (.bl p)], g⟩).toCI 0 = _
  rw [e]
  rfl
theorem mark_ok {a b c d : Int} (h1 : a ≤ c) (h2 : b ≤ d) : m_F_Mark___init__ [.str "a", .tup [.int a, .int b], .tup [.int c, .int d], .int 2] g = .ok [(0, .str "a"), (1, .tup [.int a, .int b]), (2, .tup [.int c, .int d]), (4, .int 2)] g := by
  have e : evS o_F_Mark___init__ t_F_Mark___init__ ⟨[.ob 1 [], .v (.str "a"), .v (.tup [.int a, .int b]), .v (.tup [.int c, .int d]), .v (.int 2)], g⟩ = .ok .nx ⟨[.ob 1 [(0, .str "a"), (1, .tup [.int a, .int b]), (2, .tup [.int c, .int d]), (4, .int 2)], .v (.str "a"), .v (.tup [.int a, .int b]), .v (.tup [.int c, .int d]), .v (.int 2)], g⟩ :=
    seq_nx (ex_ok (call_p (A_p rfl (A_p rfl (A_p rfl rfl))) (check_ok h1 h2))) rfl
  show (evS o_F_Mark___init__ t_F_Mark___init__ ⟨[.ob 1 [], .v (.str "a"), .v (.tup [.int a, .int b]), .v (.tup [.int c, .int d]), .v (.int 2)], g⟩).toCI 1 = _
  rw [e]
  rfl
end
end K04
namespace K04
open PySem Pi
section
variable {g : List MO} {o : O} {s : S}
theorem mko_ok {i : Nat} {a : T} {ds : List D} (h : evA o a s = .ok ds s) (hl : ds.length ≤ big) : evS o (.mko i a) s = .ok .nx ⟨s.l.set i (.own ds), s.g⟩ := by
  show (evA o a s).bind _ = _
  rw [h]
  show (bif decide (ds.length ≤ big) then R.ok F.nx ⟨s.l.set i (.own ds), s.g⟩ else .no) = _
  rw [decide_eq_true hl]
  rfl
theorem own_is {l : List SV} {i : Nat} {ds : List D} (h : l[i]? = some (.own ds)) : isOwn l i = true := by
  unfold isOwn
  rw [h]
theorem app_ok {i : Nat} {e : T} {ds : List D} {d : D} (h : s.l[i]? = some (.own ds)) (he : ev o e s = .ok d s) (hl : ds.length < big) : evS o (.app i e) s = .ok .nx ⟨s.l.set i (.own (ds ++ [d])), s.g⟩ := by
  show (bif isOwn s.l i then (ev o e s).bind fun d s => match s.l[i]? with
    | some (.own ds) => bif decide (ds.length < big) then R.ok F.nx ⟨s.l.set i (.own (ds ++ [d])), s.g⟩ else .no
    | _ => .no else .no) = _
  rw [own_is h, he]
  show (match s.l[i]? with
    | some (.own ds) => bif decide (ds.length < big) then R.ok F.nx ⟨s.l.set i (.own (ds ++ [d])), s.g⟩ else .no
    | _ => .no) = _
  rw [h]
  simp only [decide_eq_true hl, cond_true]
theorem ext_ok {i : Nat} {e : T} {ds xs : List D} (h : s.l[i]? = some (.own ds)) (he : evA o e s = .ok xs s) (hl : ds.length + xs.length ≤ big) : evS o (.ext i e) s = .ok .nx ⟨s.l.set i (.own (ds ++ xs)), s.g⟩ := by
  show (bif isOwn s.l i then (evA o e s).bind fun xs s => match s.l[i]? with
    | some (.own ds) => bif decide (ds.length + xs.length ≤ big) then R.ok F.nx ⟨s.l.set i (.own (ds ++ xs)), s.g⟩ else .no
    | _ => .no else .no) = _
  rw [own_is h, he]
  show (match s.l[i]? with
    | some (.own ds) => bif decide (ds.length + xs.length ≤ big) then R.ok F.nx ⟨s.l.set i (.own (ds ++ xs)), s.g⟩ else .no
    | _ => .no) = _
  rw [h]
  simp only [decide_eq_true hl, cond_true]
theorem frz_ok {i : Nat} {ds : List D} (h : s.l[i]? = some (.own ds)) : evS o (.frz i) s = .ok .nx ⟨s.l.set i (.v (.lst ds)), s.g⟩ := by
  show (match s.l[i]? with
    | some (.own ds) => R.ok F.nx ⟨s.l.set i (.v (.lst ds)), s.g⟩
    | _ => .no) = _
  rw [h]
theorem drawL (h : s.l[(1 : Nat)]? = some (.v (.ref 1))) (hs : Strm s.g 1) {m : Int} (h0 : 0 < m) (h1 : m < 1073741824) : ∃ k g', ev o_F_law (.call 13 (.cons (.v 1) (.cons (.c (.int m)) .nil)) []) s = .ok (.int k) ⟨s.l, g'⟩ ∧ 0 ≤ k ∧ k < m ∧ Strm g' 1 := by
  obtain ⟨k, g', e, a, b, c⟩ := draw4 hs h0 h1
  exact ⟨k, g', call_ok (A_cons (var_ok h) (A_cons rfl rfl)) e, a, b, c⟩
/-- a room or a landmark with these corners -/
def Box (a b c d : Int) (x : D) : Prop := ∃ q fs, x = .ins q fs ∧ (q = 0 ∨ q = 1) ∧ fs.lookup 1 = some (.tup [.int a, .int b]) ∧ fs.lookup 2 = some (.tup [.int c, .int d])
theorem box_in {a b c d x y : Int} {one : D} {e f : T} {neg : Bool} (hb : Box a b c d one) (h : ev o_F_law e s = .ok (.tup [.int x, .int y]) s) (h5 : ev o_F_law f s = .ok one s) : ev o_F_law (.ino neg e f) s = .ok (.bl (bif neg then !ins x y a b c d else ins x y a b c d)) s := by
  obtain ⟨q, fs, rfl, hq, h1, h2⟩ := hb
  rcases hq with rfl | rfl
  · exact ino_ok (f := 6) h h5 rfl rfl (contR h1 h2 x y)
  · exact ino_ok (f := 9) h h5 rfl rfl (contM h1 h2 x y)
theorem box_no {a b c d : Int} {one v : D} {e f : T} {neg : Bool} (hb : Box a b c d one) (h : ev o_F_law e s = .ok v s) (h5 : ev o_F_law f s = .ok one s) (hv : ∀ g, m_F_is_cell [v] g = .ok (.bl false) g) : ev o_F_law (.ino neg e f) s = .ok (.bl neg) s := by
  obtain ⟨q, fs, rfl, hq, h1, h2⟩ := hb
  have key : ∀ n : Bool, (bif n then !false else false) = n := by intro n; cases n <;> rfl
  rcases hq with rfl | rfl
  · have := ino_ok (o := o_F_law) (neg := neg) (f := 6) h h5 rfl rfl (contRf (k := 0) (fs := fs) (hv s.g))
    rw [key] at this
    exact this
  · have := ino_ok (o := o_F_law) (neg := neg) (f := 9) h h5 rfl rfl (contMf (k := 1) (fs := fs) (hv s.g))
    rw [key] at this
    exact this
def tXY : TS := .ite (.op2 .ne (.bi .repr (.cons (.ino false (.tup (.cons (.v 6) (.cons (.v 7) .nil))) (.v 5)) .nil)) (.bi .repr (.cons (.and (.ch .le .le (.ix (.v 3) (.c (.int 0))) (.v 6) (.ix (.v 4) (.c (.int 0)))) (.ch .le .le (.ix (.v 3) (.c (.int 1))) (.v 7) (.ix (.v 4) (.c (.int 1))))) .nil))) (.ret (.c (.bl false))) .nil
theorem repr_bl (b : Bool) : biS g .repr [.bl b] = some (.str (if b then "True" else "False")) := rfl
theorem ne_str (x : Str) : op2S g .ne (.str x) (.str x) = some (.bl false) := by
  show some (D.bl (!(decide (x = x)))) = _
  rw [decide_eq_true rfl]
  rfl
abbrev st (d0 t : D) (a b c d : Int) (one : D) (a6 a7 a8 a9 a10 : SV) (g : List MO) : S := ⟨[.v d0, .v (.ref 1), .v t, .v (.tup [.int a, .int b]), .v (.tup [.int c, .int d]), .v one, a6, a7, a8, a9, a10], g⟩
theorem xy_ok {d0 t one : D} {a b c d x y : Int} {a8 a9 a10 : SV} (hb : Box a b c d one) : evS o_F_law tXY (st d0 t a b c d one (.v (.int x)) (.v (.int y)) a8 a9 a10 g) = .ok .nx (st d0 t a b c d one (.v (.int x)) (.v (.int y)) a8 a9 a10 g) := by
  have e1 := bi_ok (k := .repr) (A_p (d := .nil) (box_in (s := st d0 t a b c d one (.v (.int x)) (.v (.int y)) a8 a9 a10 g) (x := x) (y := y) (e := .tup (.cons (.v 6) (.cons (.v 7) .nil))) (f := .v 5) (neg := false) hb rfl rfl) rfl) (repr_bl _)
  have e2 := bi_ok (o := o_F_law) (k := .repr) (A_p (d := .nil) (s := st d0 t a b c d one (.v (.int x)) (.v (.int y)) a8 a9 a10 g) (and_ok (a := .ch .le .le (.ix (.v 3) (.c (.int 0))) (.v 6) (.ix (.v 4) (.c (.int 0)))) (b := .ch .le .le (.ix (.v 3) (.c (.int 1))) (.v 7) (.ix (.v 4) (.c (.int 1)))) (chain_ok rfl rfl rfl) (chain_ok rfl rfl rfl)) rfl) (repr_bl _)
  exact ite_f (op_ok e1 e2 (ne_str _)) rfl
theorem loops_ok {d0 t one : D} {a b c d : Int} {a6 a7 a8 a9 a10 : SV} (hb : Box a b c d one) (ha : -10 < a ∧ a < 10) (hb' : -10 < b ∧ b < 10) (hc : -10 < c ∧ c < 10) (hd : -10 < d ∧ d < 10) :
    ∃ b6 b7, evS o_F_law (.fr (.one 6) (.rng2 (.op2 .sub (.ix (.v 3) (.c (.int 0))) (.c (.int 2))) (.op2 .add (.ix (.v 4) (.c (.int 0))) (.c (.int 3)))) (.fr (.one 7) (.rng2 (.op2 .sub (.ix (.v 3) (.c (.int 1))) (.c (.int 2))) (.op2 .add (.ix (.v 4) (.c (.int 1))) (.c (.int 3)))) tXY)) (st d0 t a b c d one a6 a7 a8 a9 a10 g) = .ok .nx (st d0 t a b c d one b6 b7 a8 a9 a10 g) := by
  obtain ⟨s', ⟨b6, b7, rfl⟩, e⟩ := loopS_inv (I := fun s => ∃ b6 b7, s = st d0 t a b c d one b6 b7 a8 a9 a10 g) (s := st d0 t a b c d one a6 a7 a8 a9 a10 g) (ds := (List.range (c + 3 - (a - 2)).toNat).map fun (k : Nat) => .int (a - 2 + k))
    (f := fun d s => match tgS (.one 6) d s.l with
      | some l => evS o_F_law (.fr (.one 7) (.rng2 (.op2 .sub (.ix (.v 3) (.c (.int 1))) (.c (.int 2))) (.op2 .add (.ix (.v 4) (.c (.int 1))) (.c (.int 3)))) tXY) ⟨l, s.g⟩
      | none => .no) (fun z hz s hs => by
        obtain ⟨b6, b7, rfl⟩ := hs
        obtain ⟨k, _, rfl⟩ := List.mem_map.mp hz
        obtain ⟨s', ⟨b7, rfl⟩, e⟩ := loopS_inv (I := fun s => ∃ b7, s = st d0 t a b c d one (.v (.int (a - 2 + k))) b7 a8 a9 a10 g) (s := st d0 t a b c d one (.v (.int (a - 2 + k))) b7 a8 a9 a10 g) (ds := (List.range (d + 3 - (b - 2)).toNat).map fun (k : Nat) => .int (b - 2 + k))
          (f := fun d s => match tgS (.one 7) d s.l with
            | some l => evS o_F_law tXY ⟨l, s.g⟩
            | none => .no) (fun z hz s hs => by
              obtain ⟨b7, rfl⟩ := hs
              obtain ⟨j, _, rfl⟩ := List.mem_map.mp hz
              exact ⟨_, ⟨_, rfl⟩, xy_ok hb⟩) ⟨_, rfl⟩
        refine ⟨_, ⟨_, _, rfl⟩, fr_ok (rng2_ok (i := b - 2) (j := d + 3) rfl rfl (by omega) (by omega)) e⟩) ⟨_, _, rfl⟩
  exact ⟨b6, b7, fr_ok (rng2_ok (i := a - 2) (j := c + 3) rfl rfl (by omega) (by omega)) e⟩
end
end K04
namespace K04
open PySem Pi
section
variable {g : List MO}
theorem str_small {a : Int} (h : -10 < a ∧ a < 10) : biS g .str [.int a] = some (.str (toString a)) := by
  show (bif decide (a.natAbs.log2 < 1920) then some (D.str (toString a)) else none) = _
  have : a.natAbs.log2 < 1920 := by
    have h1 : a.natAbs < 10 := by omega
    by_cases z : a.natAbs = 0
    · rw [z]; decide
    · exact Nat.lt_trans ((Nat.log2_lt z).mpr (Nat.lt_trans h1 (by decide : 10 < 2 ^ 10))) (by decide)
  rw [decide_eq_true this]
  rfl
/-- what is no cell -/
def NoC (v : D) : Prop := ∀ g, m_F_is_cell [v] g = .ok (.bl false) g
def odd (a b c d : Int) (one last : D) : List D := [.non, .int 0, .str "a", .tup [], .tup [.int a], .tup [.int a, .int b, .int c, .int d], .lst [.int a, .int b], .tup [.tup [.int a, .int b]], .tup [.str (toString a), .int b], .tup [.int a, .non], one, last]
theorem odd_no {a b c d : Int} {one : D} {p : Bool} (hb : Box a b c d one) : ∀ v ∈ odd a b c d one (if p then .tup [.bl true, .bl true] else .tup [.int (a - 1), .bl false]), NoC v := by
  obtain ⟨q, fs, rfl, hq, h1, h2⟩ := hb
  intro v hv
  unfold odd at hv
  simp only [List.mem_cons, List.not_mem_nil, or_false] at hv
  rcases hv with rfl | rfl | rfl | rfl | rfl | rfl | rfl | rfl | rfl | rfl | rfl | rfl
  case inr.inr.inr.inr.inr.inr.inr.inr.inr.inr.inr => cases p <;> exact fun _ => rfl
  all_goals exact fun _ => rfl
def tOdd (rest : TS) : TS := (.seq (.mko 8 (.cons (.c .non) (.cons (.c (.int 0)) (.cons (.c (.str "a")) (.cons (.tup .nil) (.cons (.sl (.v 3) .nil (.cons (.c (.int 1)) .nil)) (.cons (.op2 .cat (.v 3) (.v 4)) (.cons (.lst (.cons (.ix (.v 3) (.c (.int 0))) (.cons (.ix (.v 3) (.c (.int 1))) .nil))) (.cons (.tup (.cons (.tup (.cons (.ix (.v 3) (.c (.int 0))) (.cons (.ix (.v 3) (.c (.int 1))) .nil))) .nil)) .nil)))))))))
    (.seq (.app 8 (.tup (.cons (.bi .str (.cons (.ix (.v 3) (.c (.int 0))) .nil)) (.cons (.ix (.v 3) (.c (.int 1))) .nil))))
    (.seq (.ext 8 (.cons (.tup (.cons (.ix (.v 3) (.c (.int 0))) (.cons (.c .non) .nil))) (.cons (.v 5) (.cons (.ite (.op2 .eq (.v 3) (.tup (.cons (.c (.int 1)) (.cons (.c (.int 1)) .nil)))) (.tup (.cons (.c (.bl true)) (.cons (.c (.bl true)) .nil))) (.tup (.cons (.op2 .sub (.ix (.v 3) (.c (.int 0))) (.c (.int 1))) (.cons (.c (.bl false)) .nil)))) .nil))))
    (.seq (.frz 8) rest))))
def tAny : TS := (.seq (.asg (.one 10) (.lst (.cons (.call 15 (.cons (.v 1) (.cons (.c (.int 4)) .nil)) []) .nil)))
    (.ite (.or (.ino false (.v 10) (.v 5)) (.or (.ino false (.bi .tuple (.cons (.v 10) .nil)) (.v 5)) (.ino false (.tup (.cons (.ix (.v 3) (.c (.int 0))) (.cons (.ix (.v 3) (.c (.int 1))) (.cons (.v 10) .nil)))) (.v 5)))) (.ret (.c (.bl false))) .nil))
theorem any_ok {d0 t one : D} {a b c d : Int} {a6 a7 a8 a9 a10 : SV} (hb : Box a b c d one) (hs : Strm g 1) : ∃ b10 g', evS o_F_law tAny (st d0 t a b c d one a6 a7 a8 a9 a10 g) = .ok .nx (st d0 t a b c d one a6 a7 a8 a9 b10 g') ∧ Strm g' 1 := by
  obtain ⟨x, g', e, c1⟩ := any4 5 (d := 4) hs (by decide) (by decide)
  refine ⟨.v (.lst [x]), g', ?_, c1⟩
  have ec : ev o_F_law (.call 15 (.cons (.v 1) (.cons (.c (.int 4)) .nil)) []) (st d0 t a b c d one a6 a7 a8 a9 a10 g) = .ok x (st d0 t a b c d one a6 a7 a8 a9 a10 g') :=
    call_ok (s := st d0 t a b c d one a6 a7 a8 a9 a10 g) (s2 := st d0 t a b c d one a6 a7 a8 a9 a10 g) (df := []) (ds := [.ref 1, .int 4]) rfl e
  have e1 : ev o_F_law (.lst (.cons (.call 15 (.cons (.v 1) (.cons (.c (.int 4)) .nil)) []) .nil)) (st d0 t a b c d one a6 a7 a8 a9 a10 g) = .ok (.lst [x]) (st d0 t a b c d one a6 a7 a8 a9 a10 g') :=
    lst_ok (s2 := st d0 t a b c d one a6 a7 a8 a9 a10 g') (A_cons (s1 := st d0 t a b c d one a6 a7 a8 a9 a10 g') ec rfl) (by show 1 ≤ big; decide)
  refine seq_nx (asg_one e1) (ite_f (s1 := st d0 t a b c d one a6 a7 a8 a9 (.v (.lst [x])) g') (or_p (box_no hb (v := .lst [x]) rfl rfl fun _ => rfl) (or_p (box_no hb (v := .tup [x]) rfl rfl fun _ => rfl) (box_no hb (v := .tup [.int a, .int b, .lst [x]]) rfl rfl fun _ => rfl))) rfl)
theorem odd_ok {d0 t one : D} {a b c d : Int} {a6 a7 a8 a9 a10 : SV} (ha : -10 < a ∧ a < 10) : ∃ p : Bool, ∀ (rest : TS) (r : R F), evS o_F_law rest (st d0 t a b c d one a6 a7 (.v (.lst (odd a b c d one (if p then .tup [.bl true, .bl true] else .tup [.int (a - 1), .bl false])))) a9 a10 g) = r → evS o_F_law (tOdd rest) (st d0 t a b c d one a6 a7 a8 a9 a10 g) = r := by
  obtain ⟨p, hp⟩ : ∃ p, PyData.eqv (.tuple [.int a, .int b]) (.tuple [.int 1, .int 1]) = p := ⟨_, rfl⟩
  refine ⟨p, fun rest r hr => ?_⟩
  have e0 : evS o_F_law (.mko 8 (.cons (.c .non) (.cons (.c (.int 0)) (.cons (.c (.str "a")) (.cons (.tup .nil) (.cons (.sl (.v 3) .nil (.cons (.c (.int 1)) .nil)) (.cons (.op2 .cat (.v 3) (.v 4)) (.cons (.lst (.cons (.ix (.v 3) (.c (.int 0))) (.cons (.ix (.v 3) (.c (.int 1))) .nil))) (.cons (.tup (.cons (.tup (.cons (.ix (.v 3) (.c (.int 0))) (.cons (.ix (.v 3) (.c (.int 1))) .nil))) .nil)) .nil))))))))) (st d0 t a b c d one a6 a7 a8 a9 a10 g) =
      .ok .nx (st d0 t a b c d one a6 a7 (.own [.non, .int 0, .str "a", .tup [], .tup [.int a], .tup [.int a, .int b, .int c, .int d], .lst [.int a, .int b], .tup [.tup [.int a, .int b]]]) a9 a10 g) := rfl
  have e1 : evS o_F_law (.app 8 (.tup (.cons (.bi .str (.cons (.ix (.v 3) (.c (.int 0))) .nil)) (.cons (.ix (.v 3) (.c (.int 1))) .nil)))) (st d0 t a b c d one a6 a7 (.own [.non, .int 0, .str "a", .tup [], .tup [.int a], .tup [.int a, .int b, .int c, .int d], .lst [.int a, .int b], .tup [.tup [.int a, .int b]]]) a9 a10 g) =
      .ok .nx (st d0 t a b c d one a6 a7 (.own [.non, .int 0, .str "a", .tup [], .tup [.int a], .tup [.int a, .int b, .int c, .int d], .lst [.int a, .int b], .tup [.tup [.int a, .int b]], .tup [.str (toString a), .int b]]) a9 a10 g) :=
    app_ok (ds := [.non, .int 0, .str "a", .tup [], .tup [.int a], .tup [.int a, .int b, .int c, .int d], .lst [.int a, .int b], .tup [.tup [.int a, .int b]]]) (d := .tup [.str (toString a), .int b]) rfl (tup_ok (A_p (bi_ok (A_p rfl rfl) (str_small ha)) (A_p rfl rfl)) (by show 2 ≤ big; decide)) (by show 8 < big; decide)
  have ei : ev o_F_law (.ite (.op2 .eq (.v 3) (.tup (.cons (.c (.int 1)) (.cons (.c (.int 1)) .nil)))) (.tup (.cons (.c (.bl true)) (.cons (.c (.bl true)) .nil))) (.tup (.cons (.op2 .sub (.ix (.v 3) (.c (.int 0))) (.c (.int 1))) (.cons (.c (.bl false)) .nil)))) (st d0 t a b c d one a6 a7 (.own [.non, .int 0, .str "a", .tup [], .tup [.int a], .tup [.int a, .int b, .int c, .int d], .lst [.int a, .int b], .tup [.tup [.int a, .int b]], .tup [.str (toString a), .int b]]) a9 a10 g) =
      .ok (if p then .tup [.bl true, .bl true] else .tup [.int (a - 1), .bl false]) (st d0 t a b c d one a6 a7 (.own [.non, .int 0, .str "a", .tup [], .tup [.int a], .tup [.int a, .int b, .int c, .int d], .lst [.int a, .int b], .tup [.tup [.int a, .int b]], .tup [.str (toString a), .int b]]) a9 a10 g) := by
    have ec : ev o_F_law (.op2 .eq (.v 3) (.tup (.cons (.c (.int 1)) (.cons (.c (.int 1)) .nil)))) (st d0 t a b c d one a6 a7 (.own [.non, .int 0, .str "a", .tup [], .tup [.int a], .tup [.int a, .int b, .int c, .int d], .lst [.int a, .int b], .tup [.tup [.int a, .int b]], .tup [.str (toString a), .int b]]) a9 a10 g) = .ok (.bl p) (st d0 t a b c d one a6 a7 (.own [.non, .int 0, .str "a", .tup [], .tup [.int a], .tup [.int a, .int b, .int c, .int d], .lst [.int a, .int b], .tup [.tup [.int a, .int b]], .tup [.str (toString a), .int b]]) a9 a10 g) :=
      op_p (x := .tup [.int a, .int b]) (y := .tup [.int 1, .int 1]) rfl rfl (by rw [← hp]; rfl)
    show (ev o_F_law _ _).bind _ = _
    rw [ec]
    cases p <;> rfl
  have e2 : evS o_F_law (.ext 8 (.cons (.tup (.cons (.ix (.v 3) (.c (.int 0))) (.cons (.c .non) .nil))) (.cons (.v 5) (.cons (.ite (.op2 .eq (.v 3) (.tup (.cons (.c (.int 1)) (.cons (.c (.int 1)) .nil)))) (.tup (.cons (.c (.bl true)) (.cons (.c (.bl true)) .nil))) (.tup (.cons (.op2 .sub (.ix (.v 3) (.c (.int 0))) (.c (.int 1))) (.cons (.c (.bl false)) .nil)))) .nil)))) (st d0 t a b c d one a6 a7 (.own [.non, .int 0, .str "a", .tup [], .tup [.int a], .tup [.int a, .int b, .int c, .int d], .lst [.int a, .int b], .tup [.tup [.int a, .int b]], .tup [.str (toString a), .int b]]) a9 a10 g) =
      .ok .nx (st d0 t a b c d one a6 a7 (.own (odd a b c d one (if p then .tup [.bl true, .bl true] else .tup [.int (a - 1), .bl false]))) a9 a10 g) :=
    ext_ok (ds := [.non, .int 0, .str "a", .tup [], .tup [.int a], .tup [.int a, .int b, .int c, .int d], .lst [.int a, .int b], .tup [.tup [.int a, .int b]], .tup [.str (toString a), .int b]]) (xs := [.tup [.int a, .non], one, (if p then .tup [.bl true, .bl true] else .tup [.int (a - 1), .bl false])]) rfl (A_p rfl (A_p rfl (A_p ei rfl))) (by show 12 ≤ big; decide)
  exact seq_nx e0 (seq_nx e1 (seq_nx e2 (seq_nx (frz_ok rfl) hr)))
def tCmp : T := .comp 10 (.it (.v 8)) (.ino false (.v 10) (.v 5)) (.v 10)
theorem cmp_ok {d0 t one : D} {a b c d : Int} {a6 a7 a9 a10 : SV} {ds : List D} (hb : Box a b c d one) (hl : ds.length ≤ big) (h : ∀ v ∈ ds, NoC v) : ev o_F_law tCmp (st d0 t a b c d one a6 a7 (.v (.lst ds)) a9 a10 g) = .ok (.lst []) (st d0 t a b c d one a6 a7 (.v (.lst ds)) a9 a10 g) := by
  obtain ⟨xs, s5, e5, c5, l5, q5⟩ := loopC_inv (I := fun g' => g' = g) (Q := fun _ => False) (acc := []) (g := g) (ds := ds)
    (f := cbody o_F_law (st d0 t a b c d one a6 a7 (.v (.lst ds)) a9 a10 g).l 10 (.ino false (.v 10) (.v 5)) (.v 10)) (fun y hy g' hg => by
      obtain ⟨l, hl, h1, h2⟩ : ∃ l, (wipeOwn (st d0 t a b c d one a6 a7 (.v (.lst ds)) a9 a10 g).l).set 10 (.v y) = l ∧ l[(5 : Nat)]? = some (.v one) ∧ l[(10 : Nat)]? = some (.v y) :=
        ⟨_, rfl, rfl, by rw [List.getElem?_set_self (by rw [wipe_len]; show 10 < 11; decide)]⟩
      refine ⟨⟨l, g'⟩, hg, .inl ?_⟩
      show (ev o_F_law (.ino false (.v 10) (.v 5)) ⟨(wipeOwn (st d0 t a b c d one a6 a7 (.v (.lst ds)) a9 a10 g).l).set 10 (.v y), g'⟩).bind _ = _
      rw [hl, box_no hb (var_ok (s := ⟨l, g'⟩) h2) (var_ok (s := ⟨l, g'⟩) h1) (h y hy)]
      rfl) rfl
  have : xs = [] := by
    cases xs with
    | nil => rfl
    | cons x _ => exact (q5 x (List.mem_cons_self ..)).elim
  subst this
  rw [List.append_nil] at e5
  have := ev_comp (o := o_F_law) (i := 10) (it := .it (.v 8)) (s := st d0 t a b c d one a6 a7 (.v (.lst ds)) a9 a10 g) (s1 := st d0 t a b c d one a6 a7 (.v (.lst ds)) a9 a10 g) rfl hl e5
  rw [c5] at this
  exact this
end
end K04
namespace K04
open PySem Pi
section
variable {g : List MO}
def tOne : TS := .seq (.fr (.one 6) (.rng2 (.op2 .sub (.ix (.v 3) (.c (.int 0))) (.c (.int 2))) (.op2 .add (.ix (.v 4) (.c (.int 0))) (.c (.int 3)))) (.fr (.one 7) (.rng2 (.op2 .sub (.ix (.v 3) (.c (.int 1))) (.c (.int 2))) (.op2 .add (.ix (.v 4) (.c (.int 1))) (.c (.int 3)))) tXY))
  (tOdd (.seq (.ite (.op2 .ne tCmp (.lst .nil)) (.ret (.c (.bl false))) .nil) (.fr (.one 9) (.rng1 (.c (.int 4))) tAny)))
theorem one_ok {d0 t one : D} {a b c d : Int} {a6 a7 a8 a9 a10 : SV} (hb : Box a b c d one) (ha : -10 < a ∧ a < 10) (hb' : -10 < b ∧ b < 10) (hc : -10 < c ∧ c < 10) (hd : -10 < d ∧ d < 10) (hs : Strm g 1) :
    ∃ b6 b7 b8 b9 b10 g', evS o_F_law tOne (st d0 t a b c d one a6 a7 a8 a9 a10 g) = .ok .nx (st d0 t a b c d one b6 b7 b8 b9 b10 g') ∧ Strm g' 1 := by
  obtain ⟨b6, b7, e1⟩ := loops_ok (g := g) (d0 := d0) (t := t) (a6 := a6) (a7 := a7) (a8 := a8) (a9 := a9) (a10 := a10) hb ha hb' hc hd
  obtain ⟨p, e2⟩ := odd_ok (g := g) (d0 := d0) (t := t) (one := one) (a := a) (b := b) (c := c) (d := d) (a6 := b6) (a7 := b7) (a8 := a8) (a9 := a9) (a10 := a10) ha
  have e3 := cmp_ok (g := g) (d0 := d0) (t := t) (a6 := b6) (a7 := b7) (a9 := a9) (a10 := a10) hb (ds := odd a b c d one (if p then .tup [.bl true, .bl true] else .tup [.int (a - 1), .bl false])) (by show 12 ≤ big; decide) (odd_no hb)
  obtain ⟨s', ⟨b9, b10, g', rfl, hs'⟩, e4⟩ := loopS_inv (I := fun s => ∃ b9 b10 g', s = st d0 t a b c d one b6 b7 (.v (.lst (odd a b c d one (if p then .tup [.bl true, .bl true] else .tup [.int (a - 1), .bl false])))) b9 b10 g' ∧ Strm g' 1)
    (s := st d0 t a b c d one b6 b7 (.v (.lst (odd a b c d one (if p then .tup [.bl true, .bl true] else .tup [.int (a - 1), .bl false])))) a9 a10 g) (ds := [.int 0, .int 1, .int 2, .int 3])
    (f := fun d s => match tgS (.one 9) d s.l with
      | some l => evS o_F_law tAny ⟨l, s.g⟩
      | none => .no) (fun z _ s hs => by
        obtain ⟨b9, b10, g1, rfl, h1⟩ := hs
        obtain ⟨c10, g2, e, h2⟩ := any_ok (d0 := d0) (t := t) (a6 := b6) (a7 := b7) (a8 := .v (.lst (odd a b c d one (if p then .tup [.bl true, .bl true] else .tup [.int (a - 1), .bl false])))) (a9 := .v z) (a10 := b10) hb h1
        exact ⟨_, ⟨_, _, _, rfl, h2⟩, e⟩) ⟨_, _, _, rfl, hs⟩
  refine ⟨b6, b7, _, b9, b10, g', seq_nx e1 (e2 _ _ (seq_nx (ite_f (op_p e3 rfl rfl) rfl) (fr_ok rfl e4))), hs'⟩
def tTurn : TS := (.seq (.asg (.one 3) (.tup (.cons (.op2 .sub (.call 13 (.cons (.v 1) (.cons (.c (.int 7)) .nil)) []) (.c (.int 3))) (.cons (.op2 .sub (.call 13 (.cons (.v 1) (.cons (.c (.int 7)) .nil)) []) (.c (.int 3))) .nil))))
    (.seq (.asg (.one 4) (.tup (.cons (.op2 .add (.ix (.v 3) (.c (.int 0))) (.call 13 (.cons (.v 1) (.cons (.c (.int 4)) .nil)) [])) (.cons (.op2 .add (.ix (.v 3) (.c (.int 1))) (.call 13 (.cons (.v 1) (.cons (.c (.int 4)) .nil)) [])) .nil))))
    (.fr (.one 5) (.it (.tup (.cons (.mk 0 (.cons (.c (.str "a")) (.cons (.v 3) (.cons (.v 4) (.cons (.op2 .eq (.call 13 (.cons (.v 1) (.cons (.c (.int 2)) .nil)) []) (.c (.int 0))) .nil)))) []) (.cons (.mk 1 (.cons (.c (.str "a")) (.cons (.v 3) (.cons (.v 4) (.cons (.c (.int 2)) .nil)))) []) .nil)))) tOne)))
theorem it_ok {o : O} {e : T} {s s1 : S} {ds : List D} (h : ev o e s = .ok (.tup ds) s1) : evI o (.it e) s = .ok ds s1 := by
  show (ev o e s).bind _ = _
  rw [h]
  rfl
theorem turn_ok {d0 t : D} {a3 a4 a5 a6 a7 a8 a9 a10 : SV} (hs : Strm g 1) : ∃ b2 b3 b4 b5 b6 b7 b8 b9 b10 g', evS o_F_law tTurn ⟨[.v d0, .v (.ref 1), .v t, a3, a4, a5, a6, a7, a8, a9, a10], g⟩ = .ok .nx ⟨[.v d0, .v (.ref 1), b2, b3, b4, b5, b6, b7, b8, b9, b10], g'⟩ ∧ Strm g' 1 := by
  obtain ⟨k1, g1, d1, l1, u1, h1⟩ := drawL (s := ⟨[.v d0, .v (.ref 1), .v t, a3, a4, a5, a6, a7, a8, a9, a10], g⟩) rfl hs (m := 7) (by decide) (by decide)
  obtain ⟨k2, g2, d2, l2, u2, h2⟩ := drawL (s := ⟨[.v d0, .v (.ref 1), .v t, a3, a4, a5, a6, a7, a8, a9, a10], g1⟩) rfl h1 (m := 7) (by decide) (by decide)
  obtain ⟨a, ha⟩ : ∃ a, k1 - 3 = a := ⟨_, rfl⟩
  obtain ⟨b, hb⟩ : ∃ b, k2 - 3 = b := ⟨_, rfl⟩
  have e1 : evS o_F_law (.asg (.one 3) (.tup (.cons (.op2 .sub (.call 13 (.cons (.v 1) (.cons (.c (.int 7)) .nil)) []) (.c (.int 3))) (.cons (.op2 .sub (.call 13 (.cons (.v 1) (.cons (.c (.int 7)) .nil)) []) (.c (.int 3))) .nil)))) ⟨[.v d0, .v (.ref 1), .v t, a3, a4, a5, a6, a7, a8, a9, a10], g⟩ =
      .ok .nx ⟨[.v d0, .v (.ref 1), .v t, .v (.tup [.int a, .int b]), a4, a5, a6, a7, a8, a9, a10], g2⟩ := by
    rw [← ha, ← hb]
    exact asg_one (x := .tup [.int (k1 - 3), .int (k2 - 3)]) (s1 := ⟨[.v d0, .v (.ref 1), .v t, a3, a4, a5, a6, a7, a8, a9, a10], g2⟩) (tup_ok (A_cons (x := .int (k1 - 3)) (op_ok d1 rfl rfl) (A_cons (x := .int (k2 - 3)) (op_ok d2 rfl rfl) rfl)) (by show 2 ≤ big; decide))
  obtain ⟨k3, g3, d3, l3, u3, h3⟩ := drawL (s := ⟨[.v d0, .v (.ref 1), .v t, .v (.tup [.int a, .int b]), a4, a5, a6, a7, a8, a9, a10], g2⟩) rfl h2 (m := 4) (by decide) (by decide)
  obtain ⟨k4, g4, d4, l4, u4, h4⟩ := drawL (s := ⟨[.v d0, .v (.ref 1), .v t, .v (.tup [.int a, .int b]), a4, a5, a6, a7, a8, a9, a10], g3⟩) rfl h3 (m := 4) (by decide) (by decide)
  obtain ⟨c, hc⟩ : ∃ c, a + k3 = c := ⟨_, rfl⟩
  obtain ⟨d, hd⟩ : ∃ d, b + k4 = d := ⟨_, rfl⟩
  have e2 : evS o_F_law (.asg (.one 4) (.tup (.cons (.op2 .add (.ix (.v 3) (.c (.int 0))) (.call 13 (.cons (.v 1) (.cons (.c (.int 4)) .nil)) [])) (.cons (.op2 .add (.ix (.v 3) (.c (.int 1))) (.call 13 (.cons (.v 1) (.cons (.c (.int 4)) .nil)) [])) .nil)))) ⟨[.v d0, .v (.ref 1), .v t, .v (.tup [.int a, .int b]), a4, a5, a6, a7, a8, a9, a10], g2⟩ =
      .ok .nx ⟨[.v d0, .v (.ref 1), .v t, .v (.tup [.int a, .int b]), .v (.tup [.int c, .int d]), a5, a6, a7, a8, a9, a10], g4⟩ := by
    rw [← hc, ← hd]
    exact asg_one (x := .tup [.int (a + k3), .int (b + k4)]) (s1 := ⟨[.v d0, .v (.ref 1), .v t, .v (.tup [.int a, .int b]), a4, a5, a6, a7, a8, a9, a10], g4⟩) (tup_ok (A_cons (x := .int (a + k3)) (op_ok (x := .int a) (s1 := ⟨[.v d0, .v (.ref 1), .v t, .v (.tup [.int a, .int b]), a4, a5, a6, a7, a8, a9, a10], g2⟩) rfl d3 rfl) (A_cons (x := .int (b + k4)) (op_ok (x := .int b) (s1 := ⟨[.v d0, .v (.ref 1), .v t, .v (.tup [.int a, .int b]), a4, a5, a6, a7, a8, a9, a10], g3⟩) rfl d4 rfl) rfl)) (by show 2 ≤ big; decide))
  obtain ⟨k5, g5, d5, l5, u5, h5⟩ := drawL (s := ⟨[.v d0, .v (.ref 1), .v t, .v (.tup [.int a, .int b]), .v (.tup [.int c, .int d]), a5, a6, a7, a8, a9, a10], g4⟩) rfl h4 (m := 2) (by decide) (by decide)
  have eR : ev o_F_law (.mk 0 (.cons (.c (.str "a")) (.cons (.v 3) (.cons (.v 4) (.cons (.op2 .eq (.call 13 (.cons (.v 1) (.cons (.c (.int 2)) .nil)) []) (.c (.int 0))) .nil)))) []) ⟨[.v d0, .v (.ref 1), .v t, .v (.tup [.int a, .int b]), .v (.tup [.int c, .int d]), a5, a6, a7, a8, a9, a10], g4⟩ =
      .ok (.ins 0 [(0, .str "a"), (1, .tup [.int a, .int b]), (2, .tup [.int c, .int d]), (3, .bl (decide (k5 = 0)))]) ⟨[.v d0, .v (.ref 1), .v t, .v (.tup [.int a, .int b]), .v (.tup [.int c, .int d]), a5, a6, a7, a8, a9, a10], g5⟩ :=
    mk_ok (s2 := ⟨[.v d0, .v (.ref 1), .v t, .v (.tup [.int a, .int b]), .v (.tup [.int c, .int d]), a5, a6, a7, a8, a9, a10], g5⟩) (ds := [.str "a", .tup [.int a, .int b], .tup [.int c, .int d], .bl (decide (k5 = 0))])
      (A_cons (s1 := ⟨[.v d0, .v (.ref 1), .v t, .v (.tup [.int a, .int b]), .v (.tup [.int c, .int d]), a5, a6, a7, a8, a9, a10], g4⟩) rfl (A_cons (s1 := ⟨[.v d0, .v (.ref 1), .v t, .v (.tup [.int a, .int b]), .v (.tup [.int c, .int d]), a5, a6, a7, a8, a9, a10], g4⟩) rfl (A_cons (s1 := ⟨[.v d0, .v (.ref 1), .v t, .v (.tup [.int a, .int b]), .v (.tup [.int c, .int d]), a5, a6, a7, a8, a9, a10], g4⟩) rfl (A_cons (op_ok d5 rfl rfl) rfl)))) (room_ok (by omega) (by omega))
  have eM : ev o_F_law (.mk 1 (.cons (.c (.str "a")) (.cons (.v 3) (.cons (.v 4) (.cons (.c (.int 2)) .nil)))) []) ⟨[.v d0, .v (.ref 1), .v t, .v (.tup [.int a, .int b]), .v (.tup [.int c, .int d]), a5, a6, a7, a8, a9, a10], g5⟩ =
      .ok (.ins 1 [(0, .str "a"), (1, .tup [.int a, .int b]), (2, .tup [.int c, .int d]), (4, .int 2)]) ⟨[.v d0, .v (.ref 1), .v t, .v (.tup [.int a, .int b]), .v (.tup [.int c, .int d]), a5, a6, a7, a8, a9, a10], g5⟩ :=
    mk_ok (s2 := ⟨[.v d0, .v (.ref 1), .v t, .v (.tup [.int a, .int b]), .v (.tup [.int c, .int d]), a5, a6, a7, a8, a9, a10], g5⟩) (ds := [.str "a", .tup [.int a, .int b], .tup [.int c, .int d], .int 2]) rfl (mark_ok (by omega) (by omega))
  obtain ⟨s', ⟨b5, b6, b7, b8, b9, b10, g', rfl, hs'⟩, e4⟩ := loopS_inv (I := fun s => ∃ b5 b6 b7 b8 b9 b10 g', s = ⟨[.v d0, .v (.ref 1), .v t, .v (.tup [.int a, .int b]), .v (.tup [.int c, .int d]), b5, b6, b7, b8, b9, b10], g'⟩ ∧ Strm g' 1)
    (s := ⟨[.v d0, .v (.ref 1), .v t, .v (.tup [.int a, .int b]), .v (.tup [.int c, .int d]), a5, a6, a7, a8, a9, a10], g5⟩)
    (ds := [.ins 0 [(0, .str "a"), (1, .tup [.int a, .int b]), (2, .tup [.int c, .int d]), (3, .bl (decide (k5 = 0)))], .ins 1 [(0, .str "a"), (1, .tup [.int a, .int b]), (2, .tup [.int c, .int d]), (4, .int 2)]])
    (f := fun d s => match tgS (.one 5) d s.l with
      | some l => evS o_F_law tOne ⟨l, s.g⟩
      | none => .no) (fun z hz s hs => by
        obtain ⟨b5, b6, b7, b8, b9, b10, g', rfl, hs'⟩ := hs
        have bx : Box a b c d z := by
          simp only [List.mem_cons, List.not_mem_nil, or_false] at hz
          rcases hz with rfl | rfl
          · exact ⟨0, _, rfl, .inl rfl, rfl, rfl⟩
          · exact ⟨1, _, rfl, .inr rfl, rfl, rfl⟩
        obtain ⟨c6, c7, c8, c9, c10, g2, e, h2⟩ := one_ok (d0 := d0) (t := t) (a6 := b6) (a7 := b7) (a8 := b8) (a9 := b9) (a10 := b10) bx (by omega) (by omega) (by omega) (by omega) hs'
        exact ⟨_, ⟨_, _, _, _, _, _, _, rfl, h2⟩, e⟩) ⟨_, _, _, _, _, _, _, rfl, h5⟩
  refine ⟨_, _, _, b5, b6, b7, b8, b9, b10, g', seq_nx e1 (seq_nx e2 (fr_ok (it_ok (tup_ok (A_cons eR (A_cons (s2 := ⟨[.v d0, .v (.ref 1), .v t, .v (.tup [.int a, .int b]), .v (.tup [.int c, .int d]), a5, a6, a7, a8, a9, a10], g5⟩) eM rfl)) (by show 2 ≤ big; decide))) e4)), hs'⟩
theorem law_ok (ns : List Int) : ∃ g', m_F_law [.lst (ns.map .int)] [] = .ok (.bl true) g' := by
  obtain ⟨g1, e1, h1⟩ := deal4 ns
  obtain ⟨s', ⟨b2, b3, b4, b5, b6, b7, b8, b9, b10, g', rfl, hs'⟩, e4⟩ := loopS_inv (I := fun s => ∃ b2 b3 b4 b5 b6 b7 b8 b9 b10 g', s = ⟨[.v (.lst (ns.map .int)), .v (.ref 1), b2, b3, b4, b5, b6, b7, b8, b9, b10], g'⟩ ∧ Strm g' 1)
    (s := ⟨[.v (.lst (ns.map .int)), .v (.ref 1), .un, .un, .un, .un, .un, .un, .un, .un, .un], g1⟩) (ds := [.int 0, .int 1, .int 2, .int 3])
    (f := fun d s => match tgS (.one 2) d s.l with
      | some l => evS o_F_law tTurn ⟨l, s.g⟩
      | none => .no) (fun z _ s hs => by
        obtain ⟨b2, b3, b4, b5, b6, b7, b8, b9, b10, g', rfl, hs'⟩ := hs
        obtain ⟨c2, c3, c4, c5, c6, c7, c8, c9, c10, g2, e, h2⟩ := turn_ok (d0 := .lst (ns.map .int)) (t := z) (a3 := b3) (a4 := b4) (a5 := b5) (a6 := b6) (a7 := b7) (a8 := b8) (a9 := b9) (a10 := b10) hs'
        exact ⟨_, ⟨_, _, _, _, _, _, _, _, _, _, rfl, h2⟩, e⟩) ⟨_, _, _, _, _, _, _, _, _, _, rfl, h1⟩
  have s1 : evS o_F_law (.asg (.one 1) (.call 12 (.cons (.v 0) .nil) [])) ⟨[.v (.lst (ns.map .int)), .un, .un, .un, .un, .un, .un, .un, .un, .un, .un], []⟩ = .ok .nx ⟨[.v (.lst (ns.map .int)), .v (.ref 1), .un, .un, .un, .un, .un, .un, .un, .un, .un], g1⟩ :=
    asg_one (x := .ref 1) (s1 := ⟨[.v (.lst (ns.map .int)), .un, .un, .un, .un, .un, .un, .un, .un, .un, .un], g1⟩) (call_ok (s := ⟨[.v (.lst (ns.map .int)), .un, .un, .un, .un, .un, .un, .un, .un, .un, .un], []⟩) (s2 := ⟨[.v (.lst (ns.map .int)), .un, .un, .un, .un, .un, .un, .un, .un, .un, .un], []⟩) (ds := [.lst (ns.map .int)]) rfl e1)
  have hm : ∀ s : S, ev o_F_law (.mk 0 (.cons (.c (.str "a")) (.cons (.tup (.cons (.c (.int 1)) (.cons (.c (.int 1)) .nil))) (.cons (.tup (.cons (.c (.int 1)) (.cons (.c (.int 1)) .nil))) .nil))) [.bl false]) s = .ok (.ins 0 [(0, .str "a"), (1, .tup [.int 1, .int 1]), (2, .tup [.int 1, .int 1]), (3, .bl false)]) s := fun s =>
    mk_ok (s := s) (s2 := s) (ds := [.str "a", .tup [.int 1, .int 1], .tup [.int 1, .int 1]]) rfl (room_ok (Int.le_refl 1) (Int.le_refl 1))
  have bx : Box 1 1 1 1 (.ins 0 [(0, .str "a"), (1, .tup [.int 1, .int 1]), (2, .tup [.int 1, .int 1]), (3, .bl false)]) := ⟨0, _, rfl, .inl rfl, rfl, rfl⟩
  exact ⟨g', toC_rt (s1 := ⟨[.v (.lst (ns.map .int)), .v (.ref 1), b2, b3, b4, b5, b6, b7, b8, b9, b10], g'⟩) (seq_nx s1 (seq_nx (fr_ok rfl e4) (ret_ok (and_t (box_in (x := 1) (y := 1) bx rfl (hm _)) (box_no bx (v := .tup [.bl true, .int 1]) rfl (hm _) fun _ => rfl)))))⟩
end
end K04
namespace K04
open PySem L2 Pi
/-- law's promise: a list of at most 63 ints is handed in, True comes out -/
def spLaw (K : PySem.W.Frag) : Sp := fun vs H Q _ => ∃ (a : Addr) (ns : List Int), vs = [.ref a] ∧ SqL K H a (ns.map V.int) ∧ ns.length ≤ 63 ∧ ∀ H', Q (.bl true) H'
theorem reps_ints {E : En} {S : Hp} {ρ : List Addr} : ∀ ns : List Int, Reps E S ρ (ns.map V.int) (ns.map D.int)
  | [] => .nil
  | n :: ns => .cons (.int n) (reps_ints ns)
theorem law_sp {K : PySem.W.Frag} {E : En} (hK : E.K = K) {vs : List V} {H : Hp} {Q : VK} {Z : XK} (h : spLaw K vs H Q Z) : spI E 1 m_F_law vs H Q Z := by
  obtain ⟨a, ns, rfl, hS, hl, q⟩ := h
  obtain ⟨g', e⟩ := law_ok ns
  refine ⟨rfl, [], H, [], [.lst (ns.map .int)], ⟨fun _ _ h => h, rfl, List.nodup_nil, (fun _ h => nomatch h), fun n a m h => by simp at h⟩, .cons (.lst (by rw [hK]; exact hS) (reps_ints ns)) .nil, ?_⟩
  rw [e]
  intro v ρ' S' H' _ _ r
  cases r
  exact q H'
theorem all_mk {l : PySem.W.OpenLaw} {w : World} {K : PySem.W.Frag} {h : Heap} {mg : Str → Option Value} {fa : Addr} {a : Ad} (X : K.In h) (G : h.Ns mainGlobals mg) (hfa : mg "law" = some (.ref fa)) (T : Txt K mg a)
    {oc kV dc pm cd ct : Value} {od an : Option Addr} {sl : Array (Option Value)}
    (lk : K.lookup a.F_law = some ⟨oc, od, .func (PySem.W.fnOf "law" "law" (defArgs (top 20)) (defBody (top 20)) (defScope (top 20)) .none kV dc pm an cd ct), sl⟩) (co : PySem.W.codeIn K cd "law" = true) :
    ∃ fd : FuncData, (∀ (s : Shared) (v : Value), BindsTo s fd ⟨[v], []⟩ [("_law_script", v)]) ∧ ∀ base : Heap, K.In base → base.Ns mainGlobals mg → FnOk l.prog w K mg base (L2.CX l.prog w) 9 fa fd ["_law_script"] (spLaw K) := by
  have e := hfa.symm.trans T.mg_F_law
  cases e
  have FD : FunD K "law" "law" (defArgs (top 20)) (defBody (top 20)) (defScope (top 20)) [] [] a.F_law (PySem.W.fnOf "law" "law" (defArgs (top 20)) (defBody (top 20)) (defScope (top 20)) .none kV dc pm an cd ct) := ⟨⟨_, _, _, _, _, _, _, _, _, _, rfl, lk, co, .inl ⟨rfl, rfl⟩, .inl rfl⟩, T.kp_F_law⟩
  exact ⟨_, fun s v => .of_eq rfl, fun base _ _ => (law_fn T FD).imp fun vs H Q Z h => law_sp rfl h⟩
theorem walk {l : PySem.W.OpenLaw} {q : Program} {loose : List Str} {XP : (Str → Option Value) → Heap → Prop} {YP : World → Heap → Prop} {d : DefRec} {K : Params → PySem.W.Frag} (hn : l.most = some 63) (hdf : d.params.defaults = [])
    (hY : ∀ (w : World) (h : Heap), YP w h → (K w.params).In h)
    (F : ∀ (w : World) (mg : Str → Option Value) (fa : Addr) (h : Heap), (K w.params).In h → h.Ns mainGlobals mg → mg d.name = some (.ref fa) →
      ∃ fd : FuncData, (∀ (s : Shared) (u : Value), BindsTo s fd ⟨[u], []⟩ [("_law_script", u)]) ∧ ∀ base : Heap, (K w.params).In base → base.Ns mainGlobals mg → FnOk l.prog w (K w.params) mg base (L2.CX l.prog w) 9 fa fd ["_law_script"] (spLaw (K w.params))) :
    PySem.W.WalkO q loose XP YP l.row.toRowW d [] (fun f vs => PySem.call f vs) :=
  L2.walk_of (n := 63) (k := 9) (x := "_law_script") (CX := fun w => L2.CX l.prog w) (sp := fun w => spLaw (K w.params)) hn (by decide) hdf ⟨rfl, by decide, by decide⟩ hY F (fun _ _ a ns hl _ hS => ⟨a, ns, rfl, hS, hl, fun _ => rfl⟩) fun _ _ _ _ _ z => by
    obtain ⟨_, _, _, _, _, _, _, _, _, _, _, _, f⟩ := z
    exact f
end K04
open PySem PySem.W PyProof.Rows
set_option maxRecDepth 100000 in
set_option maxHeartbeats 0 in
theorem PySem.Challenge.cw_slipsights_k04_cells_in_rooms_and_marks_holds : PySem.Challenge.rw_slipsights_k04_cells_in_rooms_and_marks.Holds := by
  w_on; o_law; k_head; (case hw => w_witness2)
  k_fill
  refine K04.walk (l := PySem.Challenge.rw_slipsights_k04_cells_in_rooms_and_marks) rfl rfl (fun w h Y => PySem.W.kIn_of Y) ?F
  case F =>
    intro w mg fa h KX G hmg
    refine' K04.all_mk KX G hmg (K04.txt_mk KX G ?h_ogc ?h_otk ?n_Room ?pg_Room ?hd_Room ?po_Room ?sa_Room ?mk_Room ?kc_Room ?gc_Room ?mr_Room ?in_Room ?if_Room ?kt_Room_int ?kt_Room_bool ?kt_Room_tuple ?kt_Room_str ?na_Room_name ?na_Room_low ?na_Room_high ?na_Room_barred ?n_Mark ?pg_Mark ?hd_Mark ?po_Mark ?sa_Mark ?mk_Mark ?kc_Mark ?gc_Mark ?mr_Mark ?in_Mark ?if_Mark ?kt_Mark_int ?kt_Mark_bool ?kt_Mark_tuple ?kt_Mark_str ?na_Mark_name ?na_Mark_low ?na_Mark_high ?na_Mark_blur ?n_F_is_integer ?l_F_is_integer ?co_F_is_integer ?kp_F_is_integer ?n_F_is_count ?l_F_is_count ?co_F_is_count ?kp_F_is_count ?n_F_is_cell ?l_F_is_cell ?co_F_is_cell ?kp_F_is_cell ?n_F_is_name ?l_F_is_name ?co_F_is_name ?kp_F_is_name ?n_F_lies_within ?l_F_lies_within ?co_F_lies_within ?kp_F_lies_within ?l_F_Room___init__ ?co_F_Room___init__ ?kp_F_Room___init__ ?lt_F_Room___init__ ?fi_F_Room___contains__ ?ty_F_Room___contains__ ?l_F_Room___contains__ ?co_F_Room___contains__ ?kp_F_Room___contains__ ?l_F_Mark___init__ ?co_F_Mark___init__ ?kp_F_Mark___init__ ?fi_F_Mark___contains__ ?ty_F_Mark___contains__ ?l_F_Mark___contains__ ?co_F_Mark___contains__ ?kp_F_Mark___contains__ ?n_F__check_rectangle ?l_F__check_rectangle ?co_F__check_rectangle ?kp_F__check_rectangle ?n_F__law_deal ?l_F__law_deal ?co_F__law_deal ?kp_F__law_deal ?n_F__law_draw ?l_F__law_draw ?co_F__law_draw ?kp_F__law_draw ?n_F__law_pick ?l_F__law_pick ?co_F__law_pick ?kp_F__law_pick ?n_F__law_any ?l_F__law_any ?co_F__law_any ?kp_F__law_any ?n_F_law ?l_F_law ?co_F_law ?kp_F_law ?z_isinstance ?z_int ?z_bool ?z_tuple ?z_len ?z_str ?z_all ?z_abs ?z_range ?z_repr ?g_LETTERS ?g_RESERVED ?q_RESERVED) ?l_F_law ?co_F_law
    (case h_ogc => k_is)
    (case h_otk => k_is)
    (case n_Room => k_is)
    (case pg_Room => k_is)
    (case hd_Room => k_is)
    (case po_Room => k_is)
    (case sa_Room => k_is)
    (case mk_Room => k_is)
    (case kc_Room => k_is)
    (case gc_Room => k_is)
    (case mr_Room => k_is)
    (case in_Room => k_is)
    (case if_Room => k_is)
    (case kt_Room_int => k_is)
    (case kt_Room_bool => k_is)
    (case kt_Room_tuple => k_is)
    (case kt_Room_str => k_is)
    (case na_Room_name => k_is)
    (case na_Room_low => k_is)
    (case na_Room_high => k_is)
    (case na_Room_barred => k_is)
    (case n_Mark => k_is)
    (case pg_Mark => k_is)
    (case hd_Mark => k_is)
    (case po_Mark => k_is)
    (case sa_Mark => k_is)
    (case mk_Mark => k_is)
    (case kc_Mark => k_is)
    (case gc_Mark => k_is)
    (case mr_Mark => k_is)
    (case in_Mark => k_is)
    (case if_Mark => k_is)
    (case kt_Mark_int => k_is)
    (case kt_Mark_bool => k_is)
    (case kt_Mark_tuple => k_is)
    (case kt_Mark_str => k_is)
    (case na_Mark_name => k_is)
    (case na_Mark_low => k_is)
    (case na_Mark_high => k_is)
    (case na_Mark_blur => k_is)
    (case n_F_is_integer => k_is)
    (case l_F_is_integer => k_is)
    (case co_F_is_integer => k_is)
    (case kp_F_is_integer => k_is)
    (case n_F_is_count => k_is)
    (case l_F_is_count => k_is)
    (case co_F_is_count => k_is)
    (case kp_F_is_count => k_is)
    (case n_F_is_cell => k_is)
    (case l_F_is_cell => k_is)
    (case co_F_is_cell => k_is)
    (case kp_F_is_cell => k_is)
    (case n_F_is_name => k_is)
    (case l_F_is_name => k_is)
    (case co_F_is_name => k_is)
    (case kp_F_is_name => k_is)
    (case n_F_lies_within => k_is)
    (case l_F_lies_within => k_is)
    (case co_F_lies_within => k_is)
    (case kp_F_lies_within => k_is)
    (case l_F_Room___init__ => k_is)
    (case co_F_Room___init__ => k_is)
    (case kp_F_Room___init__ => k_is)
    (case lt_F_Room___init__ => k_is)
    (case fi_F_Room___contains__ => k_is)
    (case ty_F_Room___contains__ => k_is)
    (case l_F_Room___contains__ => k_is)
    (case co_F_Room___contains__ => k_is)
    (case kp_F_Room___contains__ => k_is)
    (case l_F_Mark___init__ => k_is)
    (case co_F_Mark___init__ => k_is)
    (case kp_F_Mark___init__ => k_is)
    (case fi_F_Mark___contains__ => k_is)
    (case ty_F_Mark___contains__ => k_is)
    (case l_F_Mark___contains__ => k_is)
    (case co_F_Mark___contains__ => k_is)
    (case kp_F_Mark___contains__ => k_is)
    (case n_F__check_rectangle => k_is)
    (case l_F__check_rectangle => k_is)
    (case co_F__check_rectangle => k_is)
    (case kp_F__check_rectangle => k_is)
    (case n_F__law_deal => k_is)
    (case l_F__law_deal => k_is)
    (case co_F__law_deal => k_is)
    (case kp_F__law_deal => k_is)
    (case n_F__law_draw => k_is)
    (case l_F__law_draw => k_is)
    (case co_F__law_draw => k_is)
    (case kp_F__law_draw => k_is)
    (case n_F__law_pick => k_is)
    (case l_F__law_pick => k_is)
    (case co_F__law_pick => k_is)
    (case kp_F__law_pick => k_is)
    (case n_F__law_any => k_is)
    (case l_F__law_any => k_is)
    (case co_F__law_any => k_is)
    (case kp_F__law_any => k_is)
    (case n_F_law => k_is)
    (case l_F_law => k_is)
    (case co_F_law => k_is)
    (case kp_F_law => k_is)
    (case z_isinstance => k_is)
    (case z_int => k_is)
    (case z_bool => k_is)
    (case z_tuple => k_is)
    (case z_len => k_is)
    (case z_str => k_is)
    (case z_all => k_is)
    (case z_abs => k_is)
    (case z_range => k_is)
    (case z_repr => k_is)
    (case g_LETTERS => k_is)
    (case g_RESERVED => k_is)
    (case q_RESERVED => k_is)
#print axioms PySem.Challenge.cw_slipsights_k04_cells_in_rooms_and_marks_holds
