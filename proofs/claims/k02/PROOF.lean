import PyProof.Rows.All
import Wide.All
import OpenK.AllK
import Wide.FinOn
import HandS.ForMost
import HandS.Flow
import HandS.Zip
import HandS.Walk
import HandS.TupAny
import HandS.IsInst
import HandS.Style
import HandS.Gcd
import HandS.Conv
import HandS.Exc
import HandS.TryOnly
import HandS.CallSlots
import HandS.WordsExc
import HandS.SortInts
import HandS.RaiseMore
import HandS.More
import KE.GoesEnum
import KE.GoesMore
import PySem.Challenge.RW_elderways_k02_operations_on_permutations
set_option Elab.async false
set_option linter.all false
set_option maxRecDepth 100000
set_option maxHeartbeats 4000000
section
/-! # A small language of our own, run by a plain function: the part of Python that the program and its laws are written in -/
namespace DI
open PySem L2

/-- values: tuples by value, lists (and what else may change) by their number in the store -/
inductive D where
  | non | bl (b : Bool) | int (i : Int) | str (x : Str) | tup (xs : List D) | ref (n : Nat)
/-- what stands in the store: a list (w: it may be changed), a source of draws -/
inductive SO where
  | lst (w : Bool) (xs : List D)
  | rng
abbrev Store := List SO
structure Ex where
  name : Str
  fs : List (Str × D)
/-- a run: an answer, a draw (any number from 0 below n), an exception, nothing known -/
inductive T (α : Type) where
  | ret (a : α)
  | draw (n : Int) (k : Int → T α)
  | exc (x : Ex) (st : Store)
  | stuck
def T.bind {α β : Type} : T α → (α → T β) → T β
  | .ret a, f => f a
  | .draw n k, f => .draw n fun v => (k v).bind f
  | .exc x st, _ => .exc x st
  | .stuck, _ => .stuck
/-- no exception may leave -/
def T.nox {α : Type} : T α → T α
  | .ret a => .ret a
  | .draw n k => .draw n fun v => (k v).nox
  | .exc _ _ => .stuck
  | .stuck => .stuck
/-- at most b draws; every answer keeps P (told how many draws are left), every exception X -/
def Tri {α : Type} : T α → Nat → (Nat → α → Prop) → (Nat → Ex → Store → Prop) → Prop
  | .ret a, b, P, _ => P b a
  | .draw n k, b, P, X => ∃ b', b = b' + 1 ∧ ∀ v, 0 ≤ v → v < n → Tri (k v) b' P X
  | .exc x st, b, _, X => X b x st
  | .stuck, _, _, _ => False
theorem tri_bind {α β : Type} {t : T α} {f : α → T β} {b : Nat} {P : Nat → β → Prop} {X : Nat → Ex → Store → Prop} : Tri (t.bind f) b P X ↔ Tri t b (fun b' a => Tri (f a) b' P X) X := by
  induction t generalizing b with
  | ret a => exact Iff.rfl
  | draw n k ih =>
    constructor
    · rintro ⟨b', e, h⟩
      exact ⟨b', e, fun v h0 h1 => (ih v).mp (h v h0 h1)⟩
    · rintro ⟨b', e, h⟩
      exact ⟨b', e, fun v h0 h1 => (ih v).mpr (h v h0 h1)⟩
  | exc x st => exact Iff.rfl
  | stuck => exact Iff.rfl
theorem tri_mono {α : Type} {t : T α} {b : Nat} {P P' : Nat → α → Prop} {X X' : Nat → Ex → Store → Prop} (h : Tri t b P X) (hP : ∀ b' a, b' ≤ b → P b' a → P' b' a) (hX : ∀ b' x st, b' ≤ b → X b' x st → X' b' x st) : Tri t b P' X' := by
  induction t generalizing b with
  | ret a => exact hP b a (Nat.le_refl _) h
  | draw n k ih =>
    obtain ⟨b', e, h⟩ := h
    exact ⟨b', e, fun v h0 h1 => ih v (h v h0 h1) (fun c a hc => hP c a (by omega)) fun c x st hc => hX c x st (by omega)⟩
  | exc x st => exact hX b x st (Nat.le_refl _) h
  | stuck => exact h.elim

theorem tri_nox {α : Type} {t : T α} {b : Nat} {P : Nat → α → Prop} {X X' : Nat → Ex → Store → Prop} (h : Tri t.nox b P X) : Tri t b P X' := by
  induction t generalizing b with
  | ret a => exact h
  | draw n k ih =>
    obtain ⟨b', e, h⟩ := h
    exact ⟨b', e, fun v h0 h1 => ih v (h v h0 h1)⟩
  | exc x st => exact h.elim
  | stuck => exact h.elim
abbrev M (α : Type) := Store → T (α × Store)
abbrev Evr := List (Option D)
def mret {α : Type} (a : α) : M α := fun st => .ret (a, st)
def mbind {α β : Type} (m : M α) (f : α → M β) : M β := fun st => (m st).bind fun p => f p.1 p.2
def mstuck {α : Type} : M α := fun _ => .stuck
def mif {α : Type} (c : Bool) (m : M α) : M α := fun st => match c with
  | true => m st
  | false => .stuck
def mopt {α : Type} (o : Option α) : M α := fun st => match o with
  | some a => .ret (a, st)
  | none => .stuck
/-- a new list -/
def mnew (xs : List D) : M D := fun st => .ret (.ref st.length, st ++ [.lst true xs])
/-- sizes stay below -/
def lim : Nat := 100000
def fits (n : Nat) : Bool := Nat.ble n lim

/-! ### the language -/
inductive Blt where
  | len | list | tuple | all | any | abs | int | str | repr | min2 | max2 | lcm | sorted
  deriving DecidableEq
inductive Mth where
  | append | insert | pop | popAt | index | upper
  deriving DecidableEq
inductive ITg where
  | name (i : Nat)
  | tup (ts : List Nat)
mutual
inductive IE where
  | var (i : Nat)
  | cint (i : Int) | cstr (x : Str) | cbl (b : Bool) | cnon
  | tup (es : IEs) | lst (es : IEs)
  | bin (op : Operator) (a b : IE)
  | neg (a : IE)
  | cmp (op : CmpOp) (a b : IE)
  | chain (o1 o2 : CmpOp) (a b c : IE)
  | and (a b : IE) | or (a b : IE) | not (a : IE)
  | ite (c a b : IE)
  | ix (a i : IE)
  | slice (a : IE) (lo hi : IO)
  | rev (a : IE)
  | blt (f : Blt) (es : IEs)
  | lr (a : IE) | tr (a : IE)
  | isi (e : IE) (tys : List String)
  | call (f : Str) (es : IEs)
  | callK (f : Str) (es : IEs) (ks : List Str) (ws : IEs)
  | meth (m : Mth) (o : IE) (es : IEs)
  | lc (own : List (Str × Nat)) (tg : ITg) (it : IIt) (c : IO) (e : IE)
inductive IEs where
  | nil
  | cons (e : IE) (es : IEs)
inductive IO where
  | none
  | some (e : IE)
inductive IIt where
  | seq (e : IE)
  | range1 (a : IE) | range2 (a b : IE)
  | enum (e : IE)
  | zip (a b : IE)
end
def IEs.len : IEs → Nat
  | .nil => 0
  | .cons _ es => es.len + 1
mutual
inductive IS where
  | set (i : Nat) (e : IE)
  | setT (ts : List Nat) (e : IE)
  | setSub (o i e : IE)
  | aug (i : Nat) (op : Operator) (e : IE)
  | expr (e : IE)
  | ret (e : IE)
  | ite (c : IE) (a b : ISs)
  | for (tg : ITg) (it : IIt) (body : ISs)
  | while (c : IE) (body : ISs)
  | par (ts : List Nat) (es : IEs)
  | pass | brk | cont
inductive ISs where
  | nil
  | cons (s : IS) (ss : ISs)
end

/-! ### data -/
def strOkB (x : Str) : Bool := PyData.canLay0 (.str x)
def pys (f : D → Option PyData) : List D → Option (List PyData)
  | [] => some []
  | x :: xs => match f x, pys f xs with
    | some d, some ds => some (d :: ds)
    | _, _ => none
/-- a value with all that hangs on it -/
def py : Nat → Store → D → Option PyData
  | 0, _, _ => none
  | _ + 1, _, .non => some .none
  | _ + 1, _, .bl b => some (.bool b)
  | _ + 1, _, .int i => some (.int i)
  | _ + 1, _, .str x => if strOkB x then some (.str x) else none
  | n + 1, st, .tup xs => match pys (py n st) xs with
    | some ds => some (.tuple ds)
    | none => none
  | n + 1, st, .ref k => match st[k]? with
    | some (.lst _ xs) => match pys (py n st) xs with
      | some ds => some (.list ds)
      | none => none
    | _ => none
def deep : Nat := 24
def flatD : D → Bool
  | .non | .bl _ | .int _ | .str _ => true
  | _ => false
def toV : D → V
  | .non => .non
  | .bl b => .bl b
  | .int i => .int i
  | .str x => .str x
  | _ => .non
def intsD : List D → Option (List Int)
  | [] => some []
  | .int i :: r => (intsD r).map (i :: ·)
  | _ :: _ => none
def blsD : List D → Option (List Bool)
  | [] => some []
  | .bl i :: r => (blsD r).map (i :: ·)
  | _ :: _ => none
/-- the items of a list, a tuple -/
def itemsD (st : Store) : D → Option (List D)
  | .tup xs => some xs
  | .ref n => match st[n]? with
    | some (.lst _ xs) => some xs
    | _ => none
  | _ => none

/-! ### operators -/
def mulOk (i j : Int) : Bool := (decide (-(2 ^ 64) < i) && decide (i < 2 ^ 64)) || (decide (-(2 ^ 64) < j) && decide (j < 2 ^ 64))
def powOk (i j : Int) : Bool := decide (0 ≤ j) && decide (j ≤ 1000000) && decide (i.natAbs < 2 ^ 64)
def binD (op : Operator) (x y : D) : M D := fun st => match op, x, y with
  | .Add, .int i, .int j => .ret (.int (i + j), st)
  | .Add, .str i, .str j => mif (fits (i.length + j.length)) (mret (.str (i ++ j))) st
  | .Add, .tup xs, .tup ys => mif (fits (xs.length + ys.length)) (mret (.tup (xs ++ ys))) st
  | .Add, .ref n, .ref m => match st[n]?, st[m]? with
    | some (.lst true xs), some (.lst true ys) => mif (fits (xs.length + ys.length)) (mnew (xs ++ ys)) st
    | _, _ => .stuck
  | .Sub, .int i, .int j => .ret (.int (i - j), st)
  | .Mult, .int i, .int j => mif (mulOk i j) (mret (.int (i * j))) st
  | .Mult, .ref n, .int k => match st[n]? with
    | some (.lst true xs) => mif (decide (0 ≤ k) && decide (k < 100000) && fits (xs.length * k.toNat)) (mnew (List.replicate k.toNat xs).flatten) st
    | _ => .stuck
  | .FloorDiv, .int i, .int j => mif (decide (j ≠ 0) && decide (j.natAbs < 1073741824)) (mret (.int (i.fdiv j))) st
  | .Mod, .int i, .int j => mif (decide (j ≠ 0)) (mret (.int (i.fmod j))) st
  | .Pow, .int i, .int j => mif (powOk i j) (mret (.int (i ^ j.toNat))) st
  | _, _, _ => .stuck
def eqD (x y : D) (st : Store) : Option Bool := match py deep st x, py deep st y with
  | some d, some e => some (PyData.eqv d e)
  | _, _ => none
def inD (x : D) (xs : List D) : Bool := xs.any fun y => eqV (toV y) (toV x)
def cmpD (op : CmpOp) (x y : D) : M Bool := fun st => match op with
  | .Eq => mopt (eqD x y st) st
  | .NotEq => mopt ((eqD x y st).map (!·)) st
  | .Lt => match x, y with
    | .int i, .int j => .ret (decide (i < j), st)
    | _, _ => .stuck
  | .LtE => match x, y with
    | .int i, .int j => .ret (decide (i ≤ j), st)
    | _, _ => .stuck
  | .Gt => match x, y with
    | .int i, .int j => .ret (decide (j < i), st)
    | _, _ => .stuck
  | .GtE => match x, y with
    | .int i, .int j => .ret (decide (j ≤ i), st)
    | _, _ => .stuck
  | .Is => match y with
    | .non => .ret ((match x with | .non => true | _ => false), st)
    | _ => .stuck
  | .IsNot => match y with
    | .non => .ret ((match x with | .non => false | _ => true), st)
    | _ => .stuck
  | .In => match itemsD st y with
    | some xs => mif (flatD x && xs.all flatD) (mret (inD x xs)) st
    | none => .stuck
  | .NotIn => match itemsD st y with
    | some xs => mif (flatD x && xs.all flatD) (mret (!inD x xs)) st
    | none => .stuck
def truthD (x : D) : M Bool := fun st => match x with
  | .non => .ret (false, st)
  | .bl b => .ret (b, st)
  | .int i => .ret (i != 0, st)
  | .str y => mif (fits y.length) (mret ((y.length : Int) != 0)) st
  | .tup xs => .ret (!xs.isEmpty, st)
  | .ref n => match st[n]? with
    | some (.lst _ xs) => .ret (!xs.isEmpty, st)
    | _ => .stuck
def asB (x : D) : M Bool := fun st => match x with
  | .bl b => .ret (b, st)
  | _ => .stuck
def ixD (x i : D) : M D := fun st => match i with
  | .int k => match x with
    | .str z => mif (fits z.length) (mopt ((atI z.cps.toList k).map fun c => D.str ⟨#[c]⟩)) st
    | _ => match itemsD st x with
      | some xs => mopt (atI xs k) st
      | none => .stuck
  | _ => .stuck
def cutD (xs : List D) (lo hi : Option Int) : List D := (xs.drop (HT.sIx xs.length 0 lo)).take (HT.sIx xs.length xs.length hi - HT.sIx xs.length 0 lo)
def sliceD (x : D) (lo hi : Option Int) : M D := fun st => match x with
  | .tup xs => .ret (.tup (cutD xs lo hi), st)
  | .ref n => match st[n]? with
    | some (.lst _ xs) => mnew (cutD xs lo hi) st
    | _ => .stuck
  | .str z => mif (fits z.length) (mret (.str (cutS z lo hi))) st
  | _ => .stuck
def revD (x : D) : M D := fun st => match x with
  | .ref n => match st[n]? with
    | some (.lst true xs) => mnew xs.reverse st
    | _ => .stuck
  | _ => .stuck
/-- the type's own name (bool is not int here) -/
def tyD (st : Store) : D → Option String
  | .non => some "NoneType"
  | .bl _ => some "bool"
  | .int _ => some "int"
  | .str _ => some "str"
  | .tup _ => some "tuple"
  | .ref n => match st[n]? with
    | some (.lst _ _) => some "list"
    | _ => none
def isTy (a b : String) : Bool := a == b || (a == "bool" && b == "int")
def isiD (x : D) (tys : List String) : M D := fun st => mopt ((tyD st x).map fun a => D.bl (tys.any (isTy a))) st
/-- how long a text of a value may be, at most -/
def costs (f : D → Option Nat) : List D → Option Nat
  | [] => some 0
  | x :: xs => match f x, costs f xs with
    | some d, some ds => some (d + ds)
    | _, _ => none
def rgItems (n : Nat) : List D := (List.range n).map fun (i : Nat) => D.int (i : Int)
/-- sorted, of ints -/
def insI (x : Int) : List Int → List Int
  | [] => [x]
  | y :: r => if x ≤ y then x :: y :: r else y :: insI x r
def sortI : List Int → List Int
  | [] => []
  | x :: r => insI x (sortI r)
def bltD (f : Blt) (vs : List D) : M D := fun st => match f, vs with
  | .len, [x] => match x with
    | .str z => mif (fits z.length) (mret (.int z.length)) st
    | _ => match itemsD st x with
      | some xs => .ret (.int xs.length, st)
      | none => .stuck
  | .list, [x] => match itemsD st x with
    | some xs => mnew xs st
    | none => .stuck
  | .tuple, [x] => match itemsD st x with
    | some xs => .ret (.tup xs, st)
    | none => .stuck
  | .all, [.ref n] => match st[n]? with
    | some (.lst _ xs) => match blsD xs with
      | some bs => .ret (.bl (bs.all id), st)
      | none => .stuck
    | _ => .stuck
  | .any, [.ref n] => match st[n]? with
    | some (.lst _ xs) => match blsD xs with
      | some bs => .ret (.bl (bs.any id), st)
      | none => .stuck
    | _ => .stuck
  | .abs, [.int i] => .ret (.int (if i < 0 then -i else i), st)
  | .int, [.int i] => .ret (.int i, st)
  | .int, [.bl b] => .ret (.int (if b then 1 else 0), st)
  | .str, [.int i] => mif (decide (i.natAbs.log2 < 1920)) (mret (.str (toString i))) st
  | .min2, [.int i, .int j] => .ret (.int (if j < i then j else i), st)
  | .max2, [.int i, .int j] => .ret (.int (if j > i then j else i), st)
  | .lcm, [.int i, .int j] => mif (decide (i.natAbs < 2 ^ 64) && decide (j.natAbs < 2 ^ 64)) (mret (.int (Nat.lcm i.natAbs j.natAbs : Nat))) st
  | .repr, [x] => match py deep st x with
    | some d => mif (d.showable && fits d.shown.length) (mret (.str d.shown)) st
    | none => .stuck
  | .sorted, [x] => match itemsD st x with
    | some xs => match intsD xs with
      | some ns => mif (decide (ns.length < 64)) (mnew ((sortI ns).map D.int)) st
      | none => .stuck
    | none => .stuck
  | _, _ => .stuck
/-- list(range(n)), tuple(range(n)) -/
def rgD (l : Bool) (x : D) : M D := fun st => match x with
  | .int n => mif (decide (-100000 < n) && decide (n ≤ 100000)) (match l with | true => mnew (rgItems n.toNat) | false => mret (.tup (rgItems n.toNat))) st
  | _ => .stuck
/-- the list at n becomes xs -/
def setL (n : Nat) (xs : List D) (v : D) : M D := fun st => .ret (v, st.set n (.lst true xs))
def methD (m : Mth) (o : D) (vs : List D) : M D := fun st => match m, o, vs with
  | .append, .ref n, [y] => match st[n]? with
    | some (.lst true xs) => mif (fits (xs.length + 1)) (setL n (xs ++ [y]) .non) st
    | _ => .stuck
  | .insert, .ref n, [.int i, y] => match st[n]? with
    | some (.lst true xs) => mif (fits (xs.length + 1) && decide (0 ≤ i) && decide (i < 2 ^ 62)) (setL n (xs.take i.toNat ++ [y] ++ xs.drop i.toNat) .non) st
    | _ => .stuck
  | .pop, .ref n, [] => match st[n]? with
    | some (.lst true xs) => match xs[xs.length - 1]? with
      | some y => setL n xs.dropLast y st
      | none => .stuck
    | _ => .stuck
  | .popAt, .ref n, [.int i] => match st[n]? with
    | some (.lst true xs) => match xs[i.toNat]? with
      | some y => mif (decide (0 ≤ i) && decide (i < 2 ^ 62)) (setL n (xs.eraseIdx i.toNat) y) st
      | none => .stuck
    | _ => .stuck
  | .upper, .str z, [] => mif (Nat.ble z.length 100000) (mret (.str (Txt.upper z))) st
  | _, _, _ => .stuck
/-- a receiver of the method's kind -/
def recvOk (m : Mth) (x : D) : Bool := match m, x with
  | .upper, .str _ => true
  | .upper, _ => false
  | _, .ref _ => true
  | _, _ => false
def setSubD (o i v : D) : M Unit := fun st => match o, i with
  | .ref n, .int k => match st[n]? with
    | some (.lst true xs) => match ixN xs.length k with
      | some j => .ret ((), st.set n (.lst true (xs.set j v)))
      | none => .stuck
    | _ => .stuck
  | _, _ => .stuck

/-- a op= b: ints and texts -/
def augD (op : Operator) (x y : D) : M D := fun st => match op, x, y with
  | .Add, .int i, .int j => .ret (.int (i + j), st)
  | .Add, .str i, .str j => mif (fits (i.length + j.length)) (mret (.str (i ++ j))) st
  | .Sub, .int i, .int j => .ret (.int (i - j), st)
  | .Mult, .int i, .int j => mif (mulOk i j) (mret (.int (i * j))) st
  | _, _, _ => .stuck

/-! ### what is walked -/
inductive Pl where
  | lst (n len : Nat)
  | tup (xs : List D)
  | rng (lo : Int) (n : Nat)
  | enumL (n len : Nat)
  | enumT (xs : List D)
  | zipL (n m len len2 : Nat)
  | zipT (xs ys : List D)
def plLen : Pl → Nat
  | .lst _ l => l
  | .tup xs => xs.length
  | .rng _ n => n
  | .enumL _ l => l
  | .enumT xs => xs.length
  | .zipL _ _ l l2 => min l l2
  | .zipT xs ys => min xs.length ys.length
/-- the list at n is still as long -/
def lstAt (st : Store) (n len : Nat) : Option (List D) := match st[n]? with
  | some (.lst _ xs) => if xs.length = len then some xs else none
  | _ => none
def plItem (st : Store) : Pl → Nat → Option D
  | .lst n l, i => (lstAt st n l).bind fun xs => xs[i]?
  | .tup xs, i => xs[i]?
  | .rng lo n, i => if i < n then some (.int (lo + i)) else none
  | .enumL n l, i => (lstAt st n l).bind fun xs => (xs[i]?).map fun x => .tup [.int i, x]
  | .enumT xs, i => (xs[i]?).map fun x => .tup [.int i, x]
  | .zipL n m l l2, i => (lstAt st n l).bind fun xs => (lstAt st m l2).bind fun ys => (xs[i]?).bind fun x => (ys[i]?).map fun y => .tup [x, y]
  | .zipT xs ys, i => (xs[i]?).bind fun x => (ys[i]?).map fun y => .tup [x, y]
def plEnd (st : Store) : Pl → Bool
  | .lst n l => (lstAt st n l).isSome
  | .enumL n l => (lstAt st n l).isSome
  | .zipL n m l l2 => (lstAt st n l).isSome && (lstAt st m l2).isSome
  | _ => true
def setEnvs : List Nat → List D → Evr → Option Evr
  | [], [], env => some env
  | i :: is, x :: xs, env => setEnvs is xs (env.set i (some x))
  | _, _, _ => none
def bindTg (tg : ITg) (x : D) (env : Evr) : Option Evr := match tg with
  | .name i => some (env.set i (some x))
  | .tup ts => match x with
    | .tup xs => setEnvs ts xs env
    | _ => none

/-! ### runs -/
abbrev Calls := Str → List D → M D
/-- keywords: the positional values, then by name, in the parameters' order -/
abbrev KOrd := Str → Nat → List Str → Option (List Nat)
structure Cfg where
  call : Calls
  kord : KOrd
def pickD (xs : List D) : List Nat → Option (List D)
  | [] => some []
  | i :: r => match xs[i]?, pickD xs r with
    | some x, some ys => some (x :: ys)
    | _, _ => none
/-- a comprehension's turns: the list is at n -/
def lcLoop (turn : D → M (Option D)) (pl : Pl) (n : Nat) : Nat → Nat → Store → T (Unit × Store)
  | 0, _, st => mif (plEnd st pl) (mret ()) st
  | r + 1, i, st => match plItem st pl i with
    | none => .stuck
    | some x => (turn x st).nox.bind fun p => match p.1 with
      | none => lcLoop turn pl n r (i + 1) p.2
      | some y => match p.2[n]? with
        | some (.lst true xs) => match fits (xs.length + 1) with
          | true => lcLoop turn pl n r (i + 1) (p.2.set n (.lst true (xs ++ [y])))
          | false => .stuck
        | _ => .stuck
def wipeE (env : Evr) : List Nat → Evr
  | [] => env
  | i :: r => (wipeE env r).set i none
mutual
def ev (C : Cfg) : IE → Evr → M D
  | .var i, env => mopt (env[i]?.bind id)
  | .cint i, _ => mret (.int i)
  | .cstr x, _ => mret (.str x)
  | .cbl b, _ => mret (.bl b)
  | .cnon, _ => mret .non
  | .tup es, env => mbind (evs C es env) fun xs => mif (fits xs.length) (mret (.tup xs))
  | .lst es, env => mbind (evs C es env) fun xs => mif (fits xs.length) (mnew xs)
  | .bin op a b, env => mbind (ev C a env) fun x => mbind (ev C b env) fun y => binD op x y
  | .neg a, env => mbind (ev C a env) fun x => match x with
    | .int i => mret (.int (-i))
    | _ => mstuck
  | .cmp op a b, env => mbind (ev C a env) fun x => mbind (ev C b env) fun y => mbind (cmpD op x y) fun k => mret (.bl k)
  | .chain o1 o2 a b c, env => mbind (ev C a env) fun x => mbind (ev C b env) fun y => mbind (cmpD o1 x y) fun k => match k with
    | true => mbind (ev C c env) fun z => mbind (cmpD o2 y z) fun k => mret (.bl k)
    | false => mret (.bl false)
  | .and a b, env => mbind (ev C a env) fun x => mbind (asB x) fun k => match k with
    | true => ev C b env
    | false => mret (.bl false)
  | .or a b, env => mbind (ev C a env) fun x => mbind (asB x) fun k => match k with
    | true => mret (.bl true)
    | false => ev C b env
  | .not a, env => mbind (ev C a env) fun x => mbind (truthD x) fun k => mret (.bl (!k))
  | .ite c a b, env => mbind (ev C c env) fun x => mbind (truthD x) fun k => match k with
    | true => ev C a env
    | false => ev C b env
  | .ix a i, env => mbind (ev C a env) fun x => mbind (ev C i env) fun k => ixD x k
  | .slice a lo hi, env => mbind (ev C a env) fun x => mbind (evO C lo env) fun l => mbind (evO C hi env) fun h => sliceD x l h
  | .rev a, env => mbind (ev C a env) fun x => revD x
  | .blt f es, env => mbind (evs C es env) fun xs => bltD f xs
  | .lr a, env => mbind (ev C a env) fun x => rgD true x
  | .tr a, env => mbind (ev C a env) fun x => rgD false x
  | .isi e tys, env => mbind (ev C e env) fun x => isiD x tys
  | .call f es, env => mbind (evs C es env) fun xs => C.call f xs
  | .callK f es ks ws, env => mbind (evs C es env) fun xs => mbind (evs C ws env) fun ys => match C.kord f xs.length ks with
    | some o => match pickD (xs ++ ys) o with
      | some zs => C.call f zs
      | none => mstuck
    | none => mstuck
  | .meth m o es, env => mbind (ev C o env) fun x => mif (recvOk m x) (mbind (evs C es env) fun xs => methD m x xs)
  | .lc own tg it c e, env => mbind (evIt C it env) fun pl => fun st =>
      (lcLoop (fun x => match bindTg tg x (wipeE env (own.map (·.2))) with
        | none => mstuck
        | some env' => mbind (evC C c env') fun k => match k with
          | false => mret none
          | true => mbind (ev C e env') fun y => mret (some y)) pl st.length (plLen pl) 0 (st ++ [.lst true []])).bind fun p => .ret (.ref st.length, p.2)
def evs (C : Cfg) : IEs → Evr → M (List D)
  | .nil, _ => mret []
  | .cons e es, env => mbind (ev C e env) fun x => mbind (evs C es env) fun xs => mret (x :: xs)
/-- a slice's part -/
def evO (C : Cfg) : IO → Evr → M (Option Int)
  | .none, _ => mret none
  | .some e, env => mbind (ev C e env) fun x => match x with
    | .int i => mret (some i)
    | _ => mstuck
/-- a comprehension's test -/
def evC (C : Cfg) : IO → Evr → M Bool
  | .none, _ => mret true
  | .some e, env => mbind (ev C e env) fun x => truthD x
def evIt (C : Cfg) : IIt → Evr → M Pl
  | .seq e, env => mbind (ev C e env) fun x => fun st => match x with
    | .tup xs => .ret (.tup xs, st)
    | .ref n => match st[n]? with
      | some (.lst _ xs) => .ret (.lst n xs.length, st)
      | _ => .stuck
    | _ => .stuck
  | .range1 a, env => mbind (ev C a env) fun x => match x with
    | .int j => mif (decide (-(2 ^ 62) ≤ j) && decide (j < 2 ^ 62)) (mret (.rng 0 j.toNat))
    | _ => mstuck
  | .range2 a b, env => mbind (ev C a env) fun x => mbind (ev C b env) fun y => match x, y with
    | .int i, .int j => mif (decide (-(2 ^ 62) ≤ i) && decide (i < 2 ^ 62) && decide (-(2 ^ 62) ≤ j) && decide (j < 2 ^ 62)) (mret (.rng i (j - i).toNat))
    | _, _ => mstuck
  | .enum e, env => mbind (ev C e env) fun x => fun st => match x with
    | .tup xs => .ret (.enumT xs, st)
    | .ref n => match st[n]? with
      | some (.lst _ xs) => .ret (.enumL n xs.length, st)
      | _ => .stuck
    | _ => .stuck
  | .zip a b, env => mbind (ev C a env) fun x => mbind (ev C b env) fun y => fun st => match x, y with
    | .tup xs, .tup ys => .ret (.zipT xs ys, st)
    | .ref n, .ref m => match st[n]?, st[m]? with
      | some (.lst _ xs), some (.lst _ ys) => .ret (.zipL n m xs.length ys.length, st)
      | _, _ => .stuck
    | _, _ => .stuck
end
inductive Fl where
  | next | brk | cont
  | ret (v : D)
  | exc (x : Ex)
/-- an expression within a statement: an exception ends the statement, the names as they stand -/
def T.resc {α : Type} (env : Evr) (f : α → M (Fl × Evr)) : T (α × Store) → T ((Fl × Evr) × Store)
  | .ret p => f p.1 p.2
  | .draw n k => .draw n fun v => (k v).resc env f
  | .exc x st => .ret ((.exc x, env), st)
  | .stuck => .stuck
def doE {α : Type} (env : Evr) (m : M α) (f : α → M (Fl × Evr)) : M (Fl × Evr) := fun st => (m st).resc env f
def forLoop (body : Evr → M (Fl × Evr)) (tg : ITg) (pl : Pl) : Nat → Nat → Evr → M (Fl × Evr)
  | 0, _, env => fun st => mif (plEnd st pl) (mret (.next, env)) st
  | r + 1, i, env => fun st => match plItem st pl i with
    | none => .stuck
    | some x => match bindTg tg x env with
      | none => .stuck
      | some env1 => (body env1 st).bind fun p => match p.1.1 with
        | .next => forLoop body tg pl r (i + 1) p.1.2 p.2
        | .cont => forLoop body tg pl r (i + 1) p.1.2 p.2
        | .brk => .ret ((.next, p.1.2), p.2)
        | .ret v => .ret ((.ret v, p.1.2), p.2)
        | .exc x => .ret ((.exc x, p.1.2), p.2)
def whileLoop (test : Evr → M Bool) (body : Evr → M (Fl × Evr)) : Nat → Evr → M (Fl × Evr)
  | 0, _ => mstuck
  | r + 1, env => doE env (test env) fun k => match k with
    | false => mret (.next, env)
    | true => mbind (body env) fun p => match p.1 with
      | .next => whileLoop test body r p.2
      | .cont => whileLoop test body r p.2
      | .brk => mret (.next, p.2)
      | .ret v => mret (.ret v, p.2)
      | .exc x => mret (.exc x, p.2)
/-- turns of a while, at most -/
def turns : Nat := 1000000
mutual
def ex (C : Cfg) : IS → Evr → M (Fl × Evr)
  | .set i e, env => doE env (ev C e env) fun x => mret (.next, env.set i (some x))
  | .setT ts e, env => doE env (ev C e env) fun x => match bindTg (.tup ts) x env with
    | some env' => mret (.next, env')
    | none => mstuck
  | .setSub o i e, env => doE env (mbind (ev C e env) fun v => mbind (ev C o env) fun x => mbind (ev C i env) fun k => setSubD x k v) fun _ => mret (.next, env)
  | .aug i op e, env => doE env (mbind (mopt (env[i]?.bind id)) fun x => mbind (ev C e env) fun y => augD op x y) fun z => mret (.next, env.set i (some z))
  | .expr e, env => doE env (ev C e env) fun _ => mret (.next, env)
  | .ret e, env => doE env (ev C e env) fun x => mret (.ret x, env)
  | .ite c a b, env => doE env (mbind (ev C c env) truthD) fun k => match k with
    | true => exs C a env
    | false => exs C b env
  | .for tg it body, env => doE env (evIt C it env) fun pl => forLoop (exs C body) tg pl (plLen pl) 0 env
  | .while c body, env => whileLoop (fun env => mbind (ev C c env) truthD) (exs C body) turns env
  | .par ts es, env => doE env (evs C es env) fun xs => match setEnvs ts xs env with
    | some env' => mret (.next, env')
    | none => mstuck
  | .pass, env => mret (.next, env)
  | .brk, env => mret (.brk, env)
  | .cont, env => mret (.cont, env)
def exs (C : Cfg) : ISs → Evr → M (Fl × Evr)
  | .nil, env => mret (.next, env)
  | .cons s ss, env => mbind (ex C s env) fun p => match p.1 with
    | .next => exs C ss p.2
    | .brk => mret (.brk, p.2)
    | .cont => mret (.cont, p.2)
    | .ret v => mret (.ret v, p.2)
    | .exc x => mret (.exc x, p.2)
end
/-- a def: its parameters, its names' number, its body; or a source of draws -/
inductive Fn where
  | code (ps : List Str) (n : Nat) (body : ISs)
  | draw
  | box
abbrev Tab := List (Str × Fn)
def kordT (F : Tab) : KOrd := fun f n ks => match F.lookup f with
  | some (.code ps _ _) => some (ps.mapIdx fun i p => if i < n then i else n + ks.findIdx (· == p))
  | _ => none
def run (F : Tab) : Nat → Calls
  | 0, _, _ => mstuck
  | k + 1, f, vs => match F.lookup f with
    | none => mstuck
    | some (.code ps n body) => match decide (vs.length = ps.length) with
      | false => mstuck
      | true => fun st => (exs ⟨run F k, kordT F⟩ body (vs.map some ++ List.replicate (n - vs.length) none) st).nox.bind fun p => match p.1.1 with
        | .ret v => .ret (v, p.2)
        | .next => .ret (.non, p.2)
        | .exc x => .exc x p.2
        | _ => .stuck
    | some .draw => fun st => match vs with
      | [.ref r, .int n] => match st[r]? with
        | some .rng => match decide (0 < n) && decide (n < 1073741824) with
          | true => .draw n fun v => .ret (.int v, st)
          | false => .stuck
        | _ => .stuck
      | _ => .stuck
    | some .box => fun st => match vs with
      | [.ref s, .int k] => match st[s]? with
        | some (.lst false xs) => match intsD xs, decide (0 ≤ k) && decide (k < 1000) with
          | some _, true => .ret (.ref st.length, st ++ [.rng])
          | _, _ => .stuck
        | _ => .stuck
      | _ => .stuck
end DI
end
section
namespace DI
open PySem L2
variable {K : PySem.W.Frag}

/-! ### what a value of the little language stands for -/
mutual
inductive RD (K : PySem.W.Frag) (α : List Addr) (H : Hp) : D → V → Prop
  | non : RD K α H .non .non
  | bl (b : Bool) : RD K α H (.bl b) (.bl b)
  | int (i : Int) : RD K α H (.int i) (.int i)
  | str (x : Str) : RD K α H (.str x) (.str x)
  | tup {ds : List D} {vs : List V} {a : Addr} : SqT K H a vs → RDs K α H ds vs → RD K α H (.tup ds) (.ref a)
  | ref {n : Nat} {a : Addr} : α[n]? = some a → RD K α H (.ref n) (.ref a)
inductive RDs (K : PySem.W.Frag) (α : List Addr) (H : Hp) : List D → List V → Prop
  | nil : RDs K α H [] []
  | cons {d : D} {v : V} {ds : List D} {vs : List V} : RD K α H d v → RDs K α H ds vs → RDs K α H (d :: ds) (v :: vs)
end
/-- a list that may be read -/
def Fz (K : PySem.W.Frag) (H : Hp) (a : Addr) (vs : List V) : Prop :=
  (∃ o, H a = some (.frz o (.lst vs))) ∨ (∀ H' : Hp, SqL K H' a vs)
def rngMax : Nat := 2 ^ 40
def SOk (K : PySem.W.Frag) (α : List Addr) (H : Hp) (b : Nat) : SO → Addr → Prop
  | .lst true xs, a => ∃ vs, H a = some (.lst vs) ∧ RDs K α H xs vs
  | .lst false xs, a => ∃ vs, Fz K H a vs ∧ RDs K α H xs vs
  | .rng, a => ∃ x y z : Int, H a = some (.lst [.int x, .int y, .int z]) ∧ 0 ≤ x ∧ 0 ≤ y ∧ y < 2 ^ 40 ∧ 0 ≤ z ∧ z + b ≤ 2 ^ 40
/-- what may be written -/
def SO.wr : SO → Bool
  | .lst w _ => w
  | .rng => true
structure Rel (K : PySem.W.Frag) (α : List Addr) (H : Hp) (st : Store) (b : Nat) : Prop where
  len : α.length = st.length
  bud : b ≤ 2 ^ 40
  at_ : ∀ (n : Nat) (so : SO) (a : Addr), st[n]? = some so → α[n]? = some a → SOk K α H b so a
  inj : ∀ (n m : Nat) (so so' : SO) (a : Addr), st[n]? = some so → st[m]? = some so' → so.wr = true → so'.wr = true → α[n]? = some a → α[m]? = some a → n = m
structure Ext (K : PySem.W.Frag) (α : List Addr) (H : Hp) (α' : List Addr) (H' : Hp) : Prop where
  pre : ∀ (n : Nat) (a : Addr), α[n]? = some a → α'[n]? = some a
  tup : ∀ (a : Addr) (vs : List V), SqT K H a vs → SqT K H' a vs
theorem Ext.refl (α : List Addr) (H : Hp) : Ext K α H α H := ⟨fun _ _ h => h, fun _ _ h => h⟩
theorem Ext.trans {α α1 α2 : List Addr} {H H1 H2 : Hp} (a : Ext K α H α1 H1) (b : Ext K α1 H1 α2 H2) : Ext K α H α2 H2 :=
  ⟨fun n x h => b.pre n x (a.pre n x h), fun x vs h => b.tup x vs (a.tup x vs h)⟩
mutual
theorem RD.ext {α α' : List Addr} {H H' : Hp} (e : Ext K α H α' H') : ∀ {d : D} {v : V}, RD K α H d v → RD K α' H' d v
  | _, _, .non => .non
  | _, _, .bl b => .bl b
  | _, _, .int i => .int i
  | _, _, .str x => .str x
  | _, _, .tup h r => .tup (e.tup _ _ h) (RDs.ext e r)
  | _, _, .ref h => .ref (e.pre _ _ h)
theorem RDs.ext {α α' : List Addr} {H H' : Hp} (e : Ext K α H α' H') : ∀ {d : List D} {v : List V}, RDs K α H d v → RDs K α' H' d v
  | _, _, .nil => .nil
  | _, _, .cons h r => .cons (RD.ext e h) (RDs.ext e r)
end
theorem RDs.length {α : List Addr} {H : Hp} : ∀ {ds : List D} {vs : List V}, RDs K α H ds vs → ds.length = vs.length
  | _, _, .nil => rfl
  | _, _, .cons _ r => by rw [List.length_cons, List.length_cons, RDs.length r]
theorem RDs.append {α : List Addr} {H : Hp} : ∀ {ds es : List D} {vs us : List V}, RDs K α H ds vs → RDs K α H es us → RDs K α H (ds ++ es) (vs ++ us)
  | _, _, _, _, .nil, s => s
  | _, _, _, _, .cons h r, s => .cons h (RDs.append r s)
theorem RDs.get {α : List Addr} {H : Hp} : ∀ {ds : List D} {vs : List V} {i : Nat} {d : D}, RDs K α H ds vs → ds[i]? = some d → ∃ v, vs[i]? = some v ∧ RD K α H d v
  | _, _, _, _, .nil, e => by simp at e
  | _, _, 0, _, .cons h _, e => by simp at e; subst e; exact ⟨_, rfl, h⟩
  | _, _, i + 1, _, .cons _ r, e => by
    obtain ⟨v, h1, h2⟩ := RDs.get (i := i) r (by simpa using e)
    exact ⟨v, by simpa using h1, h2⟩
theorem RDs.getV {α : List Addr} {H : Hp} : ∀ {ds : List D} {vs : List V} {i : Nat} {v : V}, RDs K α H ds vs → vs[i]? = some v → ∃ d, ds[i]? = some d ∧ RD K α H d v
  | _, _, _, _, .nil, e => by simp at e
  | _, _, 0, _, .cons h _, e => by simp at e; subst e; exact ⟨_, rfl, h⟩
  | _, _, i + 1, _, .cons _ r, e => by
    obtain ⟨v, h1, h2⟩ := RDs.getV (i := i) r (by simpa using e)
    exact ⟨v, by simpa using h1, h2⟩
theorem RDs.take {α : List Addr} {H : Hp} : ∀ {ds : List D} {vs : List V} (n : Nat), RDs K α H ds vs → RDs K α H (ds.take n) (vs.take n)
  | _, _, 0, _ => .nil
  | _, _, _ + 1, .nil => .nil
  | _, _, n + 1, .cons h r => .cons h (RDs.take n r)
theorem RDs.drop {α : List Addr} {H : Hp} : ∀ {ds : List D} {vs : List V} (n : Nat), RDs K α H ds vs → RDs K α H (ds.drop n) (vs.drop n)
  | _, _, 0, r => r
  | _, _, _ + 1, .nil => .nil
  | _, _, n + 1, .cons _ r => RDs.drop n r
theorem RDs.set {α : List Addr} {H : Hp} {d : D} {v : V} (h : RD K α H d v) : ∀ {ds : List D} {vs : List V} (n : Nat), RDs K α H ds vs → RDs K α H (ds.set n d) (vs.set n v)
  | _, _, _, .nil => .nil
  | _, _, 0, .cons _ r => .cons h r
  | _, _, n + 1, .cons q r => .cons q (RDs.set h n r)
theorem RDs.eraseIdx {α : List Addr} {H : Hp} : ∀ {ds : List D} {vs : List V} (n : Nat), RDs K α H ds vs → RDs K α H (ds.eraseIdx n) (vs.eraseIdx n)
  | _, _, _, .nil => .nil
  | _, _, 0, .cons _ r => r
  | _, _, n + 1, .cons q r => .cons q (RDs.eraseIdx n r)
theorem RDs.reverse {α : List Addr} {H : Hp} {ds : List D} {vs : List V} (r : RDs K α H ds vs) : RDs K α H ds.reverse vs.reverse := by
  induction ds generalizing vs with
  | nil => cases r; exact .nil
  | cons d ds ih =>
    cases r with
    | cons h r =>
      rw [List.reverse_cons, List.reverse_cons]
      exact (ih r).append (.cons h .nil)
theorem RDs.rep {α : List Addr} {H : Hp} {ds : List D} {vs : List V} (r : RDs K α H ds vs) : ∀ k : Nat, RDs K α H (List.replicate k ds).flatten (List.replicate k vs).flatten
  | 0 => .nil
  | k + 1 => by
    rw [List.replicate_succ, List.replicate_succ, List.flatten_cons, List.flatten_cons]
    exact r.append (RDs.rep r k)
theorem RDs.dropLast {α : List Addr} {H : Hp} {ds : List D} {vs : List V} (r : RDs K α H ds vs) : RDs K α H ds.dropLast vs.dropLast := by
  rw [List.dropLast_eq_take, List.dropLast_eq_take, r.length]
  exact r.take _
theorem RDs.nil_iff {α : List Addr} {H : Hp} {ds : List D} {vs : List V} (r : RDs K α H ds vs) : ds = [] ↔ vs = [] := by
  cases r with
  | nil => exact ⟨fun _ => rfl, fun _ => rfl⟩
  | cons h r => exact ⟨fun z => (by cases z), fun z => (by cases z)⟩
theorem RDs.isEmpty {α : List Addr} {H : Hp} {ds : List D} {vs : List V} (r : RDs K α H ds vs) : ds.isEmpty = vs.isEmpty := by
  cases r <;> rfl

/-! ### the heap grows, an object changes -/
theorem sqt_new {H : Hp} {p a : Addr} {o : HO} {vs : List V} (hp : H p = none) (h : SqT K H a vs) : SqT K (upd H p o) a vs := by
  rcases h with (h | ⟨ob, h⟩) | h
  · exact .inl (.inl (by rw [upd_ne (ne_of_none h hp)]; exact h))
  · exact .inl (.inr ⟨ob, by rw [upd_ne (ne_of_none h hp)]; exact h⟩)
  · exact .inr h
theorem sqt_upd {H : Hp} {p a : Addr} {o : HO} {xs vs : List V} (hp : H p = some (.lst xs)) (h : SqT K H a vs) : SqT K (upd H p o) a vs := by
  rcases h with (h | ⟨ob, h⟩) | h
  · exact .inl (.inl (by rw [upd_ne (ne_of h hp (by intro z; cases z))]; exact h))
  · exact .inl (.inr ⟨ob, by rw [upd_ne (ne_of h hp (by intro z; cases z))]; exact h⟩)
  · exact .inr h
theorem ext_new {α : List Addr} {H : Hp} {p : Addr} {o : HO} (hp : H p = none) : Ext K α H α (upd H p o) := ⟨fun _ _ h => h, fun _ _ h => sqt_new hp h⟩
theorem ext_newA {α : List Addr} {H : Hp} {p : Addr} {o : HO} (hp : H p = none) : Ext K α H (α ++ [p]) (upd H p o) :=
  ⟨fun n a h => by rw [List.getElem?_append_left (List.getElem?_eq_some_iff.mp h).1]; exact h, fun _ _ h => sqt_new hp h⟩
theorem ext_upd {α : List Addr} {H : Hp} {p : Addr} {o : HO} {xs : List V} (hp : H p = some (.lst xs)) : Ext K α H α (upd H p o) := ⟨fun _ _ h => h, fun _ _ h => sqt_upd hp h⟩
theorem Fz.sq {H : Hp} {a : Addr} {vs : List V} (h : Fz K H a vs) : SqL K H a vs := by
  rcases h with ⟨o, h⟩ | h
  · exact .inl (.inr ⟨o, h⟩)
  · exact h H
theorem Fz.new {H : Hp} {p a : Addr} {o : HO} {vs : List V} (hp : H p = none) (h : Fz K H a vs) : Fz K (upd H p o) a vs := by
  rcases h with ⟨ob, h⟩ | h
  · exact .inl ⟨ob, by rw [upd_ne (ne_of_none h hp)]; exact h⟩
  · exact .inr h
theorem Fz.upd {H : Hp} {p a : Addr} {o : HO} {xs vs : List V} (hp : H p = some (.lst xs)) (h : Fz K H a vs) : Fz K (upd H p o) a vs := by
  rcases h with ⟨ob, h⟩ | h
  · exact .inl ⟨ob, by rw [upd_ne (ne_of h hp (by intro z; cases z))]; exact h⟩
  · exact .inr h
theorem SOk.wrAt {α : List Addr} {H : Hp} {b : Nat} {so : SO} {a : Addr} (h : SOk K α H b so a) (w : so.wr = true) : ∃ xs, H a = some (.lst xs) := by
  cases so with
  | lst w' xs =>
    cases w' with
    | true => obtain ⟨vs, h, _⟩ := h; exact ⟨vs, h⟩
    | false => cases w
  | rng => obtain ⟨x, y, z, h, _⟩ := h; exact ⟨_, h⟩
theorem SOk.new {α : List Addr} {H : Hp} {b : Nat} {so : SO} {a p : Addr} {α' : List Addr} {o : HO} (hp : H p = none) (e : Ext K α H α' (upd H p o)) (h : SOk K α H b so a) : SOk K α' (upd H p o) b so a := by
  cases so with
  | lst w xs =>
    cases w with
    | true =>
      obtain ⟨vs, h, r⟩ := h
      exact ⟨vs, by rw [upd_ne (ne_of_none h hp)]; exact h, r.ext e⟩
    | false =>
      obtain ⟨vs, h, r⟩ := h
      exact ⟨vs, h.new hp, r.ext e⟩
  | rng =>
    obtain ⟨x, y, z, h, q⟩ := h
    exact ⟨x, y, z, by rw [upd_ne (ne_of_none h hp)]; exact h, q⟩
theorem SOk.upd {α : List Addr} {H : Hp} {b : Nat} {so : SO} {a p : Addr} {xs : List V} {o : HO} (hp : H p = some (.lst xs)) (hn : so.wr = true → a ≠ p) (h : SOk K α H b so a) : SOk K α (upd H p o) b so a := by
  have e : Ext K α H α (L2.upd H p o) := ext_upd hp
  cases so with
  | lst w xs =>
    cases w with
    | true =>
      obtain ⟨vs, h, r⟩ := h
      exact ⟨vs, by rw [upd_ne (hn rfl)]; exact h, r.ext e⟩
    | false =>
      obtain ⟨vs, h, r⟩ := h
      exact ⟨vs, h.upd hp, r.ext e⟩
  | rng =>
    obtain ⟨x, y, z, h, q⟩ := h
    exact ⟨x, y, z, by rw [upd_ne (hn rfl)]; exact h, q⟩
theorem SOk.less {α : List Addr} {H : Hp} {b b' : Nat} {so : SO} {a : Addr} (hb : b' ≤ b) (h : SOk K α H b so a) : SOk K α H b' so a := by
  cases so with
  | lst w xs => cases w <;> exact h
  | rng =>
    obtain ⟨x, y, z, h, q1, q2, q3, q4, q5⟩ := h
    exact ⟨x, y, z, h, q1, q2, q3, q4, by omega⟩
section
variable {α : List Addr} {H : Hp} {st : Store} {b : Nat}
theorem Rel.less {b' : Nat} (R : Rel K α H st b) (hb : b' ≤ b) : Rel K α H st b' := ⟨R.len, Nat.le_trans hb R.bud, fun n so a h1 h2 => (R.at_ n so a h1 h2).less hb, R.inj⟩
theorem Rel.addr (R : Rel K α H st b) {n : Nat} {so : SO} (h : st[n]? = some so) : ∃ a, α[n]? = some a := by
  have h1 := (List.getElem?_eq_some_iff.mp h).1
  exact ⟨α[n]'(by rw [R.len]; exact h1), List.getElem?_eq_getElem (by rw [R.len]; exact h1)⟩
/-- a new tuple -/
theorem Rel.newT (R : Rel K α H st b) {p : Addr} {o : HO} (hp : H p = none) : Rel K α (upd H p o) st b :=
  ⟨R.len, R.bud, fun n so a h1 h2 => (R.at_ n so a h1 h2).new hp (ext_new hp), R.inj⟩
/-- a new thing of the store -/
theorem Rel.newS (R : Rel K α H st b) {p : Addr} {o : HO} {so : SO} (hp : H p = none) (hs : SOk K (α ++ [p]) (upd H p o) b so p) : Rel K (α ++ [p]) (upd H p o) (st ++ [so]) b := by
  refine ⟨by rw [List.length_append, List.length_append, R.len]; rfl, R.bud, fun n s a h1 h2 => ?_, fun n m s s' a h1 h2 w1 w2 e1 e2 => ?_⟩
  · by_cases hn : n < st.length
    · rw [List.getElem?_append_left hn] at h1
      rw [List.getElem?_append_left (by rw [R.len]; exact hn)] at h2
      exact (R.at_ n s a h1 h2).new hp (ext_newA hp)
    · have e : n = st.length := by
        have := (List.getElem?_eq_some_iff.mp h1).1
        rw [List.length_append] at this
        have q : ([so] : List SO).length = 1 := rfl
        omega
      subst e
      rw [List.getElem?_append_right (Nat.le_refl _), Nat.sub_self] at h1
      rw [List.getElem?_append_right (by rw [R.len]; exact Nat.le_refl _), R.len, Nat.sub_self] at h2
      cases h1
      cases h2
      exact hs
  · have key : ∀ (k : Nat) (s : SO), (st ++ [so])[k]? = some s → s.wr = true → (α ++ [p])[k]? = some a → (k < st.length ∧ st[k]? = some s ∧ α[k]? = some a ∧ a ≠ p) ∨ (k = st.length ∧ a = p) := by
      intro k s h1 w e
      by_cases hn : k < st.length
      · rw [List.getElem?_append_left hn] at h1
        rw [List.getElem?_append_left (by rw [R.len]; exact hn)] at e
        obtain ⟨xs, hx⟩ := (R.at_ k s a h1 e).wrAt w
        exact .inl ⟨hn, h1, e, ne_of_none hx hp⟩
      · have e' : k = st.length := by
          have := (List.getElem?_eq_some_iff.mp h1).1
          rw [List.length_append] at this
          have q : ([so] : List SO).length = 1 := rfl
          omega
        subst e'
        rw [List.getElem?_append_right (by rw [R.len]; exact Nat.le_refl _), R.len, Nat.sub_self] at e
        cases e
        exact .inr ⟨rfl, rfl⟩
    rcases key n s h1 w1 e1 with ⟨q1, q2, q3, q4⟩ | ⟨q1, q2⟩
    · rcases key m s' h2 w2 e2 with ⟨r1, r2, r3, r4⟩ | ⟨r1, r2⟩
      · exact R.inj n m s s' a q2 r2 w1 w2 q3 r3
      · exact absurd r2 q4
    · rcases key m s' h2 w2 e2 with ⟨r1, r2, r3, r4⟩ | ⟨r1, r2⟩
      · exact absurd q2 r4
      · rw [q1, r1]
/-- a new list -/
theorem Rel.newL (R : Rel K α H st b) {p : Addr} {xs : List D} {vs : List V} (hp : H p = none) (r : RDs K α H xs vs) : Rel K (α ++ [p]) (upd H p (.lst vs)) (st ++ [.lst true xs]) b :=
  R.newS hp ⟨vs, upd_same, r.ext (ext_newA hp)⟩
theorem Rel.last (R : Rel K α H st b) {p : Addr} : (α ++ [p])[st.length]? = some p := by
  rw [List.getElem?_append_right (by rw [R.len]; exact Nat.le_refl _), R.len, Nat.sub_self]
  rfl
/-- a thing of the store changes -/
theorem Rel.setS (R : Rel K α H st b) {n : Nat} {so so' : SO} {a : Addr} {o : HO} (hs : st[n]? = some so) (hw : so.wr = true) (ha : α[n]? = some a) (hn : SOk K α (upd H a o) b so' a) : Rel K α (upd H a o) (st.set n so') b := by
  have hx : n < st.length := (List.getElem?_eq_some_iff.mp hs).1
  obtain ⟨xs0, h0⟩ := (R.at_ n so a hs ha).wrAt hw
  refine ⟨by rw [List.length_set, R.len], R.bud, fun m s c h1 h2 => ?_, fun m k s s' c h1 h2 w1 w2 e1 e2 => ?_⟩
  · by_cases hm : m = n
    · subst hm
      rw [List.getElem?_set_self hx] at h1
      rw [ha] at h2
      cases h1
      cases h2
      exact hn
    · rw [List.getElem?_set_ne (Ne.symm hm)] at h1
      exact (R.at_ m s c h1 h2).upd h0 fun w z => hm (R.inj m n s so c h1 hs w hw h2 (by rw [z]; exact ha))
  · have key : ∀ (k : Nat) (s : SO), (st.set n so')[k]? = some s → s.wr = true → α[k]? = some c → ∃ s2, st[k]? = some s2 ∧ s2.wr = true := by
      intro k s h w e
      by_cases hk : k = n
      · subst hk
        exact ⟨so, hs, hw⟩
      · rw [List.getElem?_set_ne (Ne.symm hk)] at h
        exact ⟨s, h, w⟩
    obtain ⟨s1, q1, q2⟩ := key m s h1 w1 e1
    obtain ⟨s2, r1, r2⟩ := key k s' h2 w2 e2
    exact R.inj m k s1 s2 c q1 r1 q2 r2 e1 e2
/-- a list of the store, at its address -/
theorem Rel.lstW (R : Rel K α H st b) {n : Nat} {xs : List D} {a : Addr} (hs : st[n]? = some (.lst true xs)) (ha : α[n]? = some a) : ∃ vs, H a = some (.lst vs) ∧ RDs K α H xs vs := R.at_ n _ a hs ha
theorem Rel.lst (R : Rel K α H st b) {n : Nat} {w : Bool} {xs : List D} {a : Addr} (hs : st[n]? = some (.lst w xs)) (ha : α[n]? = some a) : ∃ vs, SqL K H a vs ∧ RDs K α H xs vs := by
  have h := R.at_ n _ a hs ha
  cases w with
  | true => obtain ⟨vs, h, r⟩ := h; exact ⟨vs, .of h, r⟩
  | false => obtain ⟨vs, h, r⟩ := h; exact ⟨vs, h.sq, r⟩
theorem Rel.setL (R : Rel K α H st b) {n : Nat} {xs ys : List D} {vs : List V} {a : Addr} (hs : st[n]? = some (.lst true xs)) (ha : α[n]? = some a) (r : RDs K α H ys vs) : Rel K α (upd H a (.lst vs)) (st.set n (.lst true ys)) b := by
  obtain ⟨us, h0, _⟩ := R.lstW hs ha
  exact R.setS hs rfl ha ⟨vs, upd_same, r.ext (ext_upd h0)⟩
end

/-! ### slots -/
structure REnv (K : PySem.W.Frag) (α : List Addr) (H : Hp) (env : Evr) (σ : St) : Prop where
  len : env.length = σ.length
  at_ : ∀ (i : Nat) (d : D), env[i]? = some (some d) → ∃ v, σ[i]? = some (some v) ∧ RD K α H d v
section
variable {α α' : List Addr} {H H' : Hp} {env : Evr} {σ : St}
theorem REnv.ext (r : REnv K α H env σ) (e : Ext K α H α' H') : REnv K α' H' env σ := ⟨r.len, fun i d h => let ⟨v, h1, h2⟩ := r.at_ i d h; ⟨v, h1, h2.ext e⟩⟩
theorem REnv.set (r : REnv K α H env σ) {d : D} {v : V} (i : Nat) (h : RD K α H d v) : REnv K α H (env.set i (some d)) (σ.set i (some v)) := by
  refine ⟨by rw [List.length_set, List.length_set, r.len], fun j e he => ?_⟩
  by_cases hj : i = j
  · subst hj
    have hl : i < env.length := by
      have := (List.getElem?_eq_some_iff.mp he).1
      rwa [List.length_set] at this
    rw [List.getElem?_set_self hl] at he
    cases he
    exact ⟨v, List.getElem?_set_self (by rw [← r.len]; exact hl), h⟩
  · rw [List.getElem?_set_ne hj] at he
    obtain ⟨u, h1, h2⟩ := r.at_ j e he
    exact ⟨u, by rw [List.getElem?_set_ne hj]; exact h1, h2⟩
theorem REnv.wipe (r : REnv K α H env σ) : ∀ vs : List Nat, REnv K α H (wipeE env vs) (L2.wipe σ vs)
  | [] => r
  | i :: vs => by
    have q := REnv.wipe r vs
    refine ⟨?_, fun j d hd => ?_⟩
    · have e2 := L2.wipe_length σ (i :: vs)
      rw [e2]
      show ((wipeE env vs).set i none).length = _
      rw [List.length_set, q.len, L2.wipe_length]
    · have hd' : ((wipeE env vs).set i none)[j]? = some (some d) := hd
      by_cases hj : i = j
      · subst hj
        have hl : i < (wipeE env vs).length := by
          have := (List.getElem?_eq_some_iff.mp hd').1
          rwa [List.length_set] at this
        rw [List.getElem?_set_self hl] at hd'
        cases hd'
      · rw [List.getElem?_set_ne hj] at hd'
        obtain ⟨u, h1, h2⟩ := q.at_ j d hd'
        refine ⟨u, ?_, h2⟩
        obtain ⟨h3, h4⟩ := L2.wipe_some h1
        rw [L2.wipe_out]
        · exact h3
        · intro hm
          rcases List.mem_cons.mp hm with z | z
          · exact hj z.symm
          · exact h4 z
end
end DI
end
section
namespace DI
open PySem L2
/-- what stands for an exception: its class, its own dict, the heap -/
abbrev XRel := Ex → Value → Option Addr → Hp → Prop
section
variable {K : PySem.W.Frag} {RX : XRel} {W : WX} {α α' : List Addr} {H H' : Hp} {b : Nat} {st : Store} {env : Evr} {σ : St}

def PostV (K : PySem.W.Frag) (α : List Addr) (H : Hp) (Q : VK) : Nat → (D × Store) → Prop := fun b p => ∀ α' H' v, Ext K α H α' H' → Rel K α' H' p.2 b → RD K α' H' p.1 v → Q v H'
def PostA (K : PySem.W.Frag) (α : List Addr) (H : Hp) (Q : List V → Hp → Prop) : Nat → (List D × Store) → Prop := fun b p => ∀ α' H' v, Ext K α H α' H' → Rel K α' H' p.2 b → RDs K α' H' p.1 v → Q v H'
/-- an answer without things of the heap -/
def PostC {β : Type} (K : PySem.W.Frag) (α : List Addr) (H : Hp) (Q : β → Hp → Prop) : Nat → (β × Store) → Prop := fun b p => ∀ α' H', Ext K α H α' H' → Rel K α' H' p.2 b → Q p.1 H'
def PostX (K : PySem.W.Frag) (RX : XRel) (W : WX) (σ : St) (α : List Addr) (H : Hp) : Nat → Ex → Store → Prop := fun b x st => ∀ α' H' cls d, Ext K α H α' H' → Rel K α' H' st b → RX x cls d H' → W cls d σ H'
theorem PostX.ext {x : Ex} (e : Ext K α H α' H') (h : PostX K RX W σ α H b x st) : PostX K RX W σ α' H' b x st := fun α2 H2 cls d e2 R r => h α2 H2 cls d (e.trans e2) R r
theorem PostV.ext {Q : VK} {p : D × Store} (e : Ext K α H α' H') (h : PostV K α H Q b p) : PostV K α' H' Q b p := fun α2 H2 v e2 R r => h α2 H2 v (e.trans e2) R r
theorem PostA.ext {Q : List V → Hp → Prop} {p : List D × Store} (e : Ext K α H α' H') (h : PostA K α H Q b p) : PostA K α' H' Q b p := fun α2 H2 v e2 R r => h α2 H2 v (e.trans e2) R r
theorem PostC.ext {β : Type} {Q : β → Hp → Prop} {p : β × Store} (e : Ext K α H α' H') (h : PostC K α H Q b p) : PostC K α' H' Q b p := fun α2 H2 e2 R => h α2 H2 (e.trans e2) R

/-! ### readings -/
variable (K : PySem.W.Frag) (RX : XRel) (W : WX) (C : Cfg)
def te (e : IE) : TE := fun σ H Q => ∃ α st b env, Rel K α H st b ∧ REnv K α H env σ ∧ Tri (ev C e env st) b (PostV K α H Q) (PostX K RX W σ α H)
def ta (es : IEs) : TA := fun σ H Q => ∃ α st b env, Rel K α H st b ∧ REnv K α H env σ ∧ Tri (evs C es env st) b (PostA K α H Q) (PostX K RX W σ α H)
/-- a test, by truth -/
def tt (e : IE) : TT := fun σ H Q => ∃ α st b env, Rel K α H st b ∧ REnv K α H env σ ∧ Tri ((mbind (ev C e env) truthD) st) b (PostC K α H Q) (PostX K RX W σ α H)
def to (o : IO) : TO := fun σ H Q => ∃ α st b env, Rel K α H st b ∧ REnv K α H env σ ∧ Tri (evO C o env st) b (PostC K α H Q) (PostX K RX W σ α H)
/-- values at hand: two, one, a list of them -/
def r2 (f : D → D → M D) : R2 := fun x y H Q => ∃ α st b d e, Rel K α H st b ∧ RD K α H d x ∧ RD K α H e y ∧ ∃ XP, Tri (f d e st) b (PostV K α H Q) XP
def r1 (f : D → M D) : V → Hp → VK → Prop := fun x H Q => ∃ α st b d, Rel K α H st b ∧ RD K α H d x ∧ ∃ XP, Tri (f d st) b (PostV K α H Q) XP
def rl (f : List D → M D) : List V → Hp → VK → Prop := fun xs H Q => ∃ α st b ds, Rel K α H st b ∧ RDs K α H ds xs ∧ ∃ XP, Tri (f ds st) b (PostV K α H Q) XP
def rm (f : D → List D → M D) : V → List V → Hp → VK → Prop := fun x xs H Q => ∃ α st b d ds, Rel K α H st b ∧ RD K α H d x ∧ RDs K α H ds xs ∧ ∃ XP, Tri (f d ds st) b (PostV K α H Q) XP
end
/-! ### runs without draws or exceptions -/
def Pure {β : Type} (t : T β) : Prop := (∃ a, t = .ret a) ∨ t = .stuck
theorem Pure.nox {β : Type} {t : T β} {b : Nat} {P : Nat → β → Prop} {X X' : Nat → Ex → Store → Prop} (p : Pure t) (h : Tri t b P X) : Tri t b P X' := by
  rcases p with ⟨a, rfl⟩ | rfl
  · exact h
  · exact h.elim
theorem Pure.get {β : Type} {t : T β} {b : Nat} {P : Nat → β → Prop} {X : Nat → Ex → Store → Prop} (p : Pure t) (h : Tri t b P X) : ∃ a, t = .ret a ∧ P b a := by
  rcases p with ⟨a, rfl⟩ | rfl
  · exact ⟨a, rfl, h⟩
  · exact h.elim
theorem pure_ret {β : Type} {a : β} : Pure (T.ret a) := .inl ⟨a, rfl⟩
theorem pure_stuck {β : Type} : Pure (T.stuck : T β) := .inr rfl
theorem pure_mif {β : Type} {c : Bool} {m : M β} {st : Store} (h : Pure (m st)) : Pure (mif c m st) := by
  unfold mif
  cases c with
  | true => exact h
  | false => exact .inr rfl
theorem pure_mopt {β : Type} {o : Option β} {st : Store} : Pure (mopt o st) := by
  unfold mopt
  cases o with
  | some a => exact .inl ⟨_, rfl⟩
  | none => exact .inr rfl
theorem pure_mret {β : Type} {a : β} {st : Store} : Pure (mret a st) := .inl ⟨_, rfl⟩
theorem pure_mnew {xs : List D} {st : Store} : Pure (mnew xs st) := .inl ⟨_, rfl⟩
theorem pure_mstuck {β : Type} {st : Store} : Pure ((mstuck : M β) st) := .inr rfl
theorem pure_setL {n : Nat} {xs : List D} {v : D} {st : Store} : Pure (setL n xs v st) := .inl ⟨_, rfl⟩
theorem pure_bind {β γ : Type} {t : T β} {f : β → T γ} (h : Pure t) (hf : ∀ a, Pure (f a)) : Pure (t.bind f) := by
  rcases h with ⟨a, rfl⟩ | rfl
  · exact hf a
  · exact .inr rfl
/-- what a mif tells -/
theorem tri_mif {β : Type} {c : Bool} {m : M β} {st : Store} {b : Nat} {P : Nat → (β × Store) → Prop} {X : Nat → Ex → Store → Prop} (h : Tri (mif c m st) b P X) : c = true ∧ Tri (m st) b P X := by
  cases c with
  | true => exact ⟨rfl, h⟩
  | false => exact h.elim
theorem tri_mopt {β : Type} {o : Option β} {st : Store} {b : Nat} {P : Nat → (β × Store) → Prop} {X : Nat → Ex → Store → Prop} (h : Tri (mopt o st) b P X) : ∃ a, o = some a ∧ P b (a, st) := by
  cases o with
  | some a => exact ⟨a, rfl, h⟩
  | none => exact h.elim
theorem fits_le {n : Nat} (h : fits n = true) : n ≤ sizeLine := Nat.le_trans (Nat.le_of_ble_eq_true h) (by decide)
theorem fits_lt {n : Nat} (h : fits (n + 1) = true) : n < sizeLine := Nat.lt_of_lt_of_le (Nat.lt_of_succ_le (Nat.le_of_ble_eq_true h)) (by decide)
local macro_rules | `(tactic| walk_at "pure") => `(tactic| first
  | exact pure_ret | exact pure_stuck | exact pure_mret | exact pure_mopt | exact pure_mnew | exact pure_mstuck | exact pure_setL)
section
variable {K : PySem.W.Frag} {α : List Addr} {H : Hp} {b : Nat} {st : Store}

/-! ### the operators -/
theorem PostV.newL {Q : VK} (R : Rel K α H st b) {xs : List D} {vs : List V} (r : RDs K α H xs vs) (h : PostV K α H Q b (.ref st.length, st ++ [.lst true xs])) : ∀ p, H p = none → Q (.ref p) (upd H p (.lst vs)) := fun p hp =>
  h (α ++ [p]) _ _ (ext_newA hp) (R.newL hp r) (.ref R.last)
theorem PostV.newT {Q : VK} (R : Rel K α H st b) {xs : List D} {vs : List V} (r : RDs K α H xs vs) (h : PostV K α H Q b (.tup xs, st)) : ∀ p, H p = none → Q (.ref p) (upd H p (.tup vs)) := fun p hp =>
  h α _ _ (ext_new hp) (R.newT hp) (.tup (.of upd_same) (r.ext (ext_new hp)))
theorem PostV.here {Q : VK} (R : Rel K α H st b) {d : D} {v : V} (r : RD K α H d v) (h : PostV K α H Q b (d, st)) : Q v H := h α H v (.refl _ _) R r
theorem PostV.setL {Q : VK} (R : Rel K α H st b) {n : Nat} {xs ys : List D} {vs : List V} {d : D} {v : V} {a : Addr} (hs : st[n]? = some (.lst true xs)) (ha : α[n]? = some a) (r : RDs K α H ys vs) (rd : RD K α H d v)
    (h : PostV K α H Q b (d, st.set n (.lst true ys))) : Q v (upd H a (.lst vs)) := by
  obtain ⟨us, h0, _⟩ := R.lstW hs ha
  exact h α _ v (ext_upd h0) (R.setL hs ha r) (rd.ext (ext_upd h0))
variable {X : Cx}
theorem OpR.imp {f : Value → Value → Sem Value} {r r' : R2} (h : OpR X f r) (i : ∀ x y H Q, r' x y H Q → r x y H Q) : OpR X f r' := fun pins s σ H x y u v Q I rx ry q => h pins s σ H x y u v Q I rx ry (i x y H Q q)
theorem lim_le : lim ≤ sizeLine := by decide
theorem op_bin {op : Operator} (h : op = .Add ∨ op = .Sub ∨ op = .Mult ∨ op = .FloorDiv ∨ op = .Mod ∨ op = .Pow) : OpR X (binaryOp op) (r2 X.K (binD op)) := by
  rcases h with rfl | rfl | rfl | rfl | rfl | rfl
  · refine OpR.imp (op_add.or (op_add_str.or (op_catA.or op_cat))) fun x y H Q h => ?_
    obtain ⟨α, st, b, d, e, R, rx, ry, XP, h⟩ := h
    cases rx <;> cases ry <;> first | exact h.elim | skip
    · exact .inl ⟨_, _, rfl, rfl, h α H _ (.refl _ _) R (.int _)⟩
    · obtain ⟨hc, h⟩ := tri_mif h
      exact .inr (.inl ⟨_, _, rfl, rfl, fits_le hc, h α H _ (.refl _ _) R (.str _)⟩)
    · rename_i xs vs a h1 r1 ys us c h2 r2
      obtain ⟨hc, h⟩ := tri_mif h
      refine .inr (.inr (.inl ⟨_, _, _, _, rfl, rfl, h1, h2, by rw [← r1.length, ← r2.length]; exact fits_le hc, fun e => ?_, fun _ e => ?_, fun _ _ p hp => ?_⟩))
      · have e' := r1.nil_iff.mpr e
        subst e'
        exact PostV.here R (.tup h2 r2) h
      · have e' := r2.nil_iff.mpr e
        subst e'
        refine PostV.here R (.tup h1 (ds := xs ++ []) ?_) h
        rw [List.append_nil]
        exact r1
      · exact PostV.newT R (r1.append r2) h p hp
    · rename_i n a h1 m c h2
      have h : Tri (match st[n]?, st[m]? with | some (.lst true xs), some (.lst true ys) => mif (fits (xs.length + ys.length)) (mnew (xs ++ ys)) st | _, _ => .stuck) b _ _ := h
      split at h
      · rename_i xs ys e1 e2
        obtain ⟨hc, h⟩ := tri_mif h
        obtain ⟨vs, q1, q2⟩ := R.lstW e1 h1
        obtain ⟨us, q3, q4⟩ := R.lstW e2 h2
        exact .inr (.inr (.inr ⟨_, _, _, _, rfl, rfl, q1, q3, by rw [← q2.length, ← q4.length]; exact fits_le hc, PostV.newL R (q2.append q4) h⟩))
      · exact h.elim
  · refine OpR.imp op_sub fun x y H Q h => ?_
    obtain ⟨α, st, b, d, e, R, rx, ry, XP, h⟩ := h
    cases rx <;> cases ry <;> first | exact h.elim | skip
    exact ⟨_, _, rfl, rfl, PostV.here R (.int _) h⟩
  · refine OpR.imp (op_mul.or op_rep) fun x y H Q h => ?_
    obtain ⟨α, st, b, d, e, R, rx, ry, XP, h⟩ := h
    cases rx <;> cases ry <;> first | exact h.elim | skip
    · obtain ⟨hc, h⟩ := tri_mif h
      refine .inl ⟨_, _, rfl, rfl, ?_, PostV.here R (.int _) h⟩
      rcases Bool.or_eq_true_iff.mp hc with q | q
      · obtain ⟨q1, q2⟩ := Bool.and_eq_true_iff.mp q
        exact .inl ⟨of_decide_eq_true q1, of_decide_eq_true q2⟩
      · obtain ⟨q1, q2⟩ := Bool.and_eq_true_iff.mp q
        exact .inr ⟨of_decide_eq_true q1, of_decide_eq_true q2⟩
    · rename_i n a h1 k
      have h : Tri (match st[n]? with | some (.lst true xs) => mif (decide (0 ≤ k) && decide (k < 100000) && fits (xs.length * k.toNat)) (mnew (List.replicate k.toNat xs).flatten) st | _ => .stuck) b _ _ := h
      split at h
      · rename_i xs e1
        obtain ⟨hc, h⟩ := tri_mif h
        obtain ⟨hc1, hc2⟩ := Bool.and_eq_true_iff.mp hc
        obtain ⟨hc3, hc4⟩ := Bool.and_eq_true_iff.mp hc1
        have c3 := of_decide_eq_true hc3
        have c4 := of_decide_eq_true hc4
        obtain ⟨vs, q1, q2⟩ := R.lstW e1 h1
        exact .inr ⟨_, _, _, rfl, rfl, q1, by omega, by omega, by rw [← q2.length]; exact fits_le hc2, PostV.newL R (q2.rep _) h⟩
      · exact h.elim
  · refine OpR.imp op_fdivN fun x y H Q h => ?_
    obtain ⟨α, st, b, d, e, R, rx, ry, XP, h⟩ := h
    cases rx <;> cases ry <;> first | exact h.elim | skip
    obtain ⟨hc, h⟩ := tri_mif h
    obtain ⟨q1, q2⟩ := Bool.and_eq_true_iff.mp hc
    exact ⟨_, _, rfl, rfl, ⟨of_decide_eq_true q1, of_decide_eq_true q2⟩, PostV.here R (.int _) h⟩
  · refine OpR.imp op_modN fun x y H Q h => ?_
    obtain ⟨α, st, b, d, e, R, rx, ry, XP, h⟩ := h
    cases rx <;> cases ry <;> first | exact h.elim | skip
    obtain ⟨hc, h⟩ := tri_mif h
    exact ⟨_, _, rfl, rfl, of_decide_eq_true hc, PostV.here R (.int _) h⟩
  · refine OpR.imp op_pow fun x y H Q h => ?_
    obtain ⟨α, st, b, d, e, R, rx, ry, XP, h⟩ := h
    cases rx <;> cases ry <;> first | exact h.elim | skip
    obtain ⟨hc, h⟩ := tri_mif h
    obtain ⟨q1, q2⟩ := Bool.and_eq_true_iff.mp hc
    obtain ⟨q3, q4⟩ := Bool.and_eq_true_iff.mp q1
    exact ⟨_, _, rfl, rfl, ⟨of_decide_eq_true q3, of_decide_eq_true q4, of_decide_eq_true q2⟩, PostV.here R (.int _) h⟩

/-! ### data, and comparisons -/
theorem pys_dp {f : D → Option PyData} (hf : ∀ d v p, RD K α H d v → f d = some p → Dp K H v p) : ∀ {ds : List D} {vs : List V} {ps : List PyData}, RDs K α H ds vs → pys f ds = some ps → DpAll K H vs ps
  | _, _, _, .nil, h => by
    cases h
    exact .nil
  | _, _, _, .cons (d := d) (ds := ds) r rs, h => by
    unfold pys at h
    split at h
    · rename_i p qs e1 e2
      cases h
      exact .cons (hf _ _ _ r e1) (pys_dp hf rs e2)
    · cases h
theorem py_dp (R : Rel K α H st b) : ∀ (n : Nat) (d : D) (v : V) (p : PyData), RD K α H d v → py n st d = some p → Dp K H v p
  | 0, _, _, _, _, h => by cases h
  | n + 1, _, _, _, .non, h => by
    cases h
    exact .non
  | n + 1, _, _, _, .bl b, h => by
    cases h
    exact .bl b
  | n + 1, _, _, _, .int i, h => by
    cases h
    exact .int i
  | n + 1, _, _, _, .str x, h => by
    unfold py at h
    split at h
    · cases h
      exact .str x
    · cases h
  | n + 1, _, _, _, .tup hq r, h => by
    unfold py at h
    split at h
    · rename_i ds e
      cases h
      exact .tup hq (pys_dp (fun d v p r e => py_dp R n d v p r e) r e)
    · cases h
  | n + 1, _, _, _, .ref (n := k) ha, h => by
    unfold py at h
    split at h
    · rename_i w xs e
      split at h
      · rename_i ds e2
        cases h
        obtain ⟨vs, q1, q2⟩ := R.lst e ha
        exact .lst q1 (pys_dp (fun d v p r e => py_dp R n d v p r e) q2 e2)
      · cases h
    · cases h
theorem pys_lay {f : D → Option PyData} {n : Nat} (hf : ∀ d p, f d = some p → p.canLay0 = true ∧ p.depth ≤ n) : ∀ {ds : List D} {ps : List PyData}, pys f ds = some ps → PyData.canLayAll0 ps = true ∧ PyData.depthAll ps ≤ n
  | [], _, h => by
    cases h
    exact ⟨rfl, Nat.zero_le _⟩
  | d :: ds, _, h => by
    unfold pys at h
    split at h
    · rename_i p qs e1 e2
      cases h
      obtain ⟨h1, h2⟩ := hf _ _ e1
      obtain ⟨h3, h4⟩ := pys_lay hf e2
      refine ⟨?_, ?_⟩
      · show (p.canLay0 && PyData.canLayAll0 qs) = true
        rw [h1, h3] <;> rfl
      · show max p.depth (PyData.depthAll qs) ≤ n
        omega
    · cases h
theorem py_lay : ∀ (n : Nat) (d : D) (p : PyData), py n st d = some p → p.canLay0 = true ∧ p.depth ≤ n
  | 0, _, _, h => by cases h
  | n + 1, .non, _, h => by
    cases h
    exact ⟨rfl, Nat.zero_le _⟩
  | n + 1, .bl _, _, h => by
    cases h
    exact ⟨rfl, Nat.zero_le _⟩
  | n + 1, .int _, _, h => by
    cases h
    exact ⟨rfl, Nat.zero_le _⟩
  | n + 1, .str x, _, h => by
    unfold py at h
    split at h
    · rename_i c
      cases h
      exact ⟨c, Nat.zero_le _⟩
    · cases h
  | n + 1, .tup xs, _, h => by
    unfold py at h
    split at h
    · rename_i ds e
      cases h
      obtain ⟨h1, h2⟩ := pys_lay (fun d p e => py_lay n d p e) e
      exact ⟨h1, Nat.succ_le_succ h2⟩
    · cases h
  | n + 1, .ref k, _, h => by
    unfold py at h
    split at h
    · rename_i w xs e
      split at h
      · rename_i ds e2
        cases h
        obtain ⟨h1, h2⟩ := pys_lay (fun d p e => py_lay n d p e) e2
        exact ⟨h1, Nat.succ_le_succ h2⟩
      · cases h
    · cases h
theorem py_shaped {d : D} {p : PyData} (h : py deep st d = some p) : SeqAt.shaped p = true := by
  obtain ⟨h1, h2⟩ := py_lay deep d p h
  unfold SeqAt.shaped
  rw [h1, decide_eq_true (Nat.le_trans h2 (by decide : deep ≤ 64))] <;> rfl
theorem RD.flat {d : D} {v : V} (r : RD K α H d v) (f : flatD d = true) : v = toV d ∧ flatV v = true := by
  cases r <;> first | exact ⟨rfl, rfl⟩ | cases f
theorem RDs.flat {ds : List D} {vs : List V} (r : RDs K α H ds vs) (f : ds.all flatD = true) : vs = ds.map toV ∧ vs.all flatV = true := by
  induction ds generalizing vs with
  | nil =>
    cases r
    exact ⟨rfl, rfl⟩
  | cons d ds ih =>
    cases r with
    | cons r rs =>
      rw [List.all_cons] at f
      obtain ⟨f1, f2⟩ := Bool.and_eq_true_iff.mp f
      obtain ⟨e1, g1⟩ := r.flat f1
      obtain ⟨e2, g2⟩ := ih rs f2
      exact ⟨by rw [e1, e2] <;> rfl, by rw [List.all_cons, g1, g2] <;> rfl⟩
theorem items_sq (R : Rel K α H st b) {d : D} {v : V} {xs : List D} (r : RD K α H d v) (h : itemsD st d = some xs) : ∃ a vs, v = .ref a ∧ (SqL K H a vs ∨ SqT K H a vs) ∧ RDs K α H xs vs := by
  cases r with
  | tup q rs =>
    cases h
    exact ⟨_, _, rfl, .inr q, rs⟩
  | ref ha =>
    rename_i n a
    have h : (match st[n]? with | some (.lst _ xs) => some xs | _ => none) = some xs := h
    split at h
    · rename_i w ys e
      cases h
      obtain ⟨vs, q1, q2⟩ := R.lst e ha
      exact ⟨_, vs, rfl, .inl q1, q2⟩
    · cases h
  | _ => cases h
def mB (m : M Bool) : M D := mbind m fun k => mret (.bl k)
theorem tri_mB {m : M Bool} {P : Nat → (D × Store) → Prop} {X' : Nat → Ex → Store → Prop} : Tri (mB m st) b P X' ↔ Tri (m st) b (fun b' p => P b' (.bl p.1, p.2)) X' := tri_bind
theorem inV_of {x : D} {xs : List D} : inV (toV x) (xs.map toV) = inD x xs := by
  unfold inV inD
  rw [List.any_map]
  rfl
theorem op_cmp {op : CmpOp} (hu : X.A.units + 64 < cLine) : OpR X (compareOp op) (r2 X.K fun x y => mB (cmpD op x y)) := by
  cases op with
  | Eq =>
    refine OpR.imp (op_eqD hu) fun x y H Q h => ?_
    obtain ⟨α, st, b, d, e, R, rx, ry, XP, h⟩ := h
    obtain ⟨k, h1, h2⟩ := tri_mopt (tri_mB.mp h)
    unfold eqD at h1
    split at h1
    · rename_i p q e1 e2
      cases h1
      exact ⟨p, q, py_dp R _ _ _ _ rx e1, py_dp R _ _ _ _ ry e2, py_shaped e1, py_shaped e2, PostV.here R (.bl _) h2⟩
    · cases h1
  | NotEq =>
    refine OpR.imp (op_neD hu) fun x y H Q h => ?_
    obtain ⟨α, st, b, d, e, R, rx, ry, XP, h⟩ := h
    obtain ⟨k, h1, h2⟩ := tri_mopt (tri_mB.mp h)
    unfold eqD at h1
    split at h1
    · rename_i p q e1 e2
      cases h1
      exact ⟨p, q, py_dp R _ _ _ _ rx e1, py_dp R _ _ _ _ ry e2, py_shaped e1, py_shaped e2, PostV.here R (.bl _) h2⟩
    · cases h1
  | Lt =>
    refine OpR.imp op_lt fun x y H Q h => ?_
    obtain ⟨α, st, b, d, e, R, rx, ry, XP, h⟩ := h
    cases rx <;> cases ry <;> first | exact h.elim | skip
    exact ⟨_, _, rfl, rfl, PostV.here R (.bl _) (tri_mB.mp h)⟩
  | LtE =>
    refine OpR.imp op_le fun x y H Q h => ?_
    obtain ⟨α, st, b, d, e, R, rx, ry, XP, h⟩ := h
    cases rx <;> cases ry <;> first | exact h.elim | skip
    exact ⟨_, _, rfl, rfl, PostV.here R (.bl _) (tri_mB.mp h)⟩
  | Gt =>
    refine OpR.imp op_gt fun x y H Q h => ?_
    obtain ⟨α, st, b, d, e, R, rx, ry, XP, h⟩ := h
    cases rx <;> cases ry <;> first | exact h.elim | skip
    exact ⟨_, _, rfl, rfl, PostV.here R (.bl _) (tri_mB.mp h)⟩
  | GtE =>
    refine OpR.imp op_ge fun x y H Q h => ?_
    obtain ⟨α, st, b, d, e, R, rx, ry, XP, h⟩ := h
    cases rx <;> cases ry <;> first | exact h.elim | skip
    exact ⟨_, _, rfl, rfl, PostV.here R (.bl _) (tri_mB.mp h)⟩
  | Is =>
    refine OpR.imp op_isN fun x y H Q h => ?_
    obtain ⟨α, st, b, d, e, R, rx, ry, XP, h⟩ := h
    cases ry <;> first | exact h.elim | skip
    refine ⟨rfl, PostV.here R ?_ (tri_mB.mp h)⟩
    cases rx <;> exact .bl _
  | IsNot =>
    refine OpR.imp op_notN fun x y H Q h => ?_
    obtain ⟨α, st, b, d, e, R, rx, ry, XP, h⟩ := h
    cases ry <;> first | exact h.elim | skip
    refine ⟨rfl, PostV.here R ?_ (tri_mB.mp h)⟩
    cases rx <;> exact .bl _
  | In =>
    refine OpR.imp op_in_seq fun x y H Q h => ?_
    obtain ⟨α, st, b, d, e, R, rx, ry, XP, h⟩ := h
    have h := tri_mB.mp h
    have h : Tri (match itemsD st e with | some xs => mif (flatD d && xs.all flatD) (mret (inD d xs)) st | none => .stuck) b _ _ := h
    split at h
    · rename_i xs e1
      obtain ⟨hc, h⟩ := tri_mif h
      obtain ⟨c1, c2⟩ := Bool.and_eq_true_iff.mp hc
      obtain ⟨a, vs, rfl, q, rs⟩ := items_sq R ry e1
      obtain ⟨rfl, f1⟩ := rx.flat c1
      obtain ⟨rfl, f2⟩ := rs.flat c2
      refine ⟨a, _, rfl, q, f1, f2, ?_⟩
      rw [if_neg Bool.false_ne_true, inV_of]
      exact PostV.here R (.bl _) h
    · exact h.elim
  | NotIn =>
    refine OpR.imp op_notIn_seq fun x y H Q h => ?_
    obtain ⟨α, st, b, d, e, R, rx, ry, XP, h⟩ := h
    have h := tri_mB.mp h
    have h : Tri (match itemsD st e with | some xs => mif (flatD d && xs.all flatD) (mret (!inD d xs)) st | none => .stuck) b _ _ := h
    split at h
    · rename_i xs e1
      obtain ⟨hc, h⟩ := tri_mif h
      obtain ⟨c1, c2⟩ := Bool.and_eq_true_iff.mp hc
      obtain ⟨a, vs, rfl, q, rs⟩ := items_sq R ry e1
      obtain ⟨rfl, f1⟩ := rx.flat c1
      obtain ⟨rfl, f2⟩ := rs.flat c2
      refine ⟨a, _, rfl, q, f1, f2, ?_⟩
      rw [if_pos rfl, inV_of]
      exact PostV.here R (.bl _) h
    · exact h.elim
end
end DI
end
section
namespace DI
open PySem L2
section
variable {K : PySem.W.Frag} {α : List Addr} {H : Hp} {b : Nat} {st : Store} {X : Cx}
theorem truth_ok (R : Rel K α H st b) {d : D} {v : V} (r : RD K α H d v) {Q : Bool → Hp → Prop} {P : Nat → Ex → Store → Prop} (h : Tri (truthD d st) b (PostC K α H Q) P) : ∃ k, TruV K v H k ∧ Q k H := by
  cases r with
  | non => exact ⟨false, rfl, h α H (.refl _ _) R⟩
  | bl k => exact ⟨k, rfl, h α H (.refl _ _) R⟩
  | int i => exact ⟨_, rfl, h α H (.refl _ _) R⟩
  | str x =>
    obtain ⟨hc, h⟩ := tri_mif h
    exact ⟨_, ⟨fits_le hc, rfl⟩, h α H (.refl _ _) R⟩
  | tup q rs => exact ⟨_, .inr (.inl ⟨_, q, by rw [← rs.isEmpty]⟩), h α H (.refl _ _) R⟩
  | ref ha =>
    rename_i n a
    have h : Tri (match st[n]? with | some (.lst _ xs) => .ret (!xs.isEmpty, st) | _ => .stuck) b _ _ := h
    split at h
    · rename_i w xs e
      obtain ⟨vs, q1, q2⟩ := R.lst e ha
      exact ⟨_, .inl ⟨_, q1, by rw [← q2.isEmpty]⟩, h α H (.refl _ _) R⟩
    · exact h.elim
theorem atI_of {ds : List D} {vs : List V} {i : Int} {d : D} (r : RDs K α H ds vs) (h : atI ds i = some d) : ∃ v, atI vs i = some v ∧ RD K α H d v := by
  unfold atI at h ⊢
  rw [← r.length]
  cases e : ixN ds.length i with
  | none =>
    rw [e] at h
    cases h
  | some j =>
    rw [e] at h
    exact r.get h
theorem IxR.imp {r r' : R2} (h : IxR X r) (i : ∀ x y H Q, r' x y H Q → r x y H Q) : IxR X r' := fun a b pins s σ H x y u v Q I rx ry q => h a b pins s σ H x y u v Q I rx ry (i x y H Q q)
theorem ix_ok : IxR X (r2 X.K ixD) := by
  refine IxR.imp ix_seq fun x y H Q h => ?_
  obtain ⟨α, st, b, d, e, R, rx, ry, XP, h⟩ := h
  cases ry with
  | int k =>
    have other : ∀ xs : List D, itemsD st d = some xs → Tri (mopt (atI xs k) st) b (PostV X.K α H Q) XP → rIx X.K x (.int k) H Q := by
      intro xs e1 h
      obtain ⟨y, e2, h⟩ := tri_mopt h
      obtain ⟨a, vs, rfl, q, rs⟩ := items_sq R rx e1
      obtain ⟨v, e3, rd⟩ := atI_of rs e2
      rcases q with q | q
      · exact .inl ⟨a, vs, k, v, rfl, rfl, q, e3, PostV.here R rd h⟩
      · exact .inr (.inl ⟨a, vs, k, v, rfl, rfl, q, e3, PostV.here R rd h⟩)
    cases rx with
    | str z =>
      obtain ⟨hc, h⟩ := tri_mif h
      obtain ⟨y, e2, h⟩ := tri_mopt h
      cases e3 : atI z.cps.toList k with
      | none =>
        rw [e3] at e2
        cases e2
      | some c =>
        rw [e3] at e2
        cases e2
        exact .inr (.inr ⟨z, k, c, rfl, rfl, fits_le hc, e3, PostV.here R (.str _) h⟩)
    | tup q rs => exact other _ rfl h
    | ref ha =>
      rename_i n a
      have h : Tri (match itemsD st (.ref n) with | some xs => mopt (atI xs k) st | none => .stuck) b _ _ := h
      split at h
      · rename_i xs e1
        exact other xs e1 h
      · exact h.elim
    | _ => exact h.elim
  | _ => cases rx <;> exact h.elim
def rSl (K : PySem.W.Frag) : V → Option Int → Option Int → Hp → VK → Prop := fun x lo hi H Q => ∃ α st b d, Rel K α H st b ∧ RD K α H d x ∧ ∃ XP, Tri (sliceD d lo hi st) b (PostV K α H Q) XP
theorem cut_of {ds : List D} {vs : List V} {lo hi : Option Int} (r : RDs K α H ds vs) : RDs K α H (cutD ds lo hi) (cutV vs lo hi) := by
  unfold cutD cutV
  rw [r.length]
  exact (r.drop _).take _
theorem SlR.imp {r r' : V → Option Int → Option Int → Hp → VK → Prop} (h : SlR X r) (i : ∀ x lo hi H Q, r' x lo hi H Q → r x lo hi H Q) : SlR X r' :=
  fun pins s σ H x v vl vu lo hi sl Q I rx p1 p2 p3 q => h pins s σ H x v vl vu lo hi sl Q I rx p1 p2 p3 (i _ _ _ _ _ q)
theorem sl_ok : SlR X (rSl X.K) := by
  refine SlR.imp (sl_list.or (sl_tupA.or sl_str)) fun x lo hi H Q h => ?_
  obtain ⟨α, st, b, d, R, rx, XP, h⟩ := h
  cases rx with
  | tup q rs =>
    refine .inr (.inl ⟨_, _, rfl, q, fun hw => ?_, fun _ p hp => PostV.newT R (cut_of rs) h p hp⟩)
    refine PostV.here R (.tup q (ds := cutD _ lo hi) ?_) h
    unfold cutD
    rw [rs.length, hw.1, hw.2, List.drop_zero, Nat.sub_zero, ← rs.length, List.take_length]
    exact rs
  | ref ha =>
    rename_i n a
    have h : Tri (match st[n]? with | some (.lst _ xs) => mnew (cutD xs lo hi) st | _ => .stuck) b _ _ := h
    split at h
    · rename_i w xs e
      obtain ⟨vs, q1, q2⟩ := R.lst e ha
      exact .inl ⟨a, vs, rfl, q1, PostV.newL R (cut_of q2) h⟩
    · exact h.elim
  | str z =>
    obtain ⟨hc, h⟩ := tri_mif h
    exact .inr (.inr ⟨z, rfl, fits_le hc, PostV.here R (.str _) h⟩)
  | _ => exact h.elim

/-! ### built-in functions -/
theorem CallR.imp {f : Value} {r r' : List V → Hp → VK → Prop} (h : CallR X f r) (i : ∀ xs H Q, r' xs H Q → r xs H Q) : CallR X f r' := fun pins s σ H xs us Q I rx q => h pins s σ H xs us Q I rx (i xs H Q q)
abbrev rB (K : PySem.W.Frag) (f : Blt) : List V → Hp → VK → Prop := rl K (bltD f)
theorem call_len_ok : CallR X (.builtin "len") (rB X.K .len) := by
  refine CallR.imp (call_len_seq.or call_len_str) fun xs H Q h => ?_
  obtain ⟨α, st, b, ds, R, rs, XP, h⟩ := h
  cases rs with
  | nil => exact h.elim
  | cons rx rs =>
    cases rs with
    | cons _ _ => exact h.elim
    | nil =>
      rename_i d x
      have other : ∀ ys : List D, itemsD st d = some ys → Tri (T.ret (D.int ys.length, st)) b (PostV X.K α H Q) XP → ∃ p us, [x] = [V.ref p] ∧ (SqL X.K H p us ∨ SqT X.K H p us) ∧ Q (.int us.length) H := by
        intro ys e1 h
        obtain ⟨a, vs, rfl, q, r2⟩ := items_sq R rx e1
        refine ⟨a, vs, rfl, q, ?_⟩
        rw [← r2.length]
        exact PostV.here R (.int _) h
      cases rx with
      | str z =>
        obtain ⟨hc, h⟩ := tri_mif h
        exact .inr ⟨z, rfl, fits_le hc, PostV.here R (.int _) h⟩
      | tup q rs => exact .inl (other _ rfl h)
      | ref ha =>
        rename_i n a
        have h : Tri (match itemsD st (.ref n) with | some xs => T.ret (D.int xs.length, st) | none => .stuck) b _ _ := h
        split at h
        · rename_i xs e1
          exact .inl (other xs e1 h)
        · exact h.elim
      | _ => exact h.elim
theorem call_list_ok : CallR X (.type "list") (rB X.K .list) := by
  refine CallR.imp call_list_of fun xs H Q h => ?_
  obtain ⟨α, st, b, ds, R, rs, XP, h⟩ := h
  cases rs with
  | nil => exact h.elim
  | cons rx rs =>
    cases rs with
    | cons _ _ => exact h.elim
    | nil =>
      rename_i d x
      have h : Tri (match itemsD st d with | some xs => mnew xs st | none => .stuck) b _ _ := h
      split at h
      · rename_i ys e1
        obtain ⟨a, vs, rfl, q, r2⟩ := items_sq R rx e1
        exact ⟨a, vs, rfl, q, PostV.newL R r2 h⟩
      · exact h.elim
theorem call_tuple_ok : CallR X (.type "tuple") (rB X.K .tuple) := by
  refine CallR.imp call_tuple_of fun xs H Q h => ?_
  obtain ⟨α, st, b, ds, R, rs, XP, h⟩ := h
  cases rs with
  | nil => exact h.elim
  | cons rx rs =>
    cases rs with
    | cons _ _ => exact h.elim
    | nil =>
      rename_i d x
      have h : Tri (match itemsD st d with | some xs => T.ret (D.tup xs, st) | none => .stuck) b _ _ := h
      split at h
      · rename_i ys e1
        obtain ⟨a, vs, rfl, q, r2⟩ := items_sq R rx e1
        rcases q with q | q
        · exact ⟨a, vs, rfl, .inl ⟨q, PostV.newT R r2 h⟩⟩
        · exact ⟨a, vs, rfl, .inr ⟨q, PostV.here R (.tup q r2) h⟩⟩
      · exact h.elim
theorem bls_of : ∀ {xs : List D} {bs : List Bool} {vs : List V}, blsD xs = some bs → RDs K α H xs vs → vs = bs.map V.bl
  | [], _, _, h, r => by
    cases h
    cases r
    rfl
  | x :: xs, _, _, h, r => by
    cases r with
    | cons r rs =>
      cases r with
      | bl k =>
        have h : (blsD xs).map (k :: ·) = some _ := h
        cases e : blsD xs with
        | none =>
          rw [e] at h
          cases h
        | some bs =>
          rw [e] at h
          cases h
          rw [bls_of e rs]
          rfl
      | _ => cases h
theorem ints_of : ∀ {xs : List D} {bs : List Int} {vs : List V}, intsD xs = some bs → RDs K α H xs vs → vs = bs.map V.int
  | [], _, _, h, r => by
    cases h
    cases r
    rfl
  | x :: xs, _, _, h, r => by
    cases r with
    | cons r rs =>
      cases r with
      | int k =>
        have h : (intsD xs).map (k :: ·) = some _ := h
        cases e : intsD xs with
        | none =>
          rw [e] at h
          cases h
        | some bs =>
          rw [e] at h
          cases h
          rw [ints_of e rs]
          rfl
      | _ => cases h
theorem ints_back : ∀ ns : List Int, RDs K α H (ns.map D.int) (ns.map V.int)
  | [] => .nil
  | n :: ns => .cons (.int n) (ints_back ns)
theorem call_all_ok (hc : X.calm = true) : CallR X (.builtin "all") (rB X.K .all) := by
  refine CallR.imp (cr_all hc) fun xs H Q h => ?_
  obtain ⟨α, st, b, ds, R, rs, XP, h⟩ := h
  cases rs with
  | nil => exact h.elim
  | cons rx rs =>
    cases rs with
    | cons _ _ => cases rx <;> exact h.elim
    | nil =>
      cases rx with
      | ref ha =>
        rename_i n a
        have h : Tri (match st[n]? with | some (.lst _ xs) => (match blsD xs with | some bs => T.ret (D.bl (bs.all id), st) | none => .stuck) | _ => .stuck) b _ _ := h
        split at h
        · rename_i w xs e
          split at h
          · rename_i bs e2
            obtain ⟨vs, q1, q2⟩ := R.lst e ha
            have e3 := bls_of e2 q2
            subst e3
            exact ⟨a, bs, rfl, q1, PostV.here R (.bl _) h⟩
          · exact h.elim
        · exact h.elim
      | _ => exact h.elim
theorem call_any_ok (hc : X.calm = true) : CallR X (.builtin "any") (rB X.K .any) := by
  refine CallR.imp (cr_any hc) fun xs H Q h => ?_
  obtain ⟨α, st, b, ds, R, rs, XP, h⟩ := h
  cases rs with
  | nil => exact h.elim
  | cons rx rs =>
    cases rs with
    | cons _ _ => cases rx <;> exact h.elim
    | nil =>
      cases rx with
      | ref ha =>
        rename_i n a
        have h : Tri (match st[n]? with | some (.lst _ xs) => (match blsD xs with | some bs => T.ret (D.bl (bs.any id), st) | none => .stuck) | _ => .stuck) b _ _ := h
        split at h
        · rename_i w xs e
          split at h
          · rename_i bs e2
            obtain ⟨vs, q1, q2⟩ := R.lst e ha
            have e3 := bls_of e2 q2
            subst e3
            exact ⟨a, bs, rfl, q1, PostV.here R (.bl _) h⟩
          · exact h.elim
        · exact h.elim
      | _ => exact h.elim
theorem call_abs_ok : CallR X (.builtin "abs") (rB X.K .abs) := by
  refine CallR.imp call_abs fun xs H Q h => ?_
  obtain ⟨α, st, b, ds, R, rs, XP, h⟩ := h
  cases rs with
  | nil => exact h.elim
  | cons rx rs =>
    cases rs with
    | cons _ _ => cases rx <;> exact h.elim
    | nil =>
      cases rx with
      | int i => exact ⟨i, rfl, PostV.here R (.int _) h⟩
      | _ => exact h.elim
theorem call_int_ok : CallR X (.type "int") (rB X.K .int) := by
  refine CallR.imp call_int1 fun xs H Q h => ?_
  obtain ⟨α, st, b, ds, R, rs, XP, h⟩ := h
  cases rs with
  | nil => exact h.elim
  | cons rx rs =>
    cases rs with
    | cons _ _ => cases rx <;> exact h.elim
    | nil =>
      cases rx with
      | int i => exact .inl ⟨i, rfl, PostV.here R (.int _) h⟩
      | bl i => exact .inr ⟨i, rfl, PostV.here R (.int _) h⟩
      | _ => exact h.elim
theorem call_str_ok : CallR X (.type "str") (rB X.K .str) := by
  refine CallR.imp call_str_int fun xs H Q h => ?_
  obtain ⟨α, st, b, ds, R, rs, XP, h⟩ := h
  cases rs with
  | nil => exact h.elim
  | cons rx rs =>
    cases rs with
    | cons _ _ => cases rx <;> exact h.elim
    | nil =>
      cases rx with
      | int i =>
        obtain ⟨hc, h⟩ := tri_mif h
        exact ⟨i, rfl, of_decide_eq_true hc, PostV.here R (.str _) h⟩
      | _ => exact h.elim
theorem two_int {f : Int → Int → D} {g : Int → Int → V} (hfg : ∀ i j α H, RD K α H (f i j) (g i j)) {c : Int → Int → Bool} {xs : List V} {H : Hp} {Q : VK} {m : List D → M D}
    (hm : ∀ ds st b P XP, Tri (m ds st) b P XP → ∃ i j, ds = [D.int i, D.int j] ∧ c i j = true ∧ P b (f i j, st)) (h : rl K m xs H Q) : ∃ i j, xs = [.int i, .int j] ∧ c i j = true ∧ Q (g i j) H := by
  obtain ⟨α, st, b, ds, R, rs, XP, h⟩ := h
  obtain ⟨i, j, rfl, c, h⟩ := hm ds st b _ _ h
  cases rs with
  | cons r1 rs =>
    cases rs with
    | cons r2 rs =>
      cases rs
      cases r1
      cases r2
      exact ⟨i, j, rfl, c, PostV.here R (hfg i j α H) h⟩
theorem blt2 {f : Blt} {h2 : Int → Int → D} {c : Int → Int → Bool} (e1 : ∀ i j st, bltD f [.int i, .int j] st = mif (c i j) (mret (h2 i j)) st) (e2 : ∀ ds st, (∀ i j, ds ≠ [D.int i, D.int j]) → bltD f ds st = .stuck) :
    ∀ ds st b (P : Nat → (D × Store) → Prop) (XP : Nat → Ex → Store → Prop), Tri (bltD f ds st) b P XP → ∃ i j, ds = [D.int i, D.int j] ∧ c i j = true ∧ P b (h2 i j, st) := by
  intro ds st b P XP h
  by_cases q : ∃ i j, ds = [D.int i, D.int j]
  · obtain ⟨i, j, rfl⟩ := q
    rw [e1] at h
    obtain ⟨c, h⟩ := tri_mif h
    exact ⟨i, j, rfl, c, h⟩
  · rw [e2 ds st fun i j e => q ⟨i, j, e⟩] at h
    exact h.elim
theorem call_min_ok (hc : X.calm = true) : CallR X (.builtin "min") (rB X.K .min2) := by
  refine CallR.imp (call_min2 hc) fun xs H Q h => ?_
  obtain ⟨i, j, e, _, q⟩ := two_int (f := fun i j => .int (if j < i then j else i)) (g := fun i j => .int (if j < i then j else i)) (c := fun _ _ => true) (fun _ _ _ _ => .int _) (blt2 (fun _ _ _ => rfl) fun ds st q => (by
    unfold bltD
    split <;> first | rfl | exact absurd rfl (q _ _) | (rename_i h1 _; cases h1; done) | (rename_i h1; cases h1; done))) h
  · exact ⟨i, j, e, q⟩
theorem call_max_ok (hc : X.calm = true) : CallR X (.builtin "max") (rB X.K .max2) := by
  refine CallR.imp (call_max2 hc) fun xs H Q h => ?_
  obtain ⟨i, j, e, _, q⟩ := two_int (f := fun i j => .int (if j > i then j else i)) (g := fun i j => .int (if j > i then j else i)) (c := fun _ _ => true) (fun _ _ _ _ => .int _) (blt2 (fun _ _ _ => rfl) fun ds st q => (by
    unfold bltD
    split <;> first | rfl | exact absurd rfl (q _ _) | (rename_i h1 _; cases h1; done) | (rename_i h1; cases h1; done))) h
  · exact ⟨i, j, e, q⟩
theorem call_lcm_ok : CallR X (.builtin "math.lcm") (rB X.K .lcm) := by
  intro pins s σ H vs us Q I r h
  obtain ⟨i, j, e, hc, q⟩ := two_int (f := fun i j => .int (Nat.lcm i.natAbs j.natAbs : Nat)) (g := fun i j => .int (Nat.lcm i.natAbs j.natAbs : Nat)) (c := fun i j => decide (i.natAbs < 2 ^ 64) && decide (j.natAbs < 2 ^ 64)) (fun _ _ _ _ => .int _)
    (blt2 (fun _ _ _ => rfl) fun ds st q => (by
    unfold bltD
    split <;> first | rfl | exact absurd rfl (q _ _) | (rename_i h1 _; cases h1; done) | (rename_i h1; cases h1; done))) h
  · subst e
    obtain ⟨t, u, rfl⟩ := Vals.int2 r
    obtain ⟨c1, c2⟩ := Bool.and_eq_true_iff.mp hc
    exact PySem.W.mc_lcm (of_decide_eq_true c1) (of_decide_eq_true c2) fun _ => ⟨.int _, H, I.tok _, ⟨_, rfl⟩, q⟩
theorem one_of {u : List Value} {v : V} (r : Vals [v] u) : ∃ w, u = [w] ∧ RelV v w := Vals.one r
theorem call_repr_ok (hg : X.A.guards = some []) (hu : X.A.units + 64 < cLine) : CallR X (.builtin "repr") (rB X.K .repr) := by
  intro pins s σ H vs us Q I r h
  obtain ⟨α, st, b, ds, R, rs, XP, h⟩ := h
  cases rs with
  | nil => exact h.elim
  | cons rx rs =>
    cases rs with
    | cons _ _ => exact h.elim
    | nil =>
      rename_i d x
      have h : Tri (match py deep st d with | some d => mif (d.showable && fits d.shown.length) (mret (D.str d.shown)) st | none => .stuck) b _ _ := h
      split at h
      · rename_i p e1
        obtain ⟨hc, h⟩ := tri_mif h
        obtain ⟨c1, c2⟩ := Bool.and_eq_true_iff.mp hc
        obtain ⟨u, rfl, ru⟩ := Vals.one r
        have dp := py_dp R _ _ _ _ rx e1
        obtain ⟨lay, dep⟩ := py_lay deep d p e1
        have q : Q (.str p.shown) H := PostV.here R (.str _) h
        have hnd := PyData.hasDict_of_canLay p lay
        cases dp with
        | non =>
          cases ru
          exact P.repr_of_none ⟨.str _, H, I.tok _, ⟨_, rfl⟩, q⟩
        | bl k =>
          cases ru
          exact P.repr_of_bool ⟨.str _, H, I.tok _, ⟨_, rfl⟩, q⟩
        | int i =>
          obtain ⟨t, rfl⟩ := ru
          exact P.repr_of_int (of_decide_eq_true c1) ⟨.str _, H, I.tok _, ⟨_, rfl⟩, q⟩
        | str z =>
          obtain ⟨t, rfl⟩ := ru
          exact P.repr_of_str ⟨.str _, H, I.tok _, ⟨_, rfl⟩, q⟩ (fits_le c2)
        | lst h1 h2 =>
          cases ru
          obtain ⟨as, rr⟩ := Dp.reads I _ _ _ (.lst h1 h2) rfl
          exact repr_of_reads' rr c1 (fun z => by rw [hnd] at z; cases z) hg (by have : (deep : Nat) = 24 := rfl; omega) (fun _ _ e => e) (fun h' u tk hk => ⟨.str _, H, I.kept hk, ⟨_, rfl⟩, q⟩) (fits_le c2)
        | tup h1 h2 =>
          cases ru
          obtain ⟨as, rr⟩ := Dp.reads I _ _ _ (.tup h1 h2) rfl
          exact repr_of_reads' rr c1 (fun z => by rw [hnd] at z; cases z) hg (by have : (deep : Nat) = 24 := rfl; omega) (fun _ _ e => e) (fun h' u tk hk => ⟨.str _, H, I.kept hk, ⟨_, rfl⟩, q⟩) (fits_le c2)
      · exact h.elim

/-! ### methods -/
theorem MtR.imp {id : String} {r r' : V → List V → Hp → VK → Prop} (h : MtR X id r) (i : ∀ x xs H Q, r' x xs H Q → r x xs H Q) : MtR X id r' := fun pins s σ H x xs u us Q I rx ry q => h pins s σ H x xs u us Q I rx ry (i x xs H Q q)
abbrev rMt (K : PySem.W.Frag) (m : Mth) : V → List V → Hp → VK → Prop := rm K (methD m)
theorem mt_append_ok : MtR X "list.append" (rMt X.K .append) := by
  refine MtR.imp mt_append fun x xs H Q h => ?_
  obtain ⟨α, st, b, d, ds, R, rx, rs, XP, h⟩ := h
  cases rx with
  | ref ha =>
    cases rs with
    | nil => exact h.elim
    | cons r1 rs =>
      cases rs with
      | cons _ _ => exact h.elim
      | nil =>
        rename_i n a y v
        have h : Tri (match st[n]? with | some (.lst true xs) => mif (fits (xs.length + 1)) (setL n (xs ++ [y]) .non) st | _ => .stuck) b _ _ := h
        split at h
        · rename_i ys e
          obtain ⟨hc, h⟩ := tri_mif h
          obtain ⟨vs, q1, q2⟩ := R.lstW e ha
          exact ⟨a, vs, v, rfl, rfl, q1, by rw [← q2.length]; exact fits_lt hc, PostV.setL R e ha (q2.append (.cons r1 .nil)) .non h⟩
        · exact h.elim
  | _ => exact h.elim
theorem mt_insert_ok : MtR X "list.insert" (rMt X.K .insert) := by
  refine MtR.imp mt_insert fun x xs H Q h => ?_
  obtain ⟨α, st, b, d, ds, R, rx, rs, XP, h⟩ := h
  cases rx with
  | ref ha =>
    cases rs with
    | nil => exact h.elim
    | cons r1 rs =>
      cases rs with
      | nil => cases r1 <;> exact h.elim
      | cons r2 rs =>
        cases rs with
        | cons _ _ => cases r1 <;> exact h.elim
        | nil =>
          cases r1 with
          | int i =>
            rename_i n a y v
            have h : Tri (match st[n]? with | some (.lst true xs) => mif (fits (xs.length + 1) && decide (0 ≤ i) && decide (i < 2 ^ 62)) (setL n (xs.take i.toNat ++ [y] ++ xs.drop i.toNat) .non) st | _ => .stuck) b _ _ := h
            split at h
            · rename_i ys e
              obtain ⟨hc, h⟩ := tri_mif h
              obtain ⟨hc1, hc2⟩ := Bool.and_eq_true_iff.mp hc
              obtain ⟨hc3, hc4⟩ := Bool.and_eq_true_iff.mp hc1
              have c2 := of_decide_eq_true hc2
              have c4 := of_decide_eq_true hc4
              obtain ⟨vs, q1, q2⟩ := R.lstW e ha
              exact ⟨a, vs, i, v, rfl, rfl, q1, by rw [← q2.length]; exact fits_lt hc3, c4, by omega, PostV.setL R e ha (((q2.take _).append (.cons r2 .nil)).append (q2.drop _)) .non h⟩
            · exact h.elim
          | _ => exact h.elim
  | _ => exact h.elim
theorem mt_pop_ok : MtR X "list.pop" (rMt X.K .pop) := by
  refine MtR.imp mt_pop fun x xs H Q h => ?_
  obtain ⟨α, st, b, d, ds, R, rx, rs, XP, h⟩ := h
  cases rx with
  | ref ha =>
    cases rs with
    | cons _ _ => exact h.elim
    | nil =>
      rename_i n a
      have h : Tri (match st[n]? with | some (.lst true xs) => (match xs[xs.length - 1]? with | some y => setL n xs.dropLast y st | none => .stuck) | _ => .stuck) b _ _ := h
      split at h
      · rename_i ys e
        split at h
        · rename_i y e2
          obtain ⟨vs, q1, q2⟩ := R.lstW e ha
          obtain ⟨v, e3, rv⟩ := q2.get e2
          exact ⟨a, vs, v, rfl, rfl, q1, by rw [← q2.length]; exact e3, PostV.setL R e ha q2.dropLast rv h⟩
        · exact h.elim
      · exact h.elim
  | _ => exact h.elim
theorem seqIx {i : Int} {n k : Nat} (h0 : 0 ≤ i) (h : i.toNat < n) (e : i.toNat = k) : seqIndex? i n = some k := by
  have q : ixN n i = some k := by
    unfold ixN
    rw [if_pos h0, if_pos (by omega), e]
  exact (ixN_seq q).1
theorem mt_popAt_ok : MtR X "list.pop" (rMt X.K .popAt) := by
  refine MtR.imp mt_popAt fun x xs H Q h => ?_
  obtain ⟨α, st, b, d, ds, R, rx, rs, XP, h⟩ := h
  cases rx with
  | ref ha =>
    cases rs with
    | nil => exact h.elim
    | cons r1 rs =>
      cases rs with
      | cons _ _ => cases r1 <;> exact h.elim
      | nil =>
        cases r1 with
        | int i =>
          rename_i n a
          have h : Tri (match st[n]? with | some (.lst true xs) => (match xs[i.toNat]? with | some y => mif (decide (0 ≤ i) && decide (i < 2 ^ 62)) (setL n (xs.eraseIdx i.toNat) y) st | none => .stuck) | _ => .stuck) b _ _ := h
          split at h
          · rename_i ys e
            split at h
            · rename_i y e2
              obtain ⟨hc, h⟩ := tri_mif h
              obtain ⟨hc1, hc2⟩ := Bool.and_eq_true_iff.mp hc
              have c := of_decide_eq_true hc1
              have c2 := of_decide_eq_true hc2
              obtain ⟨vs, q1, q2⟩ := R.lstW e ha
              obtain ⟨v, e3, rv⟩ := q2.get e2
              have hl := (List.getElem?_eq_some_iff.mp e3).1
              exact ⟨a, vs, i, i.toNat, v, rfl, rfl, q1, by omega, by omega, seqIx c hl rfl, e3, PostV.setL R e ha (q2.eraseIdx _) rv h⟩
            · exact h.elim
          · exact h.elim
        | _ => exact h.elim
  | _ => exact h.elim
theorem mt_upper_ok : MtR X "str.upper" (rMt X.K .upper) := by
  refine MtR.imp mt_upper fun x xs H Q h => ?_
  obtain ⟨α, st, b, d, ds, R, rx, rs, XP, h⟩ := h
  cases rx with
  | str z =>
    cases rs with
    | cons _ _ => exact h.elim
    | nil =>
      obtain ⟨hc, h⟩ := tri_mif h
      exact ⟨z, rfl, rfl, Nat.le_trans (Nat.le_of_ble_eq_true hc) (by decide), PostV.here R (.str _) h⟩
  | _ => exact h.elim
end
end DI
end
section
namespace DI
open PySem L2 PySem.Spec
open PyProof.Rows hiding St

/-! ### a def's promise, where no repr is under way -/
structure FnG (P : Program) (w : World) (K : PySem.W.Frag) (mg : Str → Option Value) (base : Heap) (k : Nat) (f : Addr) (fd : FuncData) (ps : List Str) (sp : Sp) : Prop where
  len : ∀ vs H Q E, sp vs H Q E → vs.length = ps.length
  run : ∀ (A : Around) (outer : List Env) (s : Shared) (H : Hp) (args : Args) (us : List Value) (vs : List V) (Q : VK) (E : XK),
    Room k A → A.guards = some [] → Env0 P w K mg base A outer s H → BindsTo s fd args (ps.zip us) → Vals vs us → sp vs H Q E →
    codeAny (model P w) A (.call (.ref f) args) (CR (L2.CX P w) outer P w H s Q E) s
theorem fnG_of {P : Program} {w : World} {K : PySem.W.Frag} {mg : Str → Option Value} {base : Heap} {k : Nat} {x qual : Str} {st : Stmt} {f : Addr} {fd : FuncData} {N ps : List Str} {sp : Sp} (F : Fun K x qual st f fd)
    (S : FnScope N ps (defScope st)) (len : ∀ vs H Q E, sp vs H Q E → vs.length = ps.length)
    (hbody : ∀ (cdv : Value) (A : Around) (outer : List Env) (s : Shared) (H : Hp) (vs : List V) (Q : VK) (E : XK), Room k (A.deeper (envOfC qual (defScope st) s.heap.objs.size f cdv)) → A.guards = some [] → sp vs H Q E →
      ∃ t, PSs (cxOf (L2.CX P w) P w K mg base N qual (defScope st) f cdv A outer s H E) (defBody st) t ∧ t { nx := fun _ H' => Q .non H', rt := Q } (start N vs) H) :
    FnG P w K mg base (k + 1) f fd ps sp := by
  obtain ⟨oc, od, kV, doc, pm, an, cdv, ct, osl, rfl, lk, hcd⟩ := F.ex
  refine ⟨len, fun A outer s H args us vs Q E hr hg e0 hb r hsp => ?_⟩
  have hl := len _ _ _ _ hsp
  have inH : K.In s.heap := e0.mod.kin.keeps fun b o e => (e0.bs b o e).1
  have nolim : s.heap.NoLimit := e0.mod.nolimit.keeps fun b o e => (e0.bs b o e).1
  have kinds : ∀ y ∈ ps.zip us, (defScope st).names.lookup y.1 = some .local ∨
      ((defScope st).names.lookup y.1 = some .cell ∧ ((cellsFrom (s.heap.objs.size + 1) (defScope st).names []).lookup y.1).isSome = true) := by
    rintro ⟨n, v⟩ hy
    rcases S.par n (List.of_mem_zip hy).1 with q | q
    · exact .inl q
    · exact .inr ⟨q, PySem.W.cellsFrom_some _ _ _ (.inl q)⟩
  refine codeAny_call_function hr.depth (inH _ _ lk) rfl S.co S.gen rfl (PySem.W.codeRec_of inH hcd) (hb _ _ _ _ ?_)
  refine wpAny_newFunctionEnv_cells S.kind kinds fun env he s1 y => ?_
  subst he
  refine ⟨nolim.keeps y.toInCall.keep, codeAny_func ?_⟩
  obtain ⟨t, ht, hq⟩ := hbody cdv A outer s H vs Q E (hr.deeper _) hg hsp
  have I := inv_start (CX := L2.CX P w) (E := E) S hr.hd e0 hl r y
  refine wpAny_mono (ht.run [] s1 (start N vs) H _ I hq) (fun fl s' hs => ?_) fun e s' hs => hs
  have fin : ∀ {σ' : L2.St} {H' : Hp} {v : V} {u : Value}, Inv (cxOf (L2.CX P w) P w K mg base N qual (defScope st) f cdv A outer s H E) [] σ' H' s' → RelV v u → Q v H' → CE outer P w H s Q u s' := by
    intro σ' H' v u J rv q
    exact ⟨v, H', J.os, J.bare, J.base, J.hok, rv, q⟩
  cases fl with
  | brk =>
    obtain ⟨_, _, _, q⟩ := hs
    exact q.elim
  | cont =>
    obtain ⟨_, _, _, q⟩ := hs
    exact q.elim
  | next =>
    obtain ⟨σ', H', J, q⟩ := hs
    exact fin (v := V.non) (u := Value.none) J rfl q
  | ret u =>
    obtain ⟨v, σ', H', J, rv, q⟩ := hs
    exact fin J rv q
section
variable {X : Cx} {k : Nat} {f : Addr} {fd : FuncData} {ps : List Str} {sp : Sp} {W : WX} {pins : List (Addr × Obj)} {σ : L2.St} {H : Hp} {s : Shared} {Q : VK}
/-- the callee runs; args: as it is called; us: as they are bound -/
theorem run_fnG (F : FnG X.prog X.w X.K X.mg X.base k f fd ps sp) (hr : Room k X.A) (hg : X.A.guards = some []) (tk : Takes X W) {args : Args} {us : List Value} {vs : List V} (hb : BindsTo s fd args (ps.zip us))
    (I : Inv X pins σ H s) (r : Vals vs us) (h : sp vs H Q (fun cls d H' => W cls d σ H')) : codeAny (model X.prog X.w) X.A (.call (.ref f) args) (fun r s' => match r with
      | .ok (.ret u) => EP X pins σ Q u s'
      | .ok _ => False
      | .error e => X.xe e s') s := by
  refine codeAny_mono (F.run X.A X.stack s H args us vs Q (fun cls d H' => W cls d σ H') hr hg I.env0 hb r h) fun r s' hq => ?_
  cases r with
  | error e => exact passAt tk σ pins H s e s' I hq
  | ok fl =>
    cases fl with
    | ret u => exact I.after hq
    | next => exact hq.elim
    | brk => exact hq.elim
    | cont => exact hq.elim
end

/-! ### what is known of the module -/
def PostE (K : PySem.W.Frag) (RX : XRel) (E : XK) (α : List Addr) (H : Hp) : Nat → Ex → Store → Prop := fun b x st => ∀ α' H' cls d, Ext K α H α' H' → Rel K α' H' st b → RX x cls d H' → E cls d H'
def spI (F : Tab) (RX : XRel) (K : PySem.W.Frag) (k : Nat) (f : Str) : Sp := fun vs H Q E => ∃ α st b ds, Rel K α H st b ∧ RDs K α H ds vs ∧ Tri (run F k f ds st) b (PostV K α H Q) (PostE K RX E α H)
def pickV {α : Type} (xs : List α) : List Nat → Option (List α)
  | [] => some []
  | i :: r => match xs[i]?, pickV xs r with
    | some x, some ys => some (x :: ys)
    | _, _ => none
/-- keywords ks behind n values come to the parameters in the order o -/
def KwOk (fd : FuncData) (ps : List Str) (n : Nat) (ks : List Str) (o : List Nat) : Prop :=
  ∀ (s : Shared) (us ws : List Value), us.length = n → ws.length = ks.length → ∃ zs, pickV (us ++ ws) o = some zs ∧ BindsTo s fd ⟨us, ks.zip ws⟩ (ps.zip zs)
/-- which keywords are used, by def -/
abbrev KwTab := List (Str × Nat × List Str)
structure FnFacts (F : Tab) (KW : KwTab) (RX : XRel) (P : Program) (w : World) (K : PySem.W.Frag) (mg : Str → Option Value) (base : Heap) (k : Nat) (f : Str) : Prop where
  ex : ∃ (fa : Addr) (fd : FuncData) (ps : List Str), mg f = some (.ref fa) ∧ PySem.W.keepIn K (.ref fa) = true ∧ Binds K fd ps [] ∧ FnG P w K mg base k fa fd ps (spI F RX K k f) ∧
    ∀ n ks, (f, n, ks) ∈ KW → ∀ o, kordT F f n ks = some o → KwOk fd ps n ks o
def bltNames : List Str := ["len", "list", "tuple", "all", "any", "abs", "int", "bool", "str", "repr", "min", "max", "sorted", "range", "enumerate", "zip", "isinstance"]
structure Gd (F : Tab) (KW : KwTab) (mods : List (Str × String)) (RX : XRel) (P : Program) (w : World) (K : PySem.W.Frag) (mg : Str → Option Value) (base : Heap) (k : Nat) : Prop where
  fns : ∀ f fn, F.lookup f = some fn → FnFacts F KW RX P w K mg base k f
  blt : ∀ x ∈ bltNames, mg x = none
  mods : ∀ x id, (x, id) ∈ mods → mg x = some (.builtin id)

/-! ### the check of a text, and where it stands -/
structure CC where
  N : List Str
  sc : Scope
  sto : List (Str × NameKind)
def visB (c : CC) (x : Str) : Bool := match c.sc.names.lookup x with
  | some .local | some .cell | some .free => true
  | _ => false
def glB (c : CC) (x : Str) : Bool := match c.sc.names.lookup x with
  | some .globalImplicit => true
  | _ => false
def stoB (c : CC) (x : Str) : Bool := match c.sto.lookup x with
  | some .local | some .cell => true
  | _ => false
def nameB (x : Str) : Bool := !(x == ("__debug__" : Str)) && !(x == ("__classdict__" : Str)) && !(x == ("__name__" : Str))
/-- a comprehension's scope, as it runs -/
def relS (s sc : Scope) : Scope :=
  { s with names := s.names.map fun (n, k) => if (k == NameKind.free && sc.kind == ScopeKind.function && sc.names.lookup n == some NameKind.cell) then (n, NameKind.cell) else (n, k) }
def CC.blk (c : CC) (s : Scope) : CC := ⟨c.N, relS s c.sc, s.names⟩
structure GX (F : Tab) (KW : KwTab) (mods : List (Str × String)) (RX : XRel) (k : Nat) (c : CC) (X : Cx) : Prop where
  gd : Gd F KW mods RX X.prog X.w X.K X.mg X.base k
  N : X.N = c.N
  sc : X.env.scope = c.sc
  nd : X.N.Nodup
  calm : X.calm = true
  room : Room k X.A
  guards : X.A.guards = some []
  sto : ∀ x, stoB c x = true → Loc X.env.scope x ∧ (X.fn x = true ∨ X.env.scope.names.lookup x = some .local)
section
variable {F : Tab} {KW : KwTab} {mods : List (Str × String)} {RX : XRel} {k : Nat} {c : CC} {X : Cx}
theorem GX.vis (G : GX F KW mods RX k c X) {x : Str} (h : visB c x = true) : Vis X.env.scope x := by
  unfold visB at h
  rw [← G.sc] at h
  unfold Vis
  split at h
  · rename_i e; exact .inl e
  · rename_i e; exact .inr (.inl e)
  · rename_i e; exact .inr (.inr e)
  · cases h
theorem GX.gl (G : GX F KW mods RX k c X) {x : Str} (h : glB c x = true) : Gl X x := by
  unfold glB at h
  rw [← G.sc] at h
  unfold Gl
  split at h
  · rename_i e; exact e
  · cases h
theorem GX.blk (G : GX F KW mods RX k c X) (s : Shared) (H : Hp) (scope : Scope) (cl : List (Str × Addr)) (C : Addr) (fp : List Addr) : GX F KW mods RX k (c.blk scope) (X.blk s H scope (compEnvC scope cl C X.env) fp) where
  gd := G.gd
  N := G.N
  sc := by
    show relabel scope X.env = relS scope c.sc
    rw [← G.sc]
    rfl
  nd := G.nd
  calm := G.calm
  room := G.room
  guards := G.guards
  sto := fun x h => by
    unfold stoB at h
    have h : (match scope.names.lookup x with | some .local | some .cell => true | _ => false) = true := h
    split at h
    · rename_i e
      have q := lookup_relS_keep (sc := X.env.scope) (k := .local) (by decide) e
      exact ⟨.inl q, .inr q⟩
    · rename_i e
      have q := lookup_relS_keep (sc := X.env.scope) (k := .cell) (by decide) e
      refine ⟨.inr q, .inl ?_⟩
      show (scope.names.lookup x == some .cell) = true
      rw [e] <;> rfl
    · cases h
end
end DI
end
section
/-! # enumerate(a tuple) -/
namespace DI
open PySem L2 PySem.Spec Builtin
open PyProof.Rows hiding St
/-- the record of an enumerate at 0 over the iterator at i -/
def enO (i : Addr) : Obj := { cls := .type "enumerate", data := .fields #[.none, .bool false, .ref i, rawInt 0, .none, .none] }
set_option maxHeartbeats 1000000 in
theorem meets_en1 {v : Value} {o : Obj} {H : Heap → Prop} (B : Begins v o H) :
    Meets (Builtin.«enumerate.__new__» ⟨[.type "enumerate", v], []⟩)
      (fun _ R s => H s.heap ∧ R (.ok (.ret (.ref (s.heap.push o).objs.size))) { s with heap := (s.heap.push o).push (enO s.heap.objs.size) }) :=
  .of_wp fun prog w A R s h => by
    obtain ⟨hp, g, d, tk, os⟩ := s
    obtain ⟨h1, h⟩ := h
    have hsub := sub_enumerate
    have q1 : ∀ {A' : Around} {E : Value → Shared → Prop} {Q : Value → Shared → Prop}, Q (.ref hp.objs.size) ⟨hp.push o, g, d, tk, os⟩ →
        wpAny (model prog w) A' (pyIter v) Q E ⟨hp, g, d, tk, os⟩ := fun q => B.iter prog w _ _ ⟨hp, g, d, tk, os⟩ _ h1 q
    wp_walk using q1
    refine wpAny_stack_any fun st => ?_
    refine wpAny_pure ?_
    split
    · rename_i c _ _ _ _ _
      cases (c == Value.type "enumerate") <;> (wp_walk using q1; exact ⟨_, rfl, h⟩)
    · wp_walk using q1
      exact ⟨_, rfl, h⟩
theorem call_enum1 {prog : Program} {w : World} {A : Around} {E : Value → Shared → Prop} {s : Shared} {v : Value} {o : Obj} {H : Heap → Prop} {Q : Value → Shared → Prop} (B : Begins v o H) (h1 : H s.heap)
    (h : ∀ h', IsEnum h' (s.heap.objs.size + 1) s.heap.objs.size 0 .none → h'.get? s.heap.objs.size = some o → h'.objs.size = s.heap.objs.size + 2 →
      (∀ b ob, s.heap.get? b = some ob → h'.get? b = some ob) → Q (.ref (s.heap.objs.size + 1)) { s with heap := h' }) :
    wpAny (model prog w) A (call (.type "enumerate") [v]) Q E s := by
  refine callType_new F.called_enumerate (by decide) (F.typeCall_enumerate_1 _) (F.newCall_enumerate_1 _) (fun obj => F.args_object_init_2 obj _) F.entry_enumerate_new (meets_en1 B) ⟨h1, ?_⟩
  have hz : (s.heap.push o).objs.size = s.heap.objs.size + 1 := Heap.size_push ..
  have he : IsEnum ((s.heap.push o).push (enO s.heap.objs.size)) (s.heap.objs.size + 1) s.heap.objs.size 0 .none := by
    have q := Heap.get?_push_size (s.heap.push o) (o := enO s.heap.objs.size) rfl
    rw [hz] at q
    exact q
  show _ ∧ _
  rw [hz]
  refine ⟨⟨_, he, rfl⟩, h _ he ?_ ?_ ?_⟩
  · exact Heap.get?_push_of_some _ (Heap.get?_push_size _ B.free)
  · rw [Heap.size_push, hz]
  · intro b ob x
    exact Heap.get?_push_of_some _ (Heap.get?_push_of_some _ x)
def IteT (K : PySem.W.Frag) (a : Addr) : It where
  go := fun i H => ∃ (xs : List V) (x : V), SqT K H a xs ∧ xs[i]? = some x
  yld := fun i H v H' => ∃ T x, v = .ref T ∧ H T = none ∧ H' = upd H T (.tup [.int (i : Nat), x]) ∧ ∀ xs, SqT K H a xs → xs[i]? = some x
  stop := fun i H => ∃ xs : List V, SqT K H a xs ∧ xs.length = i
theorem turn_enumT {P : Program} {w : World} {K : PySem.W.Frag} {elts : List Expr} {kk : Nat} {tpos : Pos} (a e it : Addr) :
    Turn P w K (.Tuple elts kk tpos) (IteT K a) [e, it] e (fun i h => (∃ old, IsEnum h e it ((i : Nat) : Int) old) ∧ h.IsTupleIter it a i ∧ e ≠ it) where
  mem := by simp
  obj := by
    intro i h st b hb
    obtain ⟨⟨old, he⟩, ⟨o, ho, hc, hd⟩, _⟩ := st
    have e' : b = e ∨ b = it := by simpa using hb
    rcases e' with rfl | rfl
    · exact ⟨_, he, fun v q => nomatch q⟩
    · exact ⟨o, ho, fun v q => by rw [hd] at q; cases q⟩
  keep := by
    intro i h h' st k
    obtain ⟨⟨old, he⟩, hi, hne⟩ := st
    exact ⟨⟨old, k e (by simp) _ he⟩, hi.at fun o q => k it (by simp) o q, hne⟩
  item := by
    intro X hP hw hK hc i pins s σ H E I hf st hg
    subst hP hw hK
    obtain ⟨⟨old, he⟩, hit, hne⟩ := st
    obtain ⟨xs, x, hq, hx⟩ := hg
    obtain ⟨its, rv, p, hz⟩ := I.tuple hq
    obtain ⟨u, hu, ru⟩ := rv.get hx
    have hel : e < s.heap.objs.size := Heap.lt_size he
    have hil : it < s.heap.objs.size := by
      obtain ⟨_, q, _⟩ := hit
      exact Heap.lt_size q
    have pt : s.heap.IsTuple a its.toArray := p
    have nai : a ≠ it := by
      intro z
      obtain ⟨o1, q1, c1, _⟩ := hit
      obtain ⟨o2, q2, c2, _⟩ := p
      rw [z, q1] at q2
      cases q2
      rw [c1] at c2
      exact absurd c2 (by decide)
    have nae : a ≠ e := by
      intro z
      obtain ⟨o2, q2, c2, _⟩ := p
      rw [z, he] at q2
      cases q2
      exact absurd (show Value.type "enumerate" = Value.type "tuple" from c2) (by decide)
    have D := Draws.tuple (prog := X.prog) (w := X.w) (A := X.A.in1) (I.ok.hd hc) it a nai its.toArray
    have hlt : i < its.toArray.size := by
      have := (List.getElem?_eq_some_iff.mp hu).1
      simpa using this
    refine wpAny_pyNext_enum_itemD D he ⟨hit, pt⟩ hlt hne (by simp [hne, Ne.symm nae]) fun y h' tk hP ho hst hT hsz hk => ?_
    have ey : y = u := by
      have q : its.toArray[i]? = some y := hP
      have q2 : its.toArray[i]? = some u := by simpa using hu
      rw [q2] at q
      exact (Option.some.inj q).symm
    subst ey
    refine ⟨_, rfl, wpAny_letOwnedTupleGo_enum (s := { s with heap := h', toks := tk + 1 }) ho fun h'' he' sb => ?_⟩
    have hT2 : h''.get? s.heap.objs.size = some { cls := .type "tuple", data := .seq #[.int i tk, y] } := (sb.2 _ (Nat.ne_of_gt hel)).trans hT
    have new : ObjOk X.prog X.w (upd H s.heap.objs.size (.tup [.int (i : Nat), x])) h'' s.heap.objs.size (.tup [.int (i : Nat), x]) := by
      refine ⟨by show 2 ≤ sizeLine; decide, [.int i tk, y], ?_, ⟨_, hT2, rfl, _, rfl⟩⟩
      exact .cons ⟨_, rfl⟩ (.cons ru .nil)
    have I1 : Inv X pins σ (upd H s.heap.objs.size (.tup [.int (i : Nat), x])) { s with heap := h'', toks := tk + 1 } := by
      refine I.turnedNew (ch := [e, it]) (fun b ob hb q => ?_) hf (Nat.le_refl _) new
      refine (sb.2 b (fun z => hb (by simp [z]))).trans ?_
      exact hk b ob (fun z => hb (by simp [z])) (fun z => hb (by simp [z])) q
    refine ⟨.ref s.heap.objs.size, _, I1, rfl, ⟨_, x, rfl, I.hok.fresh (Nat.le_refl _), rfl, ?_⟩, ⟨⟨y, ?_⟩, ?_, hne⟩, fun b hb => ?_⟩
    · intro ys hy
      rw [I.tuple_inj hy hq]
      exact hx
    · have e1 : ((i + 1 : Nat) : Int) = (i : Int) + 1 := by omega
      rw [e1]
      exact he'
    · exact hst.1.at fun o q => (sb.2 it (Ne.symm hne)).trans q
    · have hb' : b < s.heap.objs.size := by
        have e' : b = e ∨ b = it := by simpa using hb
        rcases e' with z | z
        · rw [z]
          exact hel
        · rw [z]
          exact hil
      rw [upd_ne (Nat.ne_of_lt hb')]
      exact (hf b hb).1
  done := by
    intro X hP hw hK hc i pins s σ H E I hf st hg
    subst hP hw hK
    obtain ⟨⟨old, he⟩, hit, hne⟩ := st
    obtain ⟨xs, hq, hx⟩ := hg
    obtain ⟨its, rv, p, hz⟩ := I.tuple hq
    have pt : s.heap.IsTuple a its.toArray := p
    have nai : a ≠ it := by
      intro z
      obtain ⟨o1, q1, c1, _⟩ := hit
      obtain ⟨o2, q2, c2, _⟩ := p
      rw [z, q1] at q2
      cases q2
      rw [c1] at c2
      exact absurd c2 (by decide)
    have D := Draws.tuple (prog := X.prog) (w := X.w) (A := X.A.in1) (I.ok.hd hc) it a nai its.toArray
    have hl : its.toArray.size = i := by
      have := rv.length
      simp
      omega
    obtain ⟨f0, f1, f2, f3, f4, f5⟩ := hf it (by simp)
    refine wpAny_pyNext_enum_endD D he ⟨by rw [hl]; exact hit, pt⟩ fun h' eb => ⟨rfl, ?_⟩
    exact I.turned (t' := s.toks) (fun b o hb q => eb b o hb q) f0 f1 f3 f4 f5
  self := by
    intro A i s Q E st h
    obtain ⟨⟨_, he⟩, _⟩ := st
    exact wpAny_pyIter_enum he h
end DI
end
section
namespace DI
open PySem L2 PySem.Spec
open PyProof.Rows hiding St
section
variable {K : PySem.W.Frag} {α α' : List Addr} {H H' : Hp} {b : Nat} {st : Store}
/-- the iterator of a plan -/
def PlJ (K : PySem.W.Frag) (α : List Addr) (H : Hp) : Pl → It → Prop
  | .lst n _, J => ∃ a, α[n]? = some a ∧ J = Itl K a
  | .tup xs, J => ∃ a vs, SqT K H a vs ∧ RDs K α H xs vs ∧ J = Itt K a
  | .rng lo n, J => J = Itr lo n
  | .enumL n _, J => ∃ a, α[n]? = some a ∧ J = Ite K a
  | .enumT xs, J => ∃ a vs, SqT K H a vs ∧ RDs K α H xs vs ∧ J = IteT K a
  | .zipL n m _ _, J => ∃ a c, α[n]? = some a ∧ α[m]? = some c ∧ J = Itz K a c
  | .zipT xs ys, J => ∃ a c vs us, SqT K H a vs ∧ RDs K α H xs vs ∧ SqT K H c us ∧ RDs K α H ys us ∧ J = RZ.ItzT K a c
theorem PlJ.ext {pl : Pl} {J : It} (e : Ext K α H α' H') (h : PlJ K α H pl J) : PlJ K α' H' pl J := by
  cases pl with
  | lst n l =>
    obtain ⟨a, h1, h2⟩ := h
    exact ⟨a, e.pre _ _ h1, h2⟩
  | tup xs =>
    obtain ⟨a, vs, h1, h2, h3⟩ := h
    exact ⟨a, vs, e.tup _ _ h1, h2.ext e, h3⟩
  | rng lo n => exact h
  | enumL n l =>
    obtain ⟨a, h1, h2⟩ := h
    exact ⟨a, e.pre _ _ h1, h2⟩
  | enumT xs =>
    obtain ⟨a, vs, h1, h2, h3⟩ := h
    exact ⟨a, vs, e.tup _ _ h1, h2.ext e, h3⟩
  | zipL n m l l2 =>
    obtain ⟨a, c, h1, h2, h3⟩ := h
    exact ⟨a, c, e.pre _ _ h1, e.pre _ _ h2, h3⟩
  | zipT xs ys =>
    obtain ⟨a, c, vs, us, h1, h2, h3, h4, h5⟩ := h
    exact ⟨a, c, vs, us, e.tup _ _ h1, h2.ext e, e.tup _ _ h3, h4.ext e, h5⟩
theorem lstAt_of {n l : Nat} {xs : List D} (h : lstAt st n l = some xs) : (∃ w, st[n]? = some (.lst w xs)) ∧ xs.length = l := by
  unfold lstAt at h
  split at h
  · rename_i w ys e
    split at h
    · rename_i q
      cases h
      exact ⟨⟨w, e⟩, q⟩
    · cases h
  · cases h
/-- what a turn gives -/
def Gives (K : PySem.W.Frag) (α : List Addr) (H : Hp) (st : Store) (b : Nat) (x : D) (v : V) (H' : Hp) : Prop := Ext K α H α H' ∧ Rel K α H' st b ∧ RD K α H' x v
theorem gives_pair (R : Rel K α H st b) {x y : D} {v u : V} {T : Addr} (hT : H T = none) (rx : RD K α H x v) (ry : RD K α H y u) : Gives K α H st b (.tup [x, y]) (.ref T) (upd H T (.tup [v, u])) := by
  have e : Ext K α H α (upd H T (.tup [v, u])) := ext_new hT
  exact ⟨e, R.newT hT, .tup (.of upd_same) (.cons (rx.ext e) (.cons (ry.ext e) .nil))⟩
theorem plJ_go (R : Rel K α H st b) {pl : Pl} {J : It} {i : Nat} {x : D} (h : PlJ K α H pl J) (hx : plItem st pl i = some x) : J.go i H ∧ ∀ v H', J.yld i H v H' → Gives K α H st b x v H' := by
  cases pl with
  | lst n l =>
    obtain ⟨a, h1, rfl⟩ := h
    have hx : (lstAt st n l).bind (fun xs => xs[i]?) = some x := hx
    cases e : lstAt st n l with
    | none =>
      rw [e] at hx
      cases hx
    | some xs =>
      rw [e] at hx
      obtain ⟨⟨w, e1⟩, _⟩ := lstAt_of e
      obtain ⟨vs, q1, q2⟩ := R.lst e1 h1
      obtain ⟨v, q3, q4⟩ := q2.get hx
      refine ⟨⟨vs, v, q1, q3⟩, fun v' H' hy => ?_⟩
      obtain ⟨rfl, hy⟩ := hy
      have := (hy vs q1).symm.trans q3
      cases this
      exact ⟨.refl _ _, R, q4⟩
  | tup xs =>
    obtain ⟨a, vs, q1, q2, rfl⟩ := h
    obtain ⟨v, q3, q4⟩ := q2.get hx
    refine ⟨⟨vs, v, q1, q3⟩, fun v' H' hy => ?_⟩
    obtain ⟨rfl, hy⟩ := hy
    have := (hy vs q1).symm.trans q3
    cases this
    exact ⟨.refl _ _, R, q4⟩
  | rng lo n =>
    have h : J = Itr lo n := h
    subst h
    have hx : (if i < n then some (D.int (lo + i)) else none) = some x := hx
    split at hx
    · rename_i hi
      cases hx
      refine ⟨hi, fun v' H' hy => ?_⟩
      obtain ⟨rfl, rfl⟩ := hy
      exact ⟨.refl _ _, R, .int _⟩
    · cases hx
  | enumL n l =>
    obtain ⟨a, h1, rfl⟩ := h
    have hx : (lstAt st n l).bind (fun xs => (xs[i]?).map fun x => D.tup [.int i, x]) = some x := hx
    cases e : lstAt st n l with
    | none =>
      rw [e] at hx
      cases hx
    | some xs =>
      rw [e] at hx
      have hx : (xs[i]?).map (fun x => D.tup [.int i, x]) = some x := hx
      obtain ⟨⟨w, e1⟩, _⟩ := lstAt_of e
      obtain ⟨vs, q1, q2⟩ := R.lst e1 h1
      cases e2 : xs[i]? with
      | none =>
        rw [e2] at hx
        cases hx
      | some y =>
        rw [e2] at hx
        cases hx
        obtain ⟨v, q3, q4⟩ := q2.get e2
        refine ⟨⟨vs, v, q1, q3⟩, fun v' H' hy => ?_⟩
        obtain ⟨T, x', rfl, hT, rfl, hy⟩ := hy
        have := (hy vs q1).symm.trans q3
        cases this
        exact gives_pair R hT (.int _) q4
  | enumT xs =>
    obtain ⟨a, vs, q1, q2, rfl⟩ := h
    have hx : (xs[i]?).map (fun x => D.tup [.int i, x]) = some x := hx
    cases e2 : xs[i]? with
    | none =>
      rw [e2] at hx
      cases hx
    | some y =>
      rw [e2] at hx
      cases hx
      obtain ⟨v, q3, q4⟩ := q2.get e2
      refine ⟨⟨vs, v, q1, q3⟩, fun v' H' hy => ?_⟩
      obtain ⟨T, x', rfl, hT, rfl, hy⟩ := hy
      have := (hy vs q1).symm.trans q3
      cases this
      exact gives_pair R hT (.int _) q4
  | zipL n m l l2 =>
    obtain ⟨a, c, h1, h2, rfl⟩ := h
    have hx : (lstAt st n l).bind (fun xs => (lstAt st m l2).bind fun ys => (xs[i]?).bind fun x => (ys[i]?).map fun y => D.tup [x, y]) = some x := hx
    cases e : lstAt st n l with
    | none =>
      rw [e] at hx
      cases hx
    | some xs =>
      cases e' : lstAt st m l2 with
      | none =>
        rw [e, e'] at hx
        cases hx
      | some ys =>
        rw [e, e'] at hx
        have hx : ((xs[i]?).bind fun x => (ys[i]?).map fun y => D.tup [x, y]) = some x := hx
        obtain ⟨⟨w, e1⟩, _⟩ := lstAt_of e
        obtain ⟨⟨w', e1'⟩, _⟩ := lstAt_of e'
        obtain ⟨vs, q1, q2⟩ := R.lst e1 h1
        obtain ⟨us, q1', q2'⟩ := R.lst e1' h2
        cases e2 : xs[i]? with
        | none =>
          rw [e2] at hx
          cases hx
        | some y =>
          cases e3 : ys[i]? with
          | none =>
            rw [e2, e3] at hx
            cases hx
          | some z =>
            rw [e2, e3] at hx
            cases hx
            obtain ⟨v, q3, q4⟩ := q2.get e2
            obtain ⟨u, q3', q4'⟩ := q2'.get e3
            refine ⟨⟨vs, us, v, u, q1, q1', q3, q3'⟩, fun v' H' hy => ?_⟩
            obtain ⟨T, x', y', rfl, hT, rfl, hy1, hy2⟩ := hy
            have z1 := (hy1 vs q1).symm.trans q3
            have z2 := (hy2 us q1').symm.trans q3'
            cases z1
            cases z2
            exact gives_pair R hT q4 q4'
  | zipT xs ys =>
    obtain ⟨a, c, vs, us, q1, q2, q1', q2', rfl⟩ := h
    have hx : ((xs[i]?).bind fun x => (ys[i]?).map fun y => D.tup [x, y]) = some x := hx
    cases e2 : xs[i]? with
    | none =>
      rw [e2] at hx
      cases hx
    | some y =>
      cases e3 : ys[i]? with
      | none =>
        rw [e2, e3] at hx
        cases hx
      | some z =>
        rw [e2, e3] at hx
        cases hx
        obtain ⟨v, q3, q4⟩ := q2.get e2
        obtain ⟨u, q3', q4'⟩ := q2'.get e3
        refine ⟨⟨vs, us, v, u, q1, q1', q3, q3'⟩, fun v' H' hy => ?_⟩
        obtain ⟨T, x', y', rfl, hT, rfl, hy1, hy2⟩ := hy
        have z1 := (hy1 vs q1).symm.trans q3
        have z2 := (hy2 us q1').symm.trans q3'
        cases z1
        cases z2
        exact gives_pair R hT q4 q4'
theorem plJ_stop (R : Rel K α H st b) {pl : Pl} {J : It} {i : Nat} (h : PlJ K α H pl J) (he : plEnd st pl = true) (hi : i = plLen pl) : J.stop i H := by
  subst hi
  cases pl with
  | lst n l =>
    obtain ⟨a, h1, rfl⟩ := h
    obtain ⟨xs, e⟩ := Option.isSome_iff_exists.mp he
    obtain ⟨⟨w, e1⟩, hl⟩ := lstAt_of e
    obtain ⟨vs, q1, q2⟩ := R.lst e1 h1
    exact ⟨vs, q1, by rw [← q2.length, hl]; exact Nat.le_refl _⟩
  | tup xs =>
    obtain ⟨a, vs, q1, q2, rfl⟩ := h
    exact ⟨vs, q1, by rw [← q2.length]; exact Nat.le_refl _⟩
  | rng lo n =>
    have h : J = Itr lo n := h
    subst h
    exact Nat.le_refl n
  | enumL n l =>
    obtain ⟨a, h1, rfl⟩ := h
    obtain ⟨xs, e⟩ := Option.isSome_iff_exists.mp he
    obtain ⟨⟨w, e1⟩, hl⟩ := lstAt_of e
    obtain ⟨vs, q1, q2⟩ := R.lst e1 h1
    exact ⟨vs, q1, by rw [← q2.length, hl]; exact Nat.le_refl _⟩
  | enumT xs =>
    obtain ⟨a, vs, q1, q2, rfl⟩ := h
    exact ⟨vs, q1, by rw [← q2.length]; rfl⟩
  | zipL n m l l2 =>
    obtain ⟨a, c, h1, h2, rfl⟩ := h
    obtain ⟨he1, he2⟩ := Bool.and_eq_true_iff.mp he
    obtain ⟨xs, e⟩ := Option.isSome_iff_exists.mp he1
    obtain ⟨ys, e'⟩ := Option.isSome_iff_exists.mp he2
    obtain ⟨⟨w, e1⟩, hl⟩ := lstAt_of e
    obtain ⟨⟨w', e1'⟩, hl'⟩ := lstAt_of e'
    obtain ⟨vs, q1, q2⟩ := R.lst e1 h1
    obtain ⟨us, q1', q2'⟩ := R.lst e1' h2
    refine ⟨vs, us, q1, q1', ?_⟩
    rw [← q2.length, ← q2'.length, hl, hl']
    show l ≤ min l l2 ∨ l2 ≤ min l l2
    omega
  | zipT xs ys =>
    obtain ⟨a, c, vs, us, q1, q2, q1', q2', rfl⟩ := h
    refine ⟨vs, us, q1, q1', ?_⟩
    rw [← q2.length, ← q2'.length]
    show xs.length ≤ min xs.length ys.length ∨ ys.length ≤ min xs.length ys.length
    omega
/-- the reading of what is walked -/
def ti (K : PySem.W.Frag) (RX : XRel) (W : WX) (C : Cfg) (it : IIt) : TI := fun σ H R => ∃ α st b env, Rel K α H st b ∧ REnv K α H env σ ∧
  Tri (evIt C it env st) b (fun b' p => ∀ α' H' J, Ext K α H α' H' → Rel K α' H' p.2 b' → PlJ K α' H' p.1 J → R J H') (PostX K RX W σ α H)
end
end DI
end
section
namespace DI
open PySem L2 PySem.Spec
open PyProof.Rows hiding St
/-! ### plain expressions -/
def plainE : Expr → Bool
  | .Starred .. | .Set .. | .Slice .. | .NamedExpr .. | .Await .. | .Yield .. | .YieldFrom .. | .Lambda .. => false
  | _ => true
/-- no special road as a test -/
def plainT : Expr → Bool
  | .UnaryOp .. | .BoolOp .. | .IfExp .. | .Compare .. => false
  | _ => true
/-- not a comprehension -/
def noComp : Expr → Bool
  | .ListComp .. | .SetComp .. | .DictComp .. => false
  | _ => true
def baseB : Expr → Bool
  | .Name .. | .Subscript .. | .Constant .. | .Attribute .. => true
  | _ => false
theorem star_plain {e : Expr} {es : List Expr} {env : Env} (h : plainE e = true) : starEach (e :: es) env = (false, eval e env) :: starEach es env := by
  cases e <;> first | rfl | cases h
theorem truth_plain {e : Expr} {env : Env} (h : plainT e = true) : ∀ whole, isTrue e env whole = (do let v ← whole; standAt e.pos; holding [v] (truthy v)) := by
  intro whole
  cases e <;> first | rfl | cases h
theorem folded_plain {e : Expr} {env : Env} (h : plainE e = true) : ∀ x, foldedSetIterable e env x = pure x := by
  intro x
  cases e <;> first | rfl | cases h
theorem ix_plain {e : Expr} (h : plainE e = true) : PlainIx e := by
  intro o i
  cases e <;> first | rfl | cases h
theorem base_plain {e : Expr} {name : Str} {env : Env} (h : baseB e = true) : attributeBase e name env (eval e env) = eval e env := by
  cases e <;> first | rfl | cases h
theorem swap_none {e : Expr} {l : Nat} {env : Env} (h : noComp e = true) : swapsWith e none l env = pure false := by
  cases e <;> first | rfl | cases h
theorem swap_some {e : Expr} {t : Expr} {l : Nat} {env : Env} (h : noComp e = true) : swapsWith e (some t) l env = pure false := by
  cases e <;> first | rfl | cases h
def plainEs (es : List Expr) : Bool := es.all plainE
theorem star_all {es : List Expr} {env : Env} (h : plainEs es = true) : starEach es env = es.map fun e => (false, eval e env) := by
  induction es with
  | nil => rfl
  | cons e es ih =>
    obtain ⟨h1, h2⟩ := Bool.and_eq_true_iff.mp (show (plainE e && es.all plainE) = true from h)
    rw [star_plain h1, ih h2]
    rfl
theorem back_any {es : List Expr} {env : Env} {pos : Pos} (h : plainEs es = true) : (backTo pos (starEach es env)).any (·.1) = false := by
  rw [star_all h]
  unfold backTo
  rw [List.map_map, List.any_map]
  rw [List.any_eq_false]
  intro x hx
  simp
theorem back_all {es : List Expr} {env : Env} {pos : Pos} (h : plainEs es = true) : (backTo pos (starEach es env)).all (fun x => !x.1) = true := by
  rw [star_all h]
  unfold backTo
  rw [List.map_map, List.all_map, List.all_eq_true]
  intro x hx
  simp

/-! ### readings imply readings -/
section
variable {X : Cx} {RX : XRel} {W : WX} {C : Cfg} {K : PySem.W.Frag} {α α' : List Addr} {H H' : Hp} {b : Nat} {st : Store} {env : Evr} {σ : L2.St}
theorem PE.imp {e : Expr} {t t' : TE} (h : PE X e t) (i : ∀ σ H Q, t' σ H Q → t σ H Q) : PE X e t' := ⟨fun pins s σ H Q I q => h.run pins s σ H Q I (i σ H Q q)⟩
theorem PT.imp {e : Expr} {t t' : TT} (h : PT X e t) (i : ∀ σ H Q, t' σ H Q → t σ H Q) : PT X e t' := ⟨fun pins s σ H Q I q => h.run pins s σ H Q I (i σ H Q q)⟩
theorem PA.imp {e : List Expr} {t t' : TA} (h : PA X e t) (i : ∀ σ H Q, t' σ H Q → t σ H Q) : PA X e t' := ⟨fun pos pins s σ H Q I q => h.run pos pins s σ H Q I (i σ H Q q)⟩
theorem PO.imp {e : Option Expr} {t t' : TO} (h : PO X e t) (i : ∀ σ H Q, t' σ H Q → t σ H Q) : PO X e t' := ⟨fun pins s σ H Q I q => h.run pins s σ H Q I (i σ H Q q)⟩
abbrev XPo (K : PySem.W.Frag) (RX : XRel) (W : WX) (σ : L2.St) (α : List Addr) (H : Hp) := PostX K RX W σ α H
theorem triV {t : T (D × Store)} {Q : VK} (e : Ext K α H α' H') (h : Tri t b (PostV K α H Q) (PostX K RX W σ α H)) : Tri t b (PostV K α' H' Q) (PostX K RX W σ α' H') :=
  tri_mono h (fun _ _ _ q => q.ext e) fun _ _ _ _ q => q.ext e
theorem triA {t : T (List D × Store)} {Q : List V → Hp → Prop} (e : Ext K α H α' H') (h : Tri t b (PostA K α H Q) (PostX K RX W σ α H)) : Tri t b (PostA K α' H' Q) (PostX K RX W σ α' H') :=
  tri_mono h (fun _ _ _ q => q.ext e) fun _ _ _ _ q => q.ext e
theorem triC {β : Type} {t : T (β × Store)} {Q : β → Hp → Prop} (e : Ext K α H α' H') (h : Tri t b (PostC K α H Q) (PostX K RX W σ α H)) : Tri t b (PostC K α' H' Q) (PostX K RX W σ α' H') :=
  tri_mono h (fun _ _ _ q => q.ext e) fun _ _ _ _ q => q.ext e
/-- first an expression, then what is done with its value -/
theorem te_then {ia : IE} {β : Type} {m : D → M β} {P : Nat → (β × Store) → Prop} {R : VK} (Re : Rel K α H st b) (E : REnv K α H env σ) (h : Tri ((mbind (ev C ia env) m) st) b P (PostX K RX W σ α H))
    (k : ∀ α1 H1 v st1 b1 d, Ext K α H α1 H1 → Rel K α1 H1 st1 b1 → REnv K α1 H1 env σ → RD K α1 H1 d v → Tri (m d st1) b1 P (PostX K RX W σ α1 H1) → R v H1) : te K RX W C ia σ H R :=
  ⟨α, st, b, env, Re, E, tri_mono (tri_bind.mp h) (fun b1 p _ h1 α1 H1 v e1 R1 rd => k α1 H1 v p.2 b1 p.1 e1 R1 (E.ext e1) rd (tri_mono h1 (fun _ _ _ q => q) fun _ _ _ _ q => q.ext e1)) fun _ _ _ _ q => q⟩
theorem ta_then {is : IEs} {β : Type} {m : List D → M β} {P : Nat → (β × Store) → Prop} {R : List V → Hp → Prop} (Re : Rel K α H st b) (E : REnv K α H env σ) (h : Tri ((mbind (evs C is env) m) st) b P (PostX K RX W σ α H))
    (k : ∀ α1 H1 vs st1 b1 ds, Ext K α H α1 H1 → Rel K α1 H1 st1 b1 → REnv K α1 H1 env σ → RDs K α1 H1 ds vs → Tri (m ds st1) b1 P (PostX K RX W σ α1 H1) → R vs H1) : ta K RX W C is σ H R :=
  ⟨α, st, b, env, Re, E, tri_mono (tri_bind.mp h) (fun b1 p _ h1 α1 H1 v e1 R1 rd => k α1 H1 v p.2 b1 p.1 e1 R1 (E.ext e1) rd (tri_mono h1 (fun _ _ _ q => q) fun _ _ _ _ q => q.ext e1)) fun _ _ _ _ q => q⟩
theorem to_then {o : IO} {β : Type} {m : Option Int → M β} {P : Nat → (β × Store) → Prop} {R : Option Int → Hp → Prop} (Re : Rel K α H st b) (E : REnv K α H env σ) (h : Tri ((mbind (evO C o env) m) st) b P (PostX K RX W σ α H))
    (k : ∀ α1 H1 st1 b1 i, Ext K α H α1 H1 → Rel K α1 H1 st1 b1 → REnv K α1 H1 env σ → Tri (m i st1) b1 P (PostX K RX W σ α1 H1) → R i H1) : to K RX W C o σ H R :=
  ⟨α, st, b, env, Re, E, tri_mono (tri_bind.mp h) (fun b1 p _ h1 α1 H1 e1 R1 => k α1 H1 p.2 b1 p.1 e1 R1 (E.ext e1) (tri_mono h1 (fun _ _ _ q => q) fun _ _ _ _ q => q.ext e1)) fun _ _ _ _ q => q⟩
theorem tt_then {ia : IE} {β : Type} {m : Bool → M β} {P : Nat → (β × Store) → Prop} {R : Bool → Hp → Prop} (Re : Rel K α H st b) (E : REnv K α H env σ) (h : Tri ((mbind (mbind (ev C ia env) truthD) m) st) b P (PostX K RX W σ α H))
    (k : ∀ α1 H1 st1 b1 i, Ext K α H α1 H1 → Rel K α1 H1 st1 b1 → REnv K α1 H1 env σ → Tri (m i st1) b1 P (PostX K RX W σ α1 H1) → R i H1) : tt K RX W C ia σ H R :=
  ⟨α, st, b, env, Re, E, tri_mono (tri_bind.mp h) (fun b1 p _ h1 α1 H1 e1 R1 => k α1 H1 p.2 b1 p.1 e1 R1 (E.ext e1) (tri_mono h1 (fun _ _ _ q => q) fun _ _ _ _ q => q.ext e1)) fun _ _ _ _ q => q⟩
theorem ti_then {it : IIt} {β : Type} {m : Pl → M β} {P : Nat → (β × Store) → Prop} {R : It → Hp → Prop} (Re : Rel K α H st b) (E : REnv K α H env σ) (h : Tri ((mbind (evIt C it env) m) st) b P (PostX K RX W σ α H))
    (k : ∀ α1 H1 st1 b1 pl J, Ext K α H α1 H1 → Rel K α1 H1 st1 b1 → REnv K α1 H1 env σ → PlJ K α1 H1 pl J → Tri (m pl st1) b1 P (PostX K RX W σ α1 H1) → R J H1) : ti K RX W C it σ H R :=
  ⟨α, st, b, env, Re, E, tri_mono (tri_bind.mp h) (fun b1 p _ h1 α1 H1 J e1 R1 pj => k α1 H1 p.2 b1 p.1 J e1 R1 (E.ext e1) pj (tri_mono h1 (fun _ _ _ q => q) fun _ _ _ _ q => q.ext e1)) fun _ _ _ _ q => q⟩
theorem mbind_assoc {β γ δ : Type} (m : M β) (f : β → M γ) (g : γ → M δ) : mbind (mbind m f) g = mbind m fun x => mbind (f x) g := by
  have key : ∀ (t : T (β × Store)), (t.bind fun p => f p.1 p.2).bind (fun p => g p.1 p.2) = t.bind fun p => (f p.1 p.2).bind fun p => g p.1 p.2 := by
    intro t
    induction t with
    | ret a => rfl
    | draw n k ih =>
      show T.draw n _ = T.draw n _
      congr 1
      funext v
      exact ih v
    | exc x st => rfl
    | stuck => rfl
  funext st
  exact key (m st)

/-! ### one construct, one theorem -/
variable {e e1 e2 e3 : Expr} {ia ib ic : IE} {pos : Pos}
theorem pe_varI {i : Nat} {x : Str} (hN : X.N[i]? = some x) (hv : Vis X.env.scope x) (hd : (x == ("__debug__" : Str)) = false) (hcd : (x == ("__classdict__" : Str)) = false) : PE X (.Name x pos) (te X.K RX W C (.var i)) := by
  refine PE.imp (pe_var hN hv hd hcd) fun σ H Q h => ?_
  obtain ⟨α, st, b, env, R, E, h⟩ := h
  obtain ⟨d, h1, h2⟩ := tri_mopt h
  cases e : env[i]? with
  | none =>
    rw [e] at h1
    cases h1
  | some o =>
    rw [e] at h1
    have h1 : o = some d := h1
    subst h1
    obtain ⟨v, q1, q2⟩ := E.at_ i d e
    exact ⟨v, q1, PostV.here R q2 h2⟩
theorem pe_intI {i : Int} {j : Nat} : PE X (.Constant (.int i) j pos) (te X.K RX W C (.cint i)) := PE.imp pe_int fun σ H Q ⟨α, st, b, env, R, E, h⟩ => PostV.here R (.int i) h
theorem pe_strI {x : Str} {j : Nat} : PE X (.Constant (.str x) j pos) (te X.K RX W C (.cstr x)) := PE.imp pe_str fun σ H Q ⟨α, st, b, env, R, E, h⟩ => PostV.here R (.str x) h
theorem pe_blI {x : Bool} {j : Nat} : PE X (.Constant (.bool x) j pos) (te X.K RX W C (.cbl x)) := PE.imp pe_bl fun σ H Q ⟨α, st, b, env, R, E, h⟩ => PostV.here R (.bl x) h
theorem pe_nonI {j : Nat} : PE X (.Constant .none j pos) (te X.K RX W C .cnon) := PE.imp pe_non fun σ H Q ⟨α, st, b, env, R, E, h⟩ => PostV.here R .non h
theorem pe_binI {op : Operator} (ho : op = .Add ∨ op = .Sub ∨ op = .Mult ∨ op = .FloorDiv ∨ op = .Mod ∨ op = .Pow) (ha : PE X e1 (te X.K RX W C ia)) (hb : PE X e2 (te X.K RX W C ib)) :
    PE X (.BinOp e1 op e2 pos) (te X.K RX W C (.bin op ia ib)) := by
  refine PE.imp (pe_op (op_bin ho) ha hb) fun σ H Q h => ?_
  obtain ⟨α, st, b, env, R, E, h⟩ := h
  refine te_then R E h fun α1 H1 v st1 b1 d x1 R1 E1 r1 h1 => ?_
  refine te_then R1 E1 h1 fun α2 H2 u st2 b2 e x2 R2 E2 r2 h2 => ?_
  exact ⟨α2, st2, b2, d, e, R2, r1.ext x2, r2, _, tri_mono h2 (fun _ _ _ q => q.ext (x1.trans x2)) fun _ _ _ _ q => q⟩
theorem pe_negI (ha : PE X e1 (te X.K RX W C ia)) : PE X (.UnaryOp .USub e1 pos) (te X.K RX W C (.neg ia)) := by
  refine PE.imp (pe_un un_neg ha) fun σ H Q h => ?_
  obtain ⟨α, st, b, env, R, E, h⟩ := h
  refine te_then R E h fun α1 H1 v st1 b1 d x1 R1 E1 r1 h1 => ?_
  cases r1 with
  | int i => exact ⟨i, rfl, PostV.here R1 (.int _) (PostV.ext x1 h1)⟩
  | _ => exact h1.elim
theorem pe_cmpI {op : CmpOp} (hu : X.A.units + 64 < cLine) (ha : PE X e1 (te X.K RX W C ia)) (hb : PE X e2 (te X.K RX W C ib)) (hm : behindInMarks op e2 = false) : PE X (.Compare e1 [op] [e2] pos) (te X.K RX W C (.cmp op ia ib)) := by
  refine PE.imp (pe_cmpR (op_cmp hu) ha hb hm) fun σ H Q h => ?_
  obtain ⟨α, st, b, env, R, E, h⟩ := h
  refine te_then R E h fun α1 H1 v st1 b1 d x1 R1 E1 r1 h1 => ?_
  refine te_then R1 E1 h1 fun α2 H2 u st2 b2 e x2 R2 E2 r2 h2 => ?_
  exact ⟨α2, st2, b2, d, e, R2, r1.ext x2, r2, _, tri_mono h2 (fun _ _ _ q => q.ext (x1.trans x2)) fun _ _ _ _ q => q⟩
theorem pt_cmpI {op : CmpOp} (hu : X.A.units + 64 < cLine) (ha : PE X e1 (te X.K RX W C ia)) (hb : PE X e2 (te X.K RX W C ib)) (hm : behindInMarks op e2 = false) : PT X (.Compare e1 [op] [e2] pos) (tt X.K RX W C (.cmp op ia ib)) := by
  refine PT.imp (pt_cmpR (op_cmp hu) ha hb hm) fun σ H Q h => ?_
  obtain ⟨α, st, b, env, R, E, h⟩ := h
  unfold ev at h
  rw [mbind_assoc] at h
  refine te_then R E h fun α1 H1 v st1 b1 d x1 R1 E1 r1 h1 => ?_
  rw [mbind_assoc] at h1
  refine te_then R1 E1 h1 fun α2 H2 u st2 b2 e x2 R2 E2 r2 h2 => ?_
  refine ⟨α2, st2, b2, d, e, R2, r1.ext x2, r2, _, tri_mB.mpr (tri_mono (tri_mB.mp (tri_bind.mp h2)) (fun b3 p _ h3 α3 H3 v3 x3 R3 r3 => ?_) fun _ _ _ _ q => q)⟩
  cases r3
  exact ⟨_, rfl, (PostC.ext ((x1.trans x2).trans x3) h3) α3 H3 (.refl _ _) R3⟩
theorem pe_chainI {o1 o2 : CmpOp} (hu : X.A.units + 64 < cLine) (ha : PE X e1 (te X.K RX W C ia)) (hb : PE X e2 (te X.K RX W C ib)) (hc : PE X e3 (te X.K RX W C ic)) (hm : lastMarks [o1, o2] [e2, e3] = false) :
    PE X (.Compare e1 [o1, o2] [e2, e3] pos) (te X.K RX W C (.chain o1 o2 ia ib ic)) := by
  refine PE.imp (pe_chain (op_cmp hu) (op_cmp hu) ha hb hc hm) fun σ H Q h => ?_
  obtain ⟨α, st, b, env, R, E, h⟩ := h
  refine te_then R E h fun α1 H1 v st1 b1 d x1 R1 E1 r1 h1 => ?_
  refine te_then R1 E1 h1 fun α2 H2 u st2 b2 e x2 R2 E2 r2 h2 => ?_
  refine ⟨α2, st2, b2, d, e, R2, r1.ext x2, r2, _, tri_mB.mpr (tri_mono (tri_bind.mp h2) (fun b3 p _ h3 α3 H3 v3 x3 R3 r3 => ?_) fun _ _ _ _ q => q)⟩
  obtain ⟨k, st3⟩ := p
  cases r3
  refine ⟨k, rfl, ?_⟩
  cases k with
  | false => exact iteF (PostV.here R3 (.bl _) (PostV.ext ((x1.trans x2).trans x3) h3))
  | true =>
    refine iteT (te_then R3 (E2.ext x3) (tri_mono h3 (fun _ _ _ q => q) fun _ _ _ _ q => q.ext x3) fun α4 H4 w st4 b4 f x4 R4 E4 r4 h4 => ?_)
    exact ⟨α4, st4, b4, e, f, R4, (r2.ext x3).ext x4, r4, _, tri_mono h4 (fun _ _ _ q => q.ext (((x1.trans x2).trans x3).trans x4)) fun _ _ _ _ q => q⟩
/-- an expression that is a bool, as a test -/
theorem pt_of_bool {e : Expr} (h : PE X e (te X.K RX W C ia)) (hb : ∀ env st b (P : Nat → (D × Store) → Prop) XP, Tri (ev C ia env st) b P XP → Tri (ev C ia env st) b (fun b' p => P b' p ∧ ∃ k, p.1 = .bl k) XP)
    (he : ∀ (t : TE), PE X e t → PT X e (tB t)) : PT X e (tt X.K RX W C ia) := by
  refine PT.imp (he _ h) fun σ H Q h => ?_
  obtain ⟨α, st, b, env, R, E, h⟩ := h
  have h2 := hb env st b _ _ (tri_bind.mp h)
  refine ⟨α, st, b, env, R, E, tri_mono h2 (fun b1 p _ q α1 H1 v x1 R1 r1 => ?_) fun _ _ _ _ q => q⟩
  obtain ⟨d, st1⟩ := p
  obtain ⟨q, k, e⟩ := q
  have e : d = .bl k := e
  subst e
  cases r1
  exact ⟨k, rfl, (PostC.ext x1 q) α1 H1 (.refl _ _) R1⟩
theorem pt_truthI {e : Expr} (hp : plainT e = true) (ha : PE X e (te X.K RX W C ia)) : PT X e (tt X.K RX W C ia) := by
  refine PT.imp (pt_truth ha (truth_plain hp)) fun σ H Q h => ?_
  obtain ⟨α, st, b, env, R, E, h⟩ := h
  refine te_then R E h fun α1 H1 v st1 b1 d x1 R1 E1 r1 h1 => ?_
  exact truth_ok R1 r1 (tri_mono h1 (fun _ _ _ q => q.ext x1) fun _ _ _ _ q => q)
theorem asB_of {d : D} {P : Nat → (Bool × Store) → Prop} {XP : Nat → Ex → Store → Prop} (h : Tri (asB d st) b P XP) : ∃ k, d = .bl k ∧ P b (k, st) := by
  cases d with
  | bl k => exact ⟨k, rfl, h⟩
  | _ => exact h.elim
theorem pe_andI {r : List Expr} (ha : PE X e1 (te X.K RX W C ia)) (hb : PE X (.BoolOp .And (e2 :: r) pos) (te X.K RX W C ib)) : PE X (.BoolOp .And (e1 :: e2 :: r) pos) (te X.K RX W C (.and ia ib)) := by
  refine PE.imp (pe_and ha hb) fun σ H Q h => ?_
  obtain ⟨α, st, b, env, R, E, h⟩ := h
  refine te_then R E h fun α1 H1 v st1 b1 d x1 R1 E1 r1 h1 => ?_
  obtain ⟨k, rfl, h1⟩ := asB_of (tri_bind.mp h1)
  cases r1
  refine ⟨k, rfl, ?_⟩
  cases k with
  | true => exact iteT ⟨α1, st1, b1, env, R1, E1, tri_mono h1 (fun _ _ _ q => q.ext x1) fun _ _ _ _ q => q⟩
  | false => exact iteF (PostV.here R1 (.bl _) (PostV.ext x1 h1))
theorem pe_orI {r : List Expr} (ha : PE X e1 (te X.K RX W C ia)) (hb : PE X (.BoolOp .Or (e2 :: r) pos) (te X.K RX W C ib)) : PE X (.BoolOp .Or (e1 :: e2 :: r) pos) (te X.K RX W C (.or ia ib)) := by
  refine PE.imp (pe_or ha hb) fun σ H Q h => ?_
  obtain ⟨α, st, b, env, R, E, h⟩ := h
  refine te_then R E h fun α1 H1 v st1 b1 d x1 R1 E1 r1 h1 => ?_
  obtain ⟨k, rfl, h1⟩ := asB_of (tri_bind.mp h1)
  cases r1
  refine ⟨k, rfl, ?_⟩
  cases k with
  | true => exact iteT (PostV.here R1 (.bl _) (PostV.ext x1 h1))
  | false => exact iteF ⟨α1, st1, b1, env, R1, E1, tri_mono h1 (fun _ _ _ q => q.ext x1) fun _ _ _ _ q => q⟩
theorem pe_notI (ha : PE X e1 (te X.K RX W C ia)) : PE X (.UnaryOp .Not e1 pos) (te X.K RX W C (.not ia)) := by
  refine PE.imp (pe_notT ha) fun σ H Q h => ?_
  obtain ⟨α, st, b, env, R, E, h⟩ := h
  refine te_then R E h fun α1 H1 v st1 b1 d x1 R1 E1 r1 h1 => ?_
  obtain ⟨k, q1, q2⟩ := truth_ok R1 r1 (Q := fun k H2 => H2 = H1 → Q (.bl (!k)) H1) (tri_mono (tri_bind.mp h1) (fun b2 p _ q α2 H2 x2 R2 e => by
    subst e
    exact PostV.here R2 (.bl _) (PostV.ext (x1.trans x2) q)) fun _ _ _ _ q => q)
  exact ⟨k, q1, q2 rfl⟩
/-- tests of and, or, not -/
theorem tt_asB {ia : IE} {env : Evr} : True := trivial
theorem pt_notI (ha : PT X e1 (tt X.K RX W C ia)) : PT X (.UnaryOp .Not e1 pos) (tt X.K RX W C (.not ia)) := by
  refine PT.imp (pt_not ha) fun σ H Q h => ?_
  obtain ⟨α, st, b, env, R, E, h⟩ := h
  unfold ev at h
  rw [mbind_assoc] at h
  refine ⟨α, st, b, env, R, E, ?_⟩
  refine tri_bind.mpr (tri_mono (tri_bind.mp h) (fun b1 p _ h1 => ?_) fun _ _ _ _ q => q)
  exact tri_mono (tri_bind.mp (tri_bind.mp h1)) (fun b2 p2 _ h2 => h2) fun _ _ _ _ q => q
/-- the value of an and, an or, as a test: its first part is a bool -/
theorem pw_andI {r : List Expr} (ha : PT X e1 (tt X.K RX W C ia)) (hb : PW X (.BoolOp .And (e2 :: r) pos) (tt X.K RX W C ib)) : PW X (.BoolOp .And (e1 :: e2 :: r) pos) (tt X.K RX W C (.and ia ib)) := by
  refine ⟨fun wh pins s σ H Q I h => (pw_and ha hb).run wh pins s σ H Q I ?_⟩
  obtain ⟨α, st, b, env, R, E, h⟩ := h
  unfold ev at h
  rw [mbind_assoc] at h
  refine ⟨α, st, b, env, R, E, tri_bind.mpr (tri_mono (tri_bind.mp h) (fun b1 p _ h1 => ?_) fun _ _ _ _ q => q)⟩
  obtain ⟨d, st1⟩ := p
  have h1 := tri_bind.mp h1
  obtain ⟨k, rfl, h2⟩ := asB_of (tri_bind.mp h1)
  show Tri (T.ret (k, st1)) b1 _ _
  intro α1 H1 x1 R1
  cases k with
  | true => exact iteT ⟨α1, st1, b1, env, R1, E.ext x1, tri_bind.mpr (tri_mono h2 (fun _ _ _ q => tri_mono q (fun _ _ _ q => q.ext x1) fun _ _ _ _ q => q.ext x1) fun _ _ _ _ q => q.ext x1)⟩
  | false => exact iteF (h2 α1 H1 x1 R1)
theorem pw_orI {r : List Expr} (ha : PT X e1 (tt X.K RX W C ia)) (hb : PW X (.BoolOp .Or (e2 :: r) pos) (tt X.K RX W C ib)) : PW X (.BoolOp .Or (e1 :: e2 :: r) pos) (tt X.K RX W C (.or ia ib)) := by
  refine ⟨fun wh pins s σ H Q I h => (pw_or ha hb).run wh pins s σ H Q I ?_⟩
  obtain ⟨α, st, b, env, R, E, h⟩ := h
  unfold ev at h
  rw [mbind_assoc] at h
  refine ⟨α, st, b, env, R, E, tri_bind.mpr (tri_mono (tri_bind.mp h) (fun b1 p _ h1 => ?_) fun _ _ _ _ q => q)⟩
  obtain ⟨d, st1⟩ := p
  have h1 := tri_bind.mp h1
  obtain ⟨k, rfl, h2⟩ := asB_of (tri_bind.mp h1)
  show Tri (T.ret (k, st1)) b1 _ _
  intro α1 H1 x1 R1
  cases k with
  | true => exact iteT (h2 α1 H1 x1 R1)
  | false => exact iteF ⟨α1, st1, b1, env, R1, E.ext x1, tri_bind.mpr (tri_mono h2 (fun _ _ _ q => tri_mono q (fun _ _ _ q => q.ext x1) fun _ _ _ _ q => q.ext x1) fun _ _ _ _ q => q.ext x1)⟩
theorem pw1 {op : BoolOp} (ha : PT X e1 (tt X.K RX W C ia)) : PW X (.BoolOp op [e1] pos) (tt X.K RX W C ia) := by
  cases op with
  | And => exact pw_and1 ha
  | Or => exact pw_or1 ha
theorem pt_chainI {o1 o2 : CmpOp} (hu : X.A.units + 64 < cLine) (ha : PE X e1 (te X.K RX W C ia)) (hb : PE X e2 (te X.K RX W C ib)) (hc : PE X e3 (te X.K RX W C ic)) (hm : lastMarks [o1, o2] [e2, e3] = false) :
    PT X (.Compare e1 [o1, o2] [e2, e3] pos) (tt X.K RX W C (.chain o1 o2 ia ib ic)) := by
  refine PT.imp (pt_chain (op_cmp hu) (op_cmp hu) ha hb hc hm) fun σ H Q h => ?_
  obtain ⟨α, st, b, env, R, E, h⟩ := h
  unfold ev at h
  rw [mbind_assoc] at h
  refine te_then R E h fun α1 H1 v st1 b1 d x1 R1 E1 r1 h1 => ?_
  rw [mbind_assoc] at h1
  refine te_then R1 E1 h1 fun α2 H2 u st2 b2 e x2 R2 E2 r2 h2 => ?_
  rw [mbind_assoc] at h2
  refine ⟨α2, st2, b2, d, e, R2, r1.ext x2, r2, _, tri_mB.mpr (tri_mono (tri_bind.mp h2) (fun b3 p _ h3 α3 H3 v3 x3 R3 r3 => ?_) fun _ _ _ _ q => q)⟩
  obtain ⟨k, st3⟩ := p
  cases r3
  refine ⟨k, rfl, ?_⟩
  cases k with
  | false => exact iteF ⟨_, rfl, (PostC.ext ((x1.trans x2).trans x3) h3) α3 H3 (.refl _ _) R3⟩
  | true =>
    have h3 : Tri ((mbind (mbind (ev C ic env) fun z => mbind (cmpD o2 e z) fun k => mret (.bl k)) truthD) st3) b3 _ _ := h3
    rw [mbind_assoc] at h3
    refine iteT (te_then R3 (E2.ext x3) (tri_mono h3 (fun _ _ _ q => q) fun _ _ _ _ q => q.ext x3) fun α4 H4 w st4 b4 f x4 R4 E4 r4 h4 => ?_)
    refine ⟨α4, st4, b4, e, f, R4, (r2.ext x3).ext x4, r4, _, tri_mB.mpr (tri_mono (tri_mB.mp (tri_bind.mp h4)) (fun b5 p _ h5 α5 H5 v5 x5 R5 r5 => ?_) fun _ _ _ _ q => q)⟩
    cases r5
    exact ⟨_, rfl, (PostC.ext ((((x1.trans x2).trans x3).trans x4).trans x5) h5) α5 H5 (.refl _ _) R5⟩
theorem pe_iteI (hc : PT X e1 (tt X.K RX W C ia)) (ha : PE X e2 (te X.K RX W C ib)) (hb : PE X e3 (te X.K RX W C ic)) : PE X (.IfExp e1 e2 e3 pos) (te X.K RX W C (.ite ia ib ic)) := by
  refine PE.imp (pe_ifExp hc ha hb) fun σ H Q h => ?_
  obtain ⟨α, st, b, env, R, E, h⟩ := h
  have h : Tri ((mbind (ev C ia env) fun x => mbind (truthD x) fun k => match k with | true => ev C ib env | false => ev C ic env) st) b _ _ := h
  rw [← mbind_assoc] at h
  refine tt_then R E h fun α1 H1 st1 b1 k x1 R1 E1 h1 => ?_
  cases k with
  | true => exact iteT ⟨α1, st1, b1, env, R1, E1, tri_mono h1 (fun _ _ _ q => q.ext x1) fun _ _ _ _ q => q⟩
  | false => exact iteF ⟨α1, st1, b1, env, R1, E1, tri_mono h1 (fun _ _ _ q => q.ext x1) fun _ _ _ _ q => q⟩
theorem pe_ixI (ha : PE X e1 (te X.K RX W C ia)) (hb : PE X e2 (te X.K RX W C ib)) (hp : plainE e2 = true) : PE X (.Subscript e1 e2 pos) (te X.K RX W C (.ix ia ib)) := by
  refine PE.imp (pe_ix ix_ok ha hb (ix_plain hp)) fun σ H Q h => ?_
  obtain ⟨α, st, b, env, R, E, h⟩ := h
  refine te_then R E h fun α1 H1 v st1 b1 d x1 R1 E1 r1 h1 => ?_
  refine te_then R1 E1 h1 fun α2 H2 u st2 b2 e x2 R2 E2 r2 h2 => ?_
  exact ⟨α2, st2, b2, d, e, R2, r1.ext x2, r2, _, tri_mono h2 (fun _ _ _ q => q.ext (x1.trans x2)) fun _ _ _ _ q => q⟩
variable {lo hi : IO} {l u : Option Expr} {p2 : Pos}
theorem pe_sliceI (ha : PE X e1 (te X.K RX W C ia)) (hl : PO X l (to X.K RX W C lo)) (hh : PO X u (to X.K RX W C hi)) : PE X (.Subscript e1 (.Slice l u none p2) pos) (te X.K RX W C (.slice ia lo hi)) := by
  refine PE.imp (pe_slice sl_ok ha hl hh) fun σ H Q h => ?_
  obtain ⟨α, st, b, env, R, E, h⟩ := h
  refine te_then R E h fun α1 H1 v st1 b1 d x1 R1 E1 r1 h1 => ?_
  refine to_then R1 E1 h1 fun α2 H2 st2 b2 i x2 R2 E2 h2 => ?_
  refine to_then R2 E2 h2 fun α3 H3 st3 b3 j x3 R3 E3 h3 => ?_
  exact ⟨α3, st3, b3, d, R3, (r1.ext x2).ext x3, _, tri_mono h3 (fun _ _ _ q => q.ext ((x1.trans x2).trans x3)) fun _ _ _ _ q => q⟩
theorem po_noneI : PO X none (to X.K RX W C .none) := PO.imp po_none fun σ H Q ⟨α, st, b, env, R, E, h⟩ => h α H (.refl _ _) R
theorem po_someI (ha : PE X e1 (te X.K RX W C ia)) : PO X (some e1) (to X.K RX W C (.some ia)) := by
  refine PO.imp (po_some ha) fun σ H Q h => ?_
  obtain ⟨α, st, b, env, R, E, h⟩ := h
  have h : Tri ((mbind (ev C ia env) fun x => match x with | .int i => mret (some i) | _ => mstuck) st) b (PostC X.K α H Q) (PostX X.K RX W σ α H) := h
  refine te_then R E h fun α1 H1 v st1 b1 d x1 R1 E1 r1 h1 => ?_
  cases r1 with
  | int i => exact ⟨i, rfl, (PostC.ext x1 h1) α1 H1 (.refl _ _) R1⟩
  | _ => exact h1.elim
theorem pe_revI {k : Nat} {p1 p3 p4 : Pos} (ha : PE X e1 (te X.K RX W C ia)) : PE X (.Subscript e1 (.Slice none none (some (.UnaryOp .USub (.Constant (.int 1) k p1) p3)) p4) pos) (te X.K RX W C (.rev ia)) := by
  refine PE.imp (pe_revL ha) fun σ H Q h => ?_
  obtain ⟨α, st, b, env, R, E, h⟩ := h
  refine te_then R E h fun α1 H1 v st1 b1 d x1 R1 E1 r1 h1 => ?_
  cases r1 with
  | ref hn =>
    rename_i n a
    have h1 : Tri (match st1[n]? with | some (.lst true xs) => mnew xs.reverse st1 | _ => .stuck) b1 _ _ := h1
    split at h1
    · rename_i xs e
      obtain ⟨vs, q1, q2⟩ := R1.lstW e hn
      exact ⟨a, vs, rfl, .of q1, PostV.newL R1 q2.reverse (PostV.ext x1 h1)⟩
    · exact h1.elim
  | _ => exact h1.elim

/-! ### argument lists -/
variable {es : List Expr} {is : IEs}
theorem pa_nilI : PA X [] (ta X.K RX W C .nil) := PA.imp pa_nil fun σ H Q ⟨α, st, b, env, R, E, h⟩ => h α H [] (.refl _ _) R .nil
theorem pa_consI (hp : plainE e1 = true) (ha : PE X e1 (te X.K RX W C ia)) (hr : PA X es (ta X.K RX W C is)) : PA X (e1 :: es) (ta X.K RX W C (.cons ia is)) := by
  refine PA.imp (pa_cons ha hr (star_plain hp)) fun σ H Q h => ?_
  obtain ⟨α, st, b, env, R, E, h⟩ := h
  refine te_then R E h fun α1 H1 v st1 b1 d x1 R1 E1 r1 h1 => ?_
  refine ta_then R1 E1 h1 fun α2 H2 vs st2 b2 ds x2 R2 E2 r2 h2 => ?_
  exact (PostA.ext (x1.trans x2) h2) α2 H2 _ (.refl _ _) R2 (.cons (r1.ext x2) r2)
theorem pe_tupI {k : Nat} (ha : PA X es (ta X.K RX W C is)) : PE X (.Tuple es k pos) (te X.K RX W C (.tup is)) := by
  refine PE.imp (pe_tup ha) fun σ H Q h => ?_
  obtain ⟨α, st, b, env, R, E, h⟩ := h
  refine ta_then R E h fun α1 H1 vs st1 b1 ds x1 R1 E1 r1 h1 => ?_
  obtain ⟨hc, h1⟩ := tri_mif h1
  exact ⟨by rw [← r1.length]; exact fits_le hc, PostV.newT R1 r1 (PostV.ext x1 h1)⟩
theorem pe_lstI (ha : PA X es (ta X.K RX W C is)) : PE X (.List es pos) (te X.K RX W C (.lst is)) := by
  refine PE.imp (pe_lst ha) fun σ H Q h => ?_
  obtain ⟨α, st, b, env, R, E, h⟩ := h
  refine ta_then R E h fun α1 H1 vs st1 b1 ds x1 R1 E1 r1 h1 => ?_
  obtain ⟨hc, h1⟩ := tri_mif h1
  exact ⟨by rw [← r1.length]; exact fits_le hc, PostV.newL R1 r1 (PostV.ext x1 h1)⟩
/-- a built-in function by values -/
theorem cb_read {f : Blt} {σ : L2.St} {H : Hp} {Q : VK} (h : te X.K RX W C (.blt f is) σ H Q) : tCB (rB X.K f) (ta X.K RX W C is) σ H Q := by
  obtain ⟨α, st, b, env, R, E, h⟩ := h
  refine ta_then R E h fun α1 H1 vs st1 b1 ds x1 R1 E1 r1 h1 => ?_
  exact ⟨α1, st1, b1, ds, R1, r1, _, tri_mono h1 (fun _ _ _ q => q.ext x1) fun _ _ _ _ q => q⟩
end
end DI
end
section
namespace DI
open PySem L2 PySem.Spec
open PyProof.Rows hiding St
section
variable {X : Cx} {RX : XRel} {W : WX} {F : Tab} {KW : KwTab} {mods : List (Str × String)} {k : Nat} {c : CC} {f : Str} {e e1 e2 : Expr} {es : List Expr} {is ws : IEs} {ia ib : IE} {pos p : Pos} {kws : List Keyword}
/-- the configuration at a level -/
def cfg (F : Tab) (k : Nat) : Cfg := ⟨run F k, kordT F⟩
theorem run_call {fa : Addr} {fd : FuncData} {ps : List Str} {sp : Sp} {pins : List (Addr × Obj)} {σ : L2.St} {H : Hp} {s : Shared} {Q : VK} (Fo : FnG X.prog X.w X.K X.mg X.base k fa fd ps sp) (hr : Room k X.A) (hg : X.A.guards = some []) (tk : Takes X W)
    {us0 us : List Value} {kv : List (Str × Value)} {vs : List V} (hb : BindsTo s fd ⟨us0, kv⟩ (ps.zip us)) (I : L2.Inv X pins σ H s) (r : Vals vs us) (h : sp vs H Q (fun cls d H' => W cls d σ H')) :
    wpAny (model X.prog X.w) X.A (call (.ref fa) us0 kv) (EP X pins σ Q) X.xe s := by
  refine wpAny_call (codeAny_mono (run_fnG Fo hr hg tk hb I r h) fun r s' hq => ?_)
  cases r with
  | error e => exact hq
  | ok fl =>
    cases fl with
    | ret u => exact hq
    | next => exact hq.elim
    | brk => exact hq.elim
    | cont => exact hq.elim
theorem pe_call0I (G : GX F KW mods RX k c X) (tk : Takes X W) {fn : Fn} (hF : F.lookup f = some fn) (hg : Gl X f) (hdb : (f == ("__debug__" : Str)) = false) : PE X (.Call (.Name f p) [] [] pos) (te X.K RX W (cfg F k) (.call f .nil)) := by
  obtain ⟨fa, fd, ps, hm, hk, hb, Fo, _⟩ := (G.gd.fns f fn hF).ex
  refine ⟨fun pins s σ H Q I h => ?_⟩
  obtain ⟨α, st, b, env, R, E, h⟩ := h
  refine wpAny_Call_Name_kw (ld_glob I hg hm ?_ hdb)
  refine PySem.W.callWith_K0 I.kIn hk ?_
  have h1 : spI F RX X.K k f [] H Q (fun cls d H' => W cls d σ H') := ⟨α, st, b, [], R, .nil, h⟩
  refine run_call Fo G.room G.guards tk (us := []) (vs := []) ?_ I .nil h1
  exact hb s [] I.kIn (Fo.len _ _ _ _ h1)
theorem pe_callI (G : GX F KW mods RX k c X) (tk : Takes X W) {fn : Fn} (hF : F.lookup f = some fn) (hg : Gl X f) (hdb : (f == ("__debug__" : Str)) = false) (h1 : plainE e = true) (h2 : plainEs es = true) (ha : PA X (e :: es) (ta X.K RX W (cfg F k) is)) :
    PE X (.Call (.Name f p) (e :: es) [] pos) (te X.K RX W (cfg F k) (.call f is)) := by
  obtain ⟨fa, fd, ps, hm, hk, hb, Fo, _⟩ := (G.gd.fns f fn hF).ex
  refine ⟨fun pins s σ H Q I h => ?_⟩
  obtain ⟨α, st, b, env, R, E, h⟩ := h
  have key : ta X.K RX W (cfg F k) is σ H (fun vs H1 => spI F RX X.K k f vs H1 Q (fun cls d H' => W cls d σ H')) := by
    refine ta_then R E h fun α1 H1 vs st1 b1 ds x1 R1 E1 r1 h1 => ?_
    exact ⟨α1, st1, b1, ds, R1, r1, tri_mono h1 (fun _ _ _ q => q.ext x1) fun _ _ _ _ q => q⟩
  refine wpAny_Call_Name_kw (ld_glob I hg hm ?_ hdb)
  refine PySem.W.callWith_K (h₀ := X.base) I.ok.mod.kin hk (thn (ha.run pos pins s σ H _ I key) fun us s1 ⟨vs, H1, I1, r, q⟩ => ⟨I1.kIn, ?_⟩) (star_plain h1) (back_any h2)
  refine run_call Fo G.room G.guards tk (us := us) (vs := vs) ?_ I1 r q
  have hl : us.length = ps.length := by
    rw [← r.length]
    exact Fo.len _ _ _ _ q
  have q2 := hb s1 us I1.kIn (by rw [List.append_nil]; exact hl)
  rw [List.append_nil] at q2
  exact q2

/-! ### keywords -/
theorem kw_map {env : PySem.Env} : ∀ kws : List Keyword, keywordEach kws env = kws.map fun kw => (kw.arg, eval kw.value env)
  | [] => rfl
  | ⟨nm, v, p⟩ :: r => by
    show (nm, eval v env) :: keywordEach r env = _
    rw [kw_map r]
    rfl
theorem kw_names {env : PySem.Env} {kws : List Keyword} {ks : List Str} (h : kws.map (·.arg) = ks.map some) : (backToKw pos (keywordEach kws env)).filterMap (·.1) = ks := by
  rw [kw_map]
  unfold backToKw
  rw [List.map_map, List.filterMap_map]
  have e : (fun kw : Keyword => kw.arg) = ((fun x => x.1) ∘ (fun (x : Option Str × Sem Value) => match x with | (name, t) => (name, (do let v ← t; standAt pos; pure v : Sem Value))) ∘ fun kw : Keyword => (kw.arg, eval kw.value env)) := rfl
  show kws.filterMap (fun kw => kw.arg) = ks
  have q : kws.filterMap (fun kw => kw.arg) = (kws.map (·.arg)).filterMap id := by
    rw [List.filterMap_map]
    rfl
  rw [q, h, List.filterMap_map]
  show ks.filterMap (fun x => some x) = ks
  exact List.filterMap_some
theorem kw_some {env : PySem.Env} {kws : List Keyword} {ks : List Str} (h : kws.map (·.arg) = ks.map some) : (backToKw pos (keywordEach kws env)).all (·.1.isSome) = true := by
  rw [kw_map]
  unfold backToKw
  rw [List.map_map, List.all_map]
  show kws.all (fun kw => kw.arg.isSome) = true
  have q : kws.all (fun kw => kw.arg.isSome) = (kws.map (·.arg)).all Option.isSome := by
    rw [List.all_map]
    rfl
  rw [q, h, List.all_map, List.all_eq_true]
  intro x _
  rfl
theorem kw_none {env : PySem.Env} {kws : List Keyword} {ks : List Str} (h : kws.map (·.arg) = ks.map some) : (backToKw pos (keywordEach kws env)).any (·.1.isNone) = false := by
  have q := kw_some (pos := pos) (env := env) h
  rw [List.any_eq_false]
  intro x hx
  rw [List.all_eq_true] at q
  have := q x hx
  cases e : x.1 with
  | none =>
    rw [e] at this
    cases this
  | some _ => simp
theorem PK.imp {kws : List Keyword} {t t' : TA} (h : PK X kws t) (i : ∀ σ H Q, t' σ H Q → t σ H Q) : PK X kws t' := ⟨fun pos pins s σ H Q I q => h.run pos pins s σ H Q I (i σ H Q q)⟩
variable {C : Cfg} {nm : Option Str} {kp : Pos}
theorem pk_nilI : PK X [] (ta X.K RX W C .nil) := PK.imp pk_nil fun σ H Q ⟨α, st, b, env, R, E, h⟩ => h α H [] (.refl _ _) R .nil
theorem pk_consI (ha : PE X e1 (te X.K RX W C ia)) (hr : PK X kws (ta X.K RX W C is)) : PK X (⟨nm, e1, kp⟩ :: kws) (ta X.K RX W C (.cons ia is)) := by
  refine PK.imp (pk_cons ha hr) fun σ H Q h => ?_
  obtain ⟨α, st, b, env, R, E, h⟩ := h
  refine te_then R E h fun α1 H1 v st1 b1 d x1 R1 E1 r1 h1 => ?_
  refine ta_then R1 E1 h1 fun α2 H2 vs st2 b2 ds x2 R2 E2 r2 h2 => ?_
  exact (PostA.ext (x1.trans x2) h2) α2 H2 _ (.refl _ _) R2 (.cons (r1.ext x2) r2)
theorem pick_rel {K : PySem.W.Frag} {α : List Addr} {H : Hp} {ds : List D} {vs : List V} (r : RDs K α H ds vs) : ∀ {o : List Nat} {zs : List D}, pickD ds o = some zs → ∃ ys, pickV vs o = some ys ∧ RDs K α H zs ys
  | [], _, h => by
    cases h
    exact ⟨[], rfl, .nil⟩
  | i :: o, _, h => by
    unfold pickD at h
    split at h
    · rename_i x xs e1 e2
      cases h
      obtain ⟨v, q1, q2⟩ := r.get e1
      obtain ⟨ys, q3, q4⟩ := pick_rel r e2
      refine ⟨v :: ys, ?_, .cons q2 q4⟩
      unfold pickV
      rw [q1, q3]
    · cases h
theorem pick_vals {vs : List V} {us : List Value} (r : Vals vs us) : ∀ {o : List Nat} {zs : List V}, pickV vs o = some zs → ∃ ys, pickV us o = some ys ∧ Vals zs ys
  | [], _, h => by
    cases h
    exact ⟨[], rfl, .nil⟩
  | i :: o, _, h => by
    unfold pickV at h
    split at h
    · rename_i x xs e1 e2
      cases h
      obtain ⟨v, q1, q2⟩ := r.get e1
      obtain ⟨ys, q3, q4⟩ := pick_vals r e2
      refine ⟨v :: ys, ?_, .cons q2 q4⟩
      unfold pickV
      rw [q1, q3]
    · cases h
theorem kwBody (G : GX F KW mods RX k c X) (tk : Takes X W) {fa : Addr} {fd : FuncData} {ps : List Str} (Fo : FnG X.prog X.w X.K X.mg X.base k fa fd ps (spI F RX X.K k f)) {n : Nat} {ks : List Str} {o : List Nat} (ho : kordT F f n ks = some o)
    (hkw : KwOk fd ps n ks o) {α1 : List Addr} {H : Hp} {st1 : Store} {b1 : Nat} {ds es : List D} {vs zs : List V} {us ws : List Value} {pins : List (Addr × Obj)} {σ : L2.St} {s : Shared} {Q : VK} (R : Rel X.K α1 H st1 b1) (r1 : RDs X.K α1 H ds vs) (r2 : RDs X.K α1 H es zs)
    (hn : ds.length = n) (hk : es.length = ks.length) (rv : Vals vs us) (rz : Vals zs ws) (I : L2.Inv X pins σ H s)
    (h : Tri ((match (cfg F k).kord f ds.length ks with | some o => (match pickD (ds ++ es) o with | some zs => (cfg F k).call f zs | none => mstuck) | none => mstuck) st1) b1 (PostV X.K α1 H Q) (PostX X.K RX W σ α1 H)) :
    wpAny (model X.prog X.w) X.A (call (.ref fa) us (ks.zip ws)) (EP X pins σ Q) X.xe s := by
  have e : (cfg F k).kord f ds.length ks = some o := by
    rw [hn]
    exact ho
  rw [e] at h
  have h : Tri ((match pickD (ds ++ es) o with | some zs => (cfg F k).call f zs | none => mstuck) st1) b1 (PostV X.K α1 H Q) (PostX X.K RX W σ α1 H) := h
  cases e2 : pickD (ds ++ es) o with
  | none =>
    rw [e2] at h
    exact h.elim
  | some ys =>
    rw [e2] at h
    obtain ⟨y2, q1, q2⟩ := pick_rel (r1.append r2) e2
    obtain ⟨u2, q3, q4⟩ := pick_vals (rv.append rz) q1
    obtain ⟨u3, q5, q6⟩ := hkw s us ws (by rw [← rv.length, ← r1.length, hn]) (by rw [← rz.length, ← r2.length, hk])
    rw [q3] at q5
    cases q5
    exact run_call Fo G.room G.guards tk q6 I q4 ⟨α1, st1, b1, ys, R, q2, h⟩
theorem evs_len {C : Cfg} : ∀ (is : IEs) {env : Evr} {st : Store} {b : Nat} {P : Nat → (List D × Store) → Prop} {XP : Nat → Ex → Store → Prop}, Tri (evs C is env st) b P XP → Tri (evs C is env st) b (fun b' p => P b' p ∧ p.1.length = IEs.len is) XP := by
  intro is
  induction is using IEs.rec (motive_1 := fun _ => True) (motive_3 := fun _ => True) (motive_4 := fun _ => True) with
  | nil => intro env st b P XP h; exact ⟨h, rfl⟩
  | cons e es _ ih =>
    intro env st b P XP h
    have h := tri_bind.mp h
    refine tri_bind.mpr (tri_mono h (fun b1 p _ h1 => ?_) fun _ _ _ _ q => q)
    have h1 := tri_bind.mp h1
    refine tri_bind.mpr (tri_mono (ih h1) (fun b2 q _ h2 => ⟨h2.1, by show (p.1 :: q.1).length = _; rw [List.length_cons, h2.2]; rfl⟩) fun _ _ _ _ q => q)
  | _ => trivial
theorem pe_callKI (G : GX F KW mods RX k c X) (tk : Takes X W) {fn : Fn} (hF : F.lookup f = some fn) (hg : Gl X f) (hdb : (f == ("__debug__" : Str)) = false) {ks : List Str} {o : List Nat} (hkn : kws.map (·.arg) = ks.map some) (h1 : plainE e = true) (h2 : plainEs es = true)
    (hK : (f, is.len, ks) ∈ KW) (ho : kordT F f is.len ks = some o) (hw : ws.len = ks.length) (ha : PA X (e :: es) (ta X.K RX W (cfg F k) is)) (hkw : PK X kws (ta X.K RX W (cfg F k) ws)) :
    PE X (.Call (.Name f p) (e :: es) kws pos) (te X.K RX W (cfg F k) (.callK f is ks ws)) := by
  obtain ⟨fa, fd, ps, hm, hk, hb, Fo, hkk⟩ := (G.gd.fns f fn hF).ex
  refine ⟨fun pins s σ H Q I h => ?_⟩
  obtain ⟨α, st, b, env, R, E, h⟩ := h
  refine wpAny_Call_Name_kw (ld_glob I hg hm ?_ hdb)
  have key : ta X.K RX W (cfg F k) is σ H (fun vs H1 => ta X.K RX W (cfg F k) ws σ H1 fun zs H2 => ∃ α2 st2 b2 ds ds2, Rel X.K α2 H2 st2 b2 ∧ RDs X.K α2 H2 ds vs ∧ RDs X.K α2 H2 ds2 zs ∧ ds.length = is.len ∧ ds2.length = ws.len ∧
      Tri ((match (cfg F k).kord f ds.length ks with | some o => (match pickD (ds ++ ds2) o with | some zs => (cfg F k).call f zs | none => mstuck) | none => mstuck) st2) b2 (PostV X.K α2 H2 Q) (PostX X.K RX W σ α2 H2)) := by
    have h := tri_bind.mp h
    refine ⟨α, st, b, env, R, E, tri_mono (evs_len is h) (fun b1 p _ hh α1 H1 v x1 R1 rd => ?_) fun _ _ _ _ q => q⟩
    obtain ⟨hh, l1⟩ := hh
    have hh := tri_bind.mp hh
    refine ⟨α1, p.2, b1, env, R1, E.ext x1, tri_mono (evs_len ws hh) (fun b2 p2 _ hq α2 H2 v2 x2 R2 rd2 => ?_) fun _ _ _ _ q => q.ext x1⟩
    obtain ⟨hq, l2⟩ := hq
    exact ⟨α2, p2.2, b2, p.1, p2.1, R2, rd.ext x2, rd2, l1, l2, tri_mono hq (fun _ _ _ q => q.ext (x1.trans x2)) fun _ _ _ _ q => q.ext (x1.trans x2)⟩
  refine PySem.W.callWith_KW (h₀ := X.base) I.ok.mod.kin hk (kw_some hkn) (thn (ha.run pos pins s σ H _ I key) fun us s1 ⟨vs, H1, I1, r, q⟩ => ?_) ?_ (star_plain h1)
  · refine thn (hkw.run pos pins s1 σ H1 _ I1 q) fun ws' s2 ⟨zs, H2, I2, rz, q2⟩ => ⟨I2.kIn, ?_⟩
    rw [kw_names hkn]
    obtain ⟨α2, st2, b2, ds, ds2, R2, rd, rd2, l1, l2, hq⟩ := q2
    exact kwBody G tk Fo ho (hkk _ _ hK _ ho) R2 rd rd2 l1 (by rw [l2, hw]) r rz I2 hq
  · rw [kw_none hkn, back_any (by show (plainE e && es.all plainE) = true; rw [h1]; exact h2)] <;> rfl
theorem pe_callK0I (G : GX F KW mods RX k c X) (tk : Takes X W) {fn : Fn} (hF : F.lookup f = some fn) (hg : Gl X f) (hdb : (f == ("__debug__" : Str)) = false) {ks : List Str} {o : List Nat} (hkn : kws.map (·.arg) = ks.map some)
    (hK : (f, 0, ks) ∈ KW) (ho : kordT F f 0 ks = some o) (hw : ws.len = ks.length) (hkw : PK X kws (ta X.K RX W (cfg F k) ws)) :
    PE X (.Call (.Name f p) [] kws pos) (te X.K RX W (cfg F k) (.callK f .nil ks ws)) := by
  obtain ⟨fa, fd, ps, hm, hk, hb, Fo, hkk⟩ := (G.gd.fns f fn hF).ex
  refine ⟨fun pins s σ H Q I h => ?_⟩
  obtain ⟨α, st, b, env, R, E, h⟩ := h
  refine wpAny_Call_Name_kw (ld_glob I hg hm ?_ hdb)
  have h : Tri ((mbind (evs (cfg F k) ws env) fun ys => match (cfg F k).kord f ([] : List D).length ks with | some o => (match pickD ([] ++ ys) o with | some zs => (cfg F k).call f zs | none => mstuck) | none => mstuck) st) b (PostV X.K α H Q) (PostX X.K RX W σ α H) := h
  have key : ta X.K RX W (cfg F k) ws σ H fun zs H2 => ∃ α2 st2 b2 ds2, Rel X.K α2 H2 st2 b2 ∧ RDs X.K α2 H2 ds2 zs ∧ ds2.length = ws.len ∧
      Tri ((match (cfg F k).kord f ([] : List D).length ks with | some o => (match pickD ([] ++ ds2) o with | some zs => (cfg F k).call f zs | none => mstuck) | none => mstuck) st2) b2 (PostV X.K α2 H2 Q) (PostX X.K RX W σ α2 H2) := by
    have hh := tri_bind.mp h
    refine ⟨α, st, b, env, R, E, tri_mono (evs_len ws hh) (fun b2 p2 _ hq α2 H2 v2 x2 R2 rd2 => ?_) fun _ _ _ _ q => q⟩
    obtain ⟨hq, l2⟩ := hq
    exact ⟨α2, p2.2, b2, p2.1, R2, rd2, l2, tri_mono hq (fun _ _ _ q => q.ext x2) fun _ _ _ _ q => q.ext x2⟩
  refine PySem.W.callWith_KW0 (h₀ := X.base) I.ok.mod.kin hk (kw_some hkn) (thn (hkw.run pos pins s σ H _ I key) fun ws' s2 ⟨zs, H2, I2, rz, q2⟩ => ⟨I2.kIn, ?_⟩) ?_
  · rw [kw_names hkn]
    obtain ⟨α2, st2, b2, ds2, R2, rd2, l2, hq⟩ := q2
    exact kwBody (ds := []) (vs := []) (us := []) G tk Fo ho (hkk _ _ hK _ ho) R2 .nil rd2 rfl (by rw [l2, hw]) .nil rz I2 hq
  · rw [kw_none hkn] <;> rfl
end
end DI
end
section
namespace DI
open PySem L2 PySem.Spec
open PyProof.Rows hiding St
/-! ### targets -/
def setSg : List Nat → List V → L2.St → L2.St
  | [], _, σ => σ
  | _, [], σ => σ
  | i :: is, v :: vs, σ => setSg is vs (σ.set i (some v))
def tgI (K : PySem.W.Frag) : ITg → TG
  | .name i => gName i
  | .tup ts => fun v σ H Q => ∃ a vs, v = .ref a ∧ SqT K H a vs ∧ vs.length = ts.length ∧ Q (setSg ts vs σ) H
/-- the places that a target writes -/
def tgSlots : ITg → List Nat
  | .name i => [i]
  | .tup ts => ts
/-- the target's places among the names -/
def okTgs (c : CC) : List Nat → List Expr → Bool
  | [], [] => true
  | i :: is, .Name x _ :: es => decide (c.N[i]? = some x) && stoB c x && okTgs c is es
  | _, _ => false
def okTg (c : CC) : ITg → Expr → Bool
  | .name i, .Name x _ => decide (c.N[i]? = some x) && stoB c x
  | .tup ts, .Tuple es _ _ => okTgs c ts es
  | _, _ => false
section
variable {X : Cx} {RX : XRel} {W : WX} {F : Tab} {KW : KwTab} {mods : List (Str × String)} {k : Nat} {c : CC}
theorem PG.imp {e : Expr} {t t' : TG} (h : PG X e t) (i : ∀ v σ H Q, t' v σ H Q → t v σ H Q) : PG X e t' := ⟨fun pins s σ H v u Q I r q => h.run pins s σ H v u Q I r (i v σ H Q q)⟩
theorem pg_nameI (G : GX F KW mods RX k c X) {i : Nat} {x : Str} {pos : Pos} (h1 : c.N[i]? = some x) (h2 : stoB c x = true) : PG X (.Name x pos) (gName i) := by
  obtain ⟨hl, hf⟩ := G.sto x h2
  exact pg_name G.nd (by rw [G.N]; exact h1) hl hf
theorem pgs_I (G : GX F KW mods RX k c X) : ∀ {ts : List Nat} {es : List Expr}, okTgs c ts es = true → (assignEach es X.env).length = ts.length ∧ (assignEach es X.env).findIdx? (·.1) = none ∧
    ∃ t : TGs, PGs X es t ∧ ∀ vs σ H Q, vs.length = ts.length → Q (setSg ts vs σ) H → t vs σ H Q
  | [], [], _ => ⟨rfl, rfl, gNil, pgs_nil, fun vs σ H Q hl q => by
      cases vs with
      | nil => exact ⟨rfl, q⟩
      | cons _ _ => cases hl⟩
  | i :: is, .Name x p :: es, h => by
    obtain ⟨h12, h3⟩ := Bool.and_eq_true_iff.mp (show (decide (c.N[i]? = some x) && stoB c x && okTgs c is es) = true from h)
    obtain ⟨h1, h2⟩ := Bool.and_eq_true_iff.mp h12
    obtain ⟨q1, q2, t, q3, q4⟩ := pgs_I G h3
    have e : assignEach (.Name x p :: es) X.env = (false, assign (.Name x p) X.env) :: assignEach es X.env := rfl
    refine ⟨by rw [e, List.length_cons, List.length_cons, q1], ?_, gCons (gName i) t, pgs_cons (pg_nameI G (of_decide_eq_true h1) h2) q3 rfl, fun vs σ H Q hl q => ?_⟩
    · rw [e, List.findIdx?_cons]
      show (if false = true then some 0 else _) = none
      rw [if_neg Bool.false_ne_true, q2]
      rfl
    · cases vs with
      | nil => cases hl
      | cons v vs => exact ⟨v, vs, rfl, q4 vs _ H Q (Nat.succ.inj hl) q⟩
  | [], _ :: _, h => by cases h
  | _ :: _, [], h => by cases h
  | i :: is, e :: es, h => by
    cases e with
    | Name x p =>
      obtain ⟨h12, h3⟩ := Bool.and_eq_true_iff.mp (show (decide (c.N[i]? = some x) && stoB c x && okTgs c is es) = true from h)
      obtain ⟨h1, h2⟩ := Bool.and_eq_true_iff.mp h12
      obtain ⟨q1, q2, t, q3, q4⟩ := pgs_I G h3
      have e : assignEach (.Name x p :: es) X.env = (false, assign (.Name x p) X.env) :: assignEach es X.env := rfl
      refine ⟨by rw [e, List.length_cons, List.length_cons, q1], ?_, gCons (gName i) t, pgs_cons (pg_nameI G (of_decide_eq_true h1) h2) q3 rfl, fun vs σ H Q hl q => ?_⟩
      · rw [e, List.findIdx?_cons]
        show (if false = true then some 0 else _) = none
        rw [if_neg Bool.false_ne_true, q2]
        rfl
      · cases vs with
        | nil => cases hl
        | cons v vs => exact ⟨v, vs, rfl, q4 vs _ H Q (Nat.succ.inj hl) q⟩
    | _ => cases h
theorem pg_I (G : GX F KW mods RX k c X) {tg : ITg} {e : Expr} (h : okTg c tg e = true) : PG X e (tgI X.K tg) := by
  cases tg with
  | name i =>
    cases e with
    | Name x p =>
      obtain ⟨h1, h2⟩ := Bool.and_eq_true_iff.mp (show (decide (c.N[i]? = some x) && stoB c x) = true from h)
      exact pg_nameI G (of_decide_eq_true h1) h2
    | _ => cases h
  | tup ts =>
    cases e with
    | Tuple es n p =>
      obtain ⟨q1, q2, t, q3, q4⟩ := pgs_I G (show okTgs c ts es = true from h)
      refine PG.imp (pg_tup G.calm q3 q1 q2) fun v σ H Q hq => ?_
      obtain ⟨a, vs, rfl, h1, h2, h3⟩ := hq
      exact ⟨a, vs, rfl, h1, h2, q4 vs σ H Q h2 h3⟩
    | _ => cases h
variable {K : PySem.W.Frag} {α : List Addr} {H : Hp} {b : Nat} {st : Store} {env : Evr} {σ : L2.St}
theorem setEnvs_of : ∀ {ts : List Nat} {ds : List D} {vs : List V} {env env' : Evr} {σ : L2.St}, REnv K α H env σ → RDs K α H ds vs → setEnvs ts ds env = some env' → vs.length = ts.length ∧ REnv K α H env' (setSg ts vs σ)
  | [], _, _, _, _, _, E, .nil, h => by
    cases h
    exact ⟨rfl, E⟩
  | [], _, _, _, _, _, E, .cons _ _, h => by cases h
  | i :: is, _, _, _, _, _, E, .nil, h => by cases h
  | i :: is, _, _, _, _, _, E, .cons r rs, h => by
    obtain ⟨h1, h2⟩ := setEnvs_of (E.set i r) rs h
    exact ⟨by rw [List.length_cons, List.length_cons, h1], h2⟩
/-- a target takes its value -/
theorem tgI_of {tg : ITg} {d : D} {v : V} {env' : Evr} {Q : L2.St → Hp → Prop} (E : REnv K α H env σ) (r : RD K α H d v) (h : bindTg tg d env = some env') (hq : ∀ σ', REnv K α H env' σ' → (∃ us, σ' = setSg (tgSlots tg) us σ) → Q σ' H) : tgI K tg v σ H Q := by
  cases tg with
  | name i =>
    have h : some (env.set i (some d)) = some env' := h
    cases h
    exact hq _ (E.set i r) ⟨[v], rfl⟩
  | tup ts =>
    cases r with
    | tup q rs =>
      obtain ⟨h1, h2⟩ := setEnvs_of E rs h
      exact ⟨_, _, rfl, q, h1, hq _ h2 ⟨_, rfl⟩⟩
    | _ => cases h
theorem wipe_set {σ : L2.St} {i : Nat} {v : V} : ∀ {vs : List Nat}, i ∈ vs → L2.wipe (σ.set i (some v)) vs = L2.wipe σ vs
  | [], h => by cases h
  | j :: vs, h => by
    show (L2.wipe (σ.set i (some v)) vs).set j none = (L2.wipe σ vs).set j none
    by_cases hm : i ∈ vs
    · rw [wipe_set hm]
    · have e : i = j := by
        rcases List.mem_cons.mp h with z | z
        · exact z
        · exact absurd z hm
      subst e
      clear h
      induction vs with
      | nil =>
        show (σ.set i (some v)).set i none = σ.set i none
        rw [List.set_set]
      | cons l vs ih =>
        have hl : l ≠ i := fun z => hm (by rw [z]; exact List.mem_cons_self)
        have hv : i ∉ vs := fun z => hm (List.mem_cons_of_mem _ z)
        show (((L2.wipe (σ.set i (some v)) vs).set l none).set i none) = (((L2.wipe σ vs).set l none).set i none)
        rw [List.set_comm _ _ hl, List.set_comm _ _ hl, ih hv]
theorem wipe_setSg : ∀ {ts : List Nat} {us : List V} {σ : L2.St} {vs : List Nat}, (∀ i ∈ ts, i ∈ vs) → L2.wipe (setSg ts us σ) vs = L2.wipe σ vs
  | [], _, _, _, _ => rfl
  | _ :: _, [], _, _, _ => rfl
  | i :: is, u :: us, σ, vs, h => by
    show L2.wipe (setSg is us (σ.set i (some u))) vs = _
    rw [wipe_setSg (fun j hj => h j (List.mem_cons_of_mem _ hj)), wipe_set (h i List.mem_cons_self)]
theorem wipe_idem (σ : L2.St) : ∀ vs : List Nat, L2.wipe (L2.wipe σ vs) vs = L2.wipe σ vs := by
  intro vs
  refine List.ext_getElem? fun j => ?_
  by_cases hj : j ∈ vs
  · have key : ∀ (τ : L2.St) (ws : List Nat), j ∈ ws → (L2.wipe τ ws)[j]? = if j < τ.length then some none else none := by
      intro τ ws
      induction ws with
      | nil => intro h; cases h
      | cons l ws ih =>
        intro h
        show ((L2.wipe τ ws).set l none)[j]? = _
        by_cases hl : l = j
        · subst hl
          rw [List.getElem?_set]
          simp [L2.wipe_length]
        · rw [List.getElem?_set_ne hl]
          rcases List.mem_cons.mp h with z | z
          · exact absurd z.symm hl
          · exact ih z
    rw [key _ _ hj, key _ _ hj, L2.wipe_length]
  · rw [L2.wipe_out hj]
end
end DI
end
section
namespace DI
open PySem L2 PySem.Spec
open PyProof.Rows hiding St
section
variable {X : Cx} {RX : XRel} {W : WX} {C : Cfg} {F : Tab} {KW : KwTab} {mods : List (Str × String)} {k : Nat} {c : CC} {e e1 e2 e3 : Expr} {ia ib : IE} {is : IEs} {pos p tpos : Pos} {tg : Expr}

/-! ### what is walked -/
theorem pi_seqI (ha : PE X e (te X.K RX W C ia)) : PI X tg e (ti X.K RX W C (.seq ia)) := by
  refine ⟨fun pins s σ H R I h => ?_⟩
  obtain ⟨α, st, b, env, Re, E, h⟩ := h
  have key : te X.K RX W C ia σ H (fun x H1 => ∃ a, x = .ref a ∧ (((∃ xs, SqL X.K H1 a xs) ∧ R (Itl X.K a) H1) ∨ ((∃ xs, SqT X.K H1 a xs) ∧ R (Itt X.K a) H1))) := by
    have h : Tri ((mbind (ev C ia env) fun x => fun st => match x with
      | .tup xs => .ret (Pl.tup xs, st)
      | .ref n => (match st[n]? with
        | some (.lst _ xs) => .ret (.lst n xs.length, st)
        | _ => .stuck)
      | _ => .stuck) st) b (fun b' p => ∀ α' H' J, Ext X.K α H α' H' → Rel X.K α' H' p.2 b' → PlJ X.K α' H' p.1 J → R J H') (PostX X.K RX W σ α H) := h
    refine te_then Re E h fun α1 H1 v st1 b1 d x1 R1 E1 r1 h1 => ?_
    cases r1 with
    | tup q rs => exact ⟨_, rfl, .inr ⟨⟨_, q⟩, h1 α1 H1 _ x1 R1 ⟨_, _, q, rs, rfl⟩⟩⟩
    | ref hn =>
      rename_i n a
      have h1 : Tri (match st1[n]? with | some (.lst _ xs) => T.ret (Pl.lst n xs.length, st1) | _ => .stuck) b1 _ _ := h1
      split at h1
      · rename_i w xs e1
        obtain ⟨vs, q1, q2⟩ := R1.lst e1 hn
        exact ⟨a, rfl, .inl ⟨⟨vs, q1⟩, h1 α1 H1 _ x1 R1 ⟨a, hn, rfl⟩⟩⟩
      · exact h1.elim
    | _ => exact h1.elim
  refine thn (ha.run pins s σ H _ I key) fun v s1 ⟨x, H1, I1, r1, q1⟩ => ?_
  obtain ⟨a, rfl, q1⟩ := q1
  cases r1
  have fresh := I1.hok.fresh (Nat.le_refl s1.heap.objs.size)
  have fp : ∀ b ∈ [s1.heap.objs.size], FpOk X pins H1 b := by
    intro b hb
    have e : b = s1.heap.objs.size := by simpa using hb
    subst e
    exact I1.fpOk (Nat.le_refl _) fresh
  rcases q1 with ⟨⟨xs, q⟩, hR⟩ | ⟨⟨xs, q⟩, hR⟩
  · obtain ⟨its, rv, p, hz⟩ := I1.list q
    refine wpAny_pyIter_list p.isList ⟨s1.heap.objs.size, [s1.heap.objs.size], _, _, H1, rfl, ?_, turn_list a _, ?_, fp, hR⟩
    · exact I1.kept (t' := s1.toks) fun b o e => Heap.get?_push_of_some _ e
    · exact ⟨_, Heap.get?_push_size _ rfl, rfl, rfl⟩
  · obtain ⟨its, rv, p, hz⟩ := I1.tuple q
    refine wpAny_pyIter_tuple (show s1.heap.IsTuple a its.toArray from p) ⟨s1.heap.objs.size, [s1.heap.objs.size], _, _, H1, rfl, ?_, turn_tuple a _, ?_, fp, hR⟩
    · exact I1.kept (t' := s1.toks) fun b o e => Heap.get?_push_of_some _ e
    · exact ⟨_, Heap.get?_push_size _ rfl, rfl, rfl⟩
theorem PI.imp {iter : Expr} {t t' : TI} (h : PI X tg iter t) (i : ∀ σ H R, t' σ H R → t σ H R) : PI X tg iter t' := ⟨fun pins s σ H R I q => h.run pins s σ H R I (i σ H R q)⟩
theorem pi_range1I (G : GX F KW mods RX k c X) (hg : Gl X "range") (hp : plainE e = true) (ha : PE X e (te X.K RX W C ia)) : PI X tg (.Call (.Name "range" p) [e] [] pos) (ti X.K RX W C (.range1 ia)) := by
  have hs : starEach [e] X.env = [(false, eval e X.env)] := star_plain (es := []) hp
  refine PI.imp (pi_range1 hg (G.gd.blt "range" (by decide)) (pa_consI hp ha pa_nilI) hs) fun σ H R h => ?_
  obtain ⟨α, st, b, env, Re, E, h⟩ := h
  have h : Tri ((mbind (ev C ia env) fun x => match x with
      | .int j => mif (decide (-(2 ^ 62) ≤ j) && decide (j < 2 ^ 62)) (mret (Pl.rng 0 j.toNat))
      | _ => mstuck) st) b (fun b' p => ∀ α' H' J, Ext X.K α H α' H' → Rel X.K α' H' p.2 b' → PlJ X.K α' H' p.1 J → R J H') (PostX X.K RX W σ α H) := h
  refine ⟨α, st, b, env, Re, E, tri_bind.mpr (tri_mono (tri_bind.mp h) (fun b1 p _ h1 => ?_) fun _ _ _ _ q => q)⟩
  obtain ⟨d, st1⟩ := p
  show PostA X.K α H _ b1 ([d], st1)
  intro α1 H1 vs x1 R1 rs
  cases rs with
  | cons r rs =>
    cases rs
    cases r with
    | int j =>
      obtain ⟨hc, h1⟩ := tri_mif h1
      obtain ⟨c1, c2⟩ := Bool.and_eq_true_iff.mp hc
      exact ⟨j, rfl, of_decide_eq_true c1, of_decide_eq_true c2, h1 α1 H1 _ x1 R1 rfl⟩
    | _ => exact h1.elim
theorem pi_range2I (G : GX F KW mods RX k c X) (hg : Gl X "range") (hp : plainE e1 = true) (hp2 : plainE e2 = true) (ha : PE X e1 (te X.K RX W C ia)) (hb : PE X e2 (te X.K RX W C ib)) :
    PI X tg (.Call (.Name "range" p) [e1, e2] [] pos) (ti X.K RX W C (.range2 ia ib)) := by
  have hs2 : starEach [e2] X.env = [(false, eval e2 X.env)] := star_plain (es := []) hp2
  have hs : starEach [e1, e2] X.env = [(false, eval e1 X.env), (false, eval e2 X.env)] := by
    rw [star_plain hp, hs2]
  refine PI.imp (pi_range2 hg (G.gd.blt "range" (by decide)) (pa_consI hp ha (pa_consI hp2 hb pa_nilI)) hs hs2) fun σ H R h => ?_
  obtain ⟨α, st, b, env, Re, E, h⟩ := h
  have h : Tri ((mbind (ev C ia env) fun x => mbind (ev C ib env) fun y => match x, y with
      | .int i, .int j => mif (decide (-(2 ^ 62) ≤ i) && decide (i < 2 ^ 62) && decide (-(2 ^ 62) ≤ j) && decide (j < 2 ^ 62)) (mret (Pl.rng i (j - i).toNat))
      | _, _ => mstuck) st) b (fun b' p => ∀ α' H' J, Ext X.K α H α' H' → Rel X.K α' H' p.2 b' → PlJ X.K α' H' p.1 J → R J H') (PostX X.K RX W σ α H) := h
  refine ⟨α, st, b, env, Re, E, tri_bind.mpr (tri_mono (tri_bind.mp h) (fun b1 p _ h1 => ?_) fun _ _ _ _ q => q)⟩
  obtain ⟨d, st1⟩ := p
  have h1 := tri_bind.mp h1
  refine tri_bind.mpr (tri_bind.mpr (tri_mono h1 (fun b2 p2 _ h2 => ?_) fun _ _ _ _ q => q))
  obtain ⟨d2, st2⟩ := p2
  show PostA X.K α H _ b2 ([d, d2], st2)
  intro α1 H1 vs x1 R1 rs
  cases rs with
  | cons r rs =>
    cases rs with
    | cons r2 rs =>
      cases rs
      cases r with
      | int i =>
        cases r2 with
        | int j =>
          obtain ⟨hc, h2⟩ := tri_mif h2
          obtain ⟨c1, c2⟩ := Bool.and_eq_true_iff.mp hc
          obtain ⟨c3, c4⟩ := Bool.and_eq_true_iff.mp c1
          obtain ⟨c5, c6⟩ := Bool.and_eq_true_iff.mp c3
          exact ⟨i, j, rfl, ⟨of_decide_eq_true c5, of_decide_eq_true c6, of_decide_eq_true c4, of_decide_eq_true c2⟩, h2 α1 H1 _ x1 R1 rfl⟩
        | _ => exact h2.elim
      | _ => cases r2 <;> exact h2.elim
theorem pi_zipI (G : GX F KW mods RX k c X) (hg : Gl X "zip") (hp : plainE e1 = true) (hp2 : plainE e2 = true) (ha : PE X e1 (te X.K RX W C ia)) (hb : PE X e2 (te X.K RX W C ib)) {elts : List Expr} {kk : Nat} :
    PI X (.Tuple elts kk tpos) (.Call (.Name "zip" p) [e1, e2] [] pos) (ti X.K RX W C (.zip ia ib)) := by
  have hs2 : starEach [e2] X.env = [(false, eval e2 X.env)] := star_plain (es := []) hp2
  refine PI.imp (RZ.pi_zipA hg (G.gd.blt "zip" (by decide)) (pa_consI hp ha (pa_consI hp2 hb pa_nilI)) (star_plain hp) (back_any (es := [e2]) (by show (plainE e2 && true) = true; rw [hp2] <;> rfl))) fun σ H R h => ?_
  obtain ⟨α, st, b, env, Re, E, h⟩ := h
  have h : Tri ((mbind (ev C ia env) fun x => mbind (ev C ib env) fun y => fun st => match x, y with
      | .tup xs, .tup ys => .ret (Pl.zipT xs ys, st)
      | .ref n, .ref m => (match st[n]?, st[m]? with
        | some (.lst _ xs), some (.lst _ ys) => .ret (.zipL n m xs.length ys.length, st)
        | _, _ => .stuck)
      | _, _ => .stuck) st) b (fun b' p => ∀ α' H' J, Ext X.K α H α' H' → Rel X.K α' H' p.2 b' → PlJ X.K α' H' p.1 J → R J H') (PostX X.K RX W σ α H) := h
  refine ⟨α, st, b, env, Re, E, tri_bind.mpr (tri_mono (tri_bind.mp h) (fun b1 p _ h1 => ?_) fun _ _ _ _ q => q)⟩
  obtain ⟨d, st1⟩ := p
  have h1 := tri_bind.mp h1
  refine tri_bind.mpr (tri_bind.mpr (tri_mono h1 (fun b2 p2 _ h2 => ?_) fun _ _ _ _ q => q))
  obtain ⟨d2, st2⟩ := p2
  show PostA X.K α H _ b2 ([d, d2], st2)
  intro α1 H1 vs x1 R1 rs
  cases rs with
  | cons r rs =>
    cases rs with
    | cons r2 rs =>
      cases rs
      cases r with
      | tup q1 q2 =>
        cases r2 with
        | tup q3 q4 => exact ⟨_, _, _, _, rfl, .inr ⟨q1, q3, h2 α1 H1 _ x1 R1 ⟨_, _, _, _, q1, q2, q3, q4, rfl⟩⟩⟩
        | _ => exact h2.elim
      | @ref n a hn =>
        cases r2 with
        | @ref m c hm =>
          have h2 : Tri (match st2[n]?, st2[m]? with | some (.lst _ xs), some (.lst _ ys) => T.ret (Pl.zipL n m xs.length ys.length, st2) | _, _ => .stuck) b2 _ _ := h2
          split at h2
          · rename_i w xs w' ys e1 e2
            obtain ⟨us, q1, q2⟩ := R1.lst e1 hn
            obtain ⟨ws, q3, q4⟩ := R1.lst e2 hm
            exact ⟨a, c, us, ws, rfl, .inl ⟨q1, q3, h2 α1 H1 _ x1 R1 ⟨a, c, hn, hm, rfl⟩⟩⟩
          · exact h2.elim
        | _ => exact h2.elim
      | _ => cases r2 <;> exact h2.elim
theorem pi_enumI (G : GX F KW mods RX k c X) (hg : Gl X "enumerate") (hp : plainE e = true) (ha : PE X e (te X.K RX W C ia)) {elts : List Expr} {kk : Nat} :
    PI X (.Tuple elts kk tpos) (.Call (.Name "enumerate" p) [e] [] pos) (ti X.K RX W C (.enum ia)) := by
  have hs : starEach [e] X.env = [(false, eval e X.env)] := star_plain (es := []) hp
  refine ⟨fun pins s σ H R I h => ?_⟩
  obtain ⟨α, st, b, env, Re, E, h⟩ := h
  have key : ta X.K RX W C (.cons ia .nil) σ H (fun vs H1 => ∃ a, vs = [.ref a] ∧ (((∃ xs, SqL X.K H1 a xs) ∧ R (Ite X.K a) H1) ∨ ((∃ xs, SqT X.K H1 a xs) ∧ R (IteT X.K a) H1))) := by
    have h : Tri ((mbind (ev C ia env) fun x => fun st => match x with
      | .tup xs => .ret (Pl.enumT xs, st)
      | .ref n => (match st[n]? with
        | some (.lst _ xs) => .ret (.enumL n xs.length, st)
        | _ => .stuck)
      | _ => .stuck) st) b (fun b' p => ∀ α' H' J, Ext X.K α H α' H' → Rel X.K α' H' p.2 b' → PlJ X.K α' H' p.1 J → R J H') (PostX X.K RX W σ α H) := h
    refine ⟨α, st, b, env, Re, E, tri_bind.mpr (tri_mono (tri_bind.mp h) (fun b1 p _ h1 => ?_) fun _ _ _ _ q => q)⟩
    obtain ⟨d, st1⟩ := p
    show PostA X.K α H _ b1 ([d], st1)
    intro α1 H1 vs x1 R1 rs
    cases rs with
    | cons r rs =>
      cases rs
      cases r with
      | tup q rs => exact ⟨_, rfl, .inr ⟨⟨_, q⟩, h1 α1 H1 _ x1 R1 ⟨_, _, q, rs, rfl⟩⟩⟩
      | ref hn =>
        rename_i n a
        have h1 : Tri (match st1[n]? with | some (.lst _ xs) => T.ret (Pl.enumL n xs.length, st1) | _ => .stuck) b1 _ _ := h1
        split at h1
        · rename_i w xs e1
          obtain ⟨vs, q1, q2⟩ := R1.lst e1 hn
          exact ⟨a, rfl, .inl ⟨⟨vs, q1⟩, h1 α1 H1 _ x1 R1 ⟨a, hn, rfl⟩⟩⟩
        · exact h1.elim
      | _ => exact h1.elim
  have pa : PA X [e] (ta X.K RX W C (.cons ia .nil)) := pa_consI hp ha pa_nilI
  refine Call_ (ld_blt I hg (G.gd.blt "enumerate" (by decide)) boot_enumerate (PyProof.Rows.callWith_type1 (thn (pa.run pos pins s σ H _ I key) fun us s1 ⟨vs, H1, I1, r1, q1⟩ => ?_) hs rfl))
  obtain ⟨a, rfl, q1⟩ := q1
  cases r1 with
  | cons r rr =>
    cases rr
    cases r
    have fp : ∀ b ∈ [s1.heap.objs.size + 1, s1.heap.objs.size], FpOk X pins H1 b := by
      intro b hb
      have hle : s1.heap.objs.size ≤ b := by
        have e' : b = s1.heap.objs.size + 1 ∨ b = s1.heap.objs.size := by simpa using hb
        rcases e' with z | z
        · rw [z]
          exact Nat.le_add_right _ _
        · rw [z]
          exact Nat.le_refl _
      exact I1.fpOk hle (I1.hok.fresh hle)
    rcases q1 with ⟨⟨xs, q⟩, hR⟩ | ⟨⟨xs, q⟩, hR⟩
    · obtain ⟨its, rv, p', hz⟩ := I1.list q
      refine call_enumerate_list p'.isList fun h' he hit hsz hk => wpAny_pyIter_enum he ?_
      refine ⟨s1.heap.objs.size + 1, [s1.heap.objs.size + 1, s1.heap.objs.size], _, _, H1, rfl, I1.kept (t' := s1.toks) hk, turn_enum a _ _, ?_, fp, hR⟩
      exact ⟨⟨.none, he⟩, hit, Nat.succ_ne_self _⟩
    · obtain ⟨its, rv, p', hz⟩ := I1.tuple q
      refine call_enum1 (begins_tuple a its.toArray) (show s1.heap.IsTuple a its.toArray from p') fun h' he hit hsz hk => wpAny_pyIter_enum he ?_
      refine ⟨s1.heap.objs.size + 1, [s1.heap.objs.size + 1, s1.heap.objs.size], _, _, H1, rfl, I1.kept (t' := s1.toks) hk, turn_enumT a _ _, ?_, fp, hR⟩
      exact ⟨⟨.none, he⟩, ⟨_, hit, rfl, rfl⟩, Nat.succ_ne_self _⟩

/-! ### comprehensions -/
def WF : WX := fun _ _ _ _ => False
/-- a comprehension's test -/
def tcI (K : PySem.W.Frag) (RX : XRel) (C : Cfg) (o : IO) : TT := fun σ H Q => ∃ α st b env, Rel K α H st b ∧ REnv K α H env σ ∧ Tri (evC C o env st) b (PostC K α H Q) (PostX K RX WF σ α H)
theorem pts_noneI : PTs X [] (tcI X.K RX C .none) := ⟨fun s pins σ H Q I h => by
  obtain ⟨α, st, b, env, R, E, h⟩ := h
  exact pts_nil.run s pins σ H Q I (h α H (.refl _ _) R)⟩
theorem pts_someI (h : PT X e (tt X.K RX WF C ia)) : PTs X [e] (tcI X.K RX C (.some ia)) := pts_one h
theorem pe_lcI {elt iter : Expr} {ifs : List Expr} {scope : Scope} {own : List (Str × Nat)} {tgi : ITg} {it : IIt} {cn : IO} (G : GX F KW mods RX k c X) (ok : BlkOk X.N X.env.scope scope own) (hown : ∀ i ∈ tgSlots tgi, i ∈ own.map (·.2))
    (hi : PI X tg iter (ti X.K RX W C it)) (hg : ∀ (s : Shared) (H : Hp) (C' : Addr) (cl : List (Str × Addr)) (fp : List Addr), PG (X.blk s H scope (compEnvC scope cl C' X.env) fp) tg (tgI X.K tgi))
    (ht : ∀ (s : Shared) (H : Hp) (C' : Addr) (cl : List (Str × Addr)) (fp : List Addr), PTs (X.blk s H scope (compEnvC scope cl C' X.env) fp) ifs (tcI X.K RX C cn))
    (he : ∀ (s : Shared) (H : Hp) (C' : Addr) (cl : List (Str × Addr)) (fp : List Addr), PE (X.blk s H scope (compEnvC scope cl C' X.env) fp) elt (te X.K RX WF C ia)) (hp : plainE iter = true) :
    PE X (.ListComp elt [⟨tg, iter, ifs, 0⟩] scope pos) (tLc (ti X.K RX W C it) (tgI X.K tgi) (tcI X.K RX C cn) (te X.K RX WF C ia) (own.map (·.2))) :=
  pe_lc G.calm G.nd hi ok hg ht he (folded_plain hp)
/-- what a turn of a comprehension does -/
def lcTurn (C : Cfg) (tgi : ITg) (cn : IO) (ia : IE) (vs : List Nat) (env : Evr) : D → M (Option D) := fun x => match bindTg tgi x (wipeE env vs) with
  | none => mstuck
  | some env' => mbind (evC C cn env') fun k => match k with
    | false => mret none
    | true => mbind (ev C ia env') fun y => mret (some y)
theorem lc_read {own : List (Str × Nat)} {tgi : ITg} {it : IIt} {cn : IO} {K : PySem.W.Frag} (hown : ∀ i ∈ tgSlots tgi, i ∈ own.map (·.2)) {σ : L2.St} {H : Hp} {Q : VK} (h : te K RX W C (.lc own tgi it cn ia) σ H Q) :
    tLc (ti K RX W C it) (tgI K tgi) (tcI K RX C cn) (te K RX WF C ia) (own.map (·.2)) σ H Q := by
  obtain ⟨α, st, b, env, Re, E, h⟩ := h
  have h : Tri ((mbind (evIt C it env) fun pl => fun st => (lcLoop (lcTurn C tgi cn ia (own.map (·.2)) env) pl st.length (plLen pl) 0 (st ++ [.lst true []])).bind fun p => .ret (D.ref st.length, p.2)) st) b (PostV K α H Q) (PostX K RX W σ α H) := h
  refine ti_then Re E h fun α1 H1 st1 b1 pl J x1 R1 E1 pj h1 => ?_
  intro Da hD
  have h1 := tri_bind.mp h1
  clear h
  have hD0 : (α1 ++ [Da])[st1.length]? = some Da := R1.last
  refine ⟨fun i m H2 => ∃ α2 st2 b2, Ext K (α1 ++ [Da]) (upd H1 Da (.lst [])) α2 H2 ∧ Rel K α2 H2 st2 b2 ∧ i + m = plLen pl ∧
    Tri (lcLoop (lcTurn C tgi cn ia (own.map (·.2)) env) pl st1.length m i st2) b2 (fun b' p => PostV K α H Q b' (D.ref st1.length, p.2)) (PostX K RX W σ α1 H1),
    ⟨plLen pl, α1 ++ [Da], _, b1, .refl _ _, R1.newL hD .nil, by omega, h1⟩, ?_⟩
  rintro i m H2 ⟨α2, st2, b2, x2, R2, him, h2⟩
  have xD : Ext K α1 H1 (α1 ++ [Da]) (upd H1 Da (.lst [])) := ext_newA hD
  have x12 : Ext K α1 H1 α2 H2 := xD.trans x2
  have pj2 := pj.ext x12
  have hD2 : α2[st1.length]? = some Da := x2.pre _ _ hD0
  cases m with
  | zero =>
    obtain ⟨hc, h2⟩ := tri_mif h2
    have hi : i = plLen pl := by omega
    refine .inl ⟨plJ_stop R2 pj2 hc hi, ?_⟩
    exact h2 α2 H2 _ (x1.trans x12) R2 (.ref hD2)
  | succ m =>
    have h2 : Tri (match plItem st2 pl i with
      | none => T.stuck
      | some x => (lcTurn C tgi cn ia (own.map (·.2)) env x st2).nox.bind fun p => match p.1 with
        | none => lcLoop (lcTurn C tgi cn ia (own.map (·.2)) env) pl st1.length m (i + 1) p.2
        | some y => match p.2[st1.length]? with
          | some (.lst true xs) => (match fits (xs.length + 1) with
            | true => lcLoop (lcTurn C tgi cn ia (own.map (·.2)) env) pl st1.length m (i + 1) (p.2.set st1.length (.lst true (xs ++ [y])))
            | false => .stuck)
          | _ => .stuck) b2 _ _ := h2
    cases ex : plItem st2 pl i with
    | none =>
      rw [ex] at h2
      exact h2.elim
    | some x =>
      rw [ex] at h2
      have h2 := tri_bind.mp h2
      obtain ⟨go, gv⟩ := plJ_go R2 pj2 ex
      refine .inr ⟨go, fun H3 => ∃ m', m' < m + 1 ∧ ∃ α2 st2 b2, Ext K (α1 ++ [Da]) (upd H1 Da (.lst [])) α2 H3 ∧ Rel K α2 H3 st2 b2 ∧ (i + 1) + m' = plLen pl ∧
        Tri (lcLoop (lcTurn C tgi cn ia (own.map (·.2)) env) pl st1.length m' (i + 1) st2) b2 (fun b' p => PostV K α H Q b' (D.ref st1.length, p.2)) (PostX K RX W σ α1 H1), fun H3 q => q, fun v H3 hy => ?_⟩
      obtain ⟨x3, R3, r3⟩ := gv v H3 hy
      have h3 : Tri (lcTurn C tgi cn ia (own.map (·.2)) env x st2) b2 _ (PostX K RX WF σ α1 H1) := tri_nox h2
      unfold lcTurn at h3
      cases eb : bindTg tgi x (wipeE env (own.map (·.2))) with
      | none =>
        rw [eb] at h3
        exact h3.elim
      | some env' =>
        rw [eb] at h3
        have h3 := tri_bind.mp h3
        have E3 : REnv K α2 H3 (wipeE env (own.map (·.2))) (L2.wipe σ (own.map (·.2))) := ((E1.ext x12).ext x3).wipe _
        refine tgI_of E3 r3 eb fun σ' E4 hs => ?_
        obtain ⟨us, rfl⟩ := hs
        refine ⟨by rw [wipe_setSg hown, wipe_idem], α2, st2, b2, env', R3, E4, tri_mono h3 (fun b4 p _ h4 α4 H4 x4 R4 => ?_) fun _ _ _ _ q => ?_⟩
        · obtain ⟨kk, st4⟩ := p
          cases kk with
          | false =>
            refine iteF ⟨m, Nat.lt_succ_self _, α4, st4, b4, (x2.trans x3).trans x4, R4, by omega, ?_⟩
            exact h4
          | true =>
            have h4 := tri_bind.mp h4
            refine iteT ⟨α4, st4, b4, env', R4, E4.ext x4, tri_mono h4 (fun b5 p _ h5 α5 H5 y x5 R5 r5 => ?_) fun _ _ _ _ q => ?_⟩
            · obtain ⟨yd, st5⟩ := p
              have hD5 : α5[st1.length]? = some Da := x5.pre _ _ (x4.pre _ _ hD2)
              have h5 : Tri (match st5[st1.length]? with
                | some (.lst true xs) => (match fits (xs.length + 1) with
                  | true => lcLoop (lcTurn C tgi cn ia (own.map (·.2)) env) pl st1.length m (i + 1) (st5.set st1.length (.lst true (xs ++ [yd])))
                  | false => T.stuck)
                | _ => T.stuck) b5 (fun b' p => PostV K α H Q b' (D.ref st1.length, p.2)) (PostX K RX W σ α1 H1) := h5
              split at h5
              · rename_i xs e5
                split at h5
                · rename_i hf
                  obtain ⟨acc, q1, q2⟩ := R5.lstW e5 hD5
                  refine ⟨acc, q1, by rw [← q2.length]; exact fits_lt hf, m, Nat.lt_succ_self _, α5, _, b5, (((x2.trans x3).trans x4).trans x5).trans (ext_upd q1), R5.setL e5 hD5 (q2.append (.cons r5 .nil)), by omega, h5⟩
                · exact h5.elim
              · exact h5.elim
            · intro a1 H' cls d e R' rx
              exact q a1 H' cls d ((((x12.trans x3).trans x4).trans (.refl _ _)).trans e) R' rx
        · intro a1 H' cls d e R' rx
          exact q a1 H' cls d ((x12.trans x3).trans e) R' rx
end
end DI
end
section
namespace DI
open PySem L2 PySem.Spec
open PyProof.Rows hiding St
/-! ### isinstance of built-in types -/
def tyNames : List String := ["int", "bool", "str", "list", "tuple"]
theorem kit_all : ∀ a ∈ ["NoneType", "bool", "int", "str", "tuple", "list"], ∀ t ∈ tyNames, kitB a t = some (isTy a t) := by decide +kernel
theorem boot_all : ∀ t ∈ tyNames, bootBuiltins (Str.ofString t) = some (.type t) ∧ Str.ofString t ≠ "__name__" ∧ (Str.ofString t == ("__debug__" : Str)) = false := by decide +kernel
theorem names_all : ∀ t ∈ tyNames, Str.ofString t ∈ bltNames := by decide +kernel
/-- the types that a class argument names -/
def okTy (c : CC) (t : String) : Expr → Bool
  | .Name x _ => decide (x = Str.ofString t) && glB c x && tyNames.contains t
  | _ => false
def okTys (c : CC) : List String → List Expr → Bool
  | [], [] => true
  | t :: ts, e :: es => okTy c t e && okTys c ts es
  | _, _ => false
section
variable {X : Cx} {RX : XRel} {W : WX} {C : Cfg} {F : Tab} {KW : KwTab} {mods : List (Str × String)} {k : Nat} {c : CC} {e e1 e2 e3 : Expr} {ia ib : IE} {is : IEs} {pos p tpos : Pos} {tg : Expr}
theorem ty_of {K : PySem.W.Frag} {α : List Addr} {H : Hp} {st : Store} {b : Nat} {d : D} {v : V} {a : String} (R : Rel K α H st b) (r : RD K α H d v) (h : tyD st d = some a) : TyX K H v (.type a) ∧ a ∈ ["NoneType", "bool", "int", "str", "tuple", "list"] := by
  cases r with
  | non => cases h; exact ⟨.base .non, by decide⟩
  | bl _ => cases h; exact ⟨.base (.bl _), by decide⟩
  | int _ => cases h; exact ⟨.base (.int _), by decide⟩
  | str _ => cases h; exact ⟨.base (.str _), by decide⟩
  | tup q rs =>
    cases h
    refine ⟨?_, by decide⟩
    rcases q with (q | ⟨o, q⟩) | ⟨o, its, n, h1, h2, _⟩
    · exact .base (.tup q)
    · exact .fTuple q
    · exact .kTuple h1 h2
  | @ref n a hn =>
    have h : (match st[n]? with | some (.lst _ _) => some "list" | _ => none) = some _ := h
    split at h
    · rename_i w xs e
      cases h
      refine ⟨?_, by decide⟩
      obtain ⟨vs, q, _⟩ := R.lst e hn
      rcases q with (q | ⟨o, q⟩) | ⟨o, its, n, h1, h2, _⟩
      · exact .base (.lst q)
      · exact .base (.frz q)
      · exact .kList h1 h2
    · cases h
theorem pe_ty (G : GX F KW mods RX k c X) {t : String} {e : Expr} (h : okTy c t e = true) : PE X e (tC (.ty t)) ∧ plainE e = true := by
  cases e with
  | Name x q =>
    obtain ⟨h12, h3⟩ := Bool.and_eq_true_iff.mp (show (decide (x = Str.ofString t) && glB c x && tyNames.contains t) = true from h)
    obtain ⟨h1, h2⟩ := Bool.and_eq_true_iff.mp h12
    have h1 := of_decide_eq_true h1
    subst h1
    have hm : t ∈ tyNames := List.contains_iff_mem.mp h3
    obtain ⟨b1, b2, b3⟩ := boot_all t hm
    exact ⟨pe_bltn (G.gl h2) (G.gd.blt _ (names_all t hm)) b1 rfl b2 b3, rfl⟩
  | _ => cases h
def tyArgs : List String → TA
  | [] => tNil
  | t :: ts => tCons (tC (.ty t)) (tyArgs ts)
theorem pa_tys (G : GX F KW mods RX k c X) : ∀ {ts : List String} {es : List Expr}, okTys c ts es = true → PA X es (tyArgs ts) ∧ plainEs es = true
  | [], [], _ => ⟨pa_nil, rfl⟩
  | [], _ :: _, h => by cases h
  | _ :: _, [], h => by cases h
  | t :: ts, e :: es, h => by
    obtain ⟨h1, h2⟩ := Bool.and_eq_true_iff.mp (show (okTy c t e && okTys c ts es) = true from h)
    obtain ⟨q1, q2⟩ := pe_ty G h1
    obtain ⟨q3, q4⟩ := pa_tys G h2
    exact ⟨pa_cons q1 q3 (star_plain q2), by show (plainE e && es.all plainE) = true; rw [q2]; exact q4⟩
theorem tyArgs_run : ∀ {ts : List String} {σ : L2.St} {H : Hp} {Q : List V → Hp → Prop}, Q (ts.map V.ty) H → tyArgs ts σ H Q
  | [], _, _, _, q => q
  | t :: ts, σ, H, Q, q => tyArgs_run (ts := ts) (Q := fun xs H2 => Q (V.ty t :: xs) H2) q
theorem okTys_mem : ∀ {ts : List String} {es : List Expr} {c : CC}, okTys c ts es = true → ∀ t ∈ ts, t ∈ tyNames
  | [], _, _, _, t, ht => by cases ht
  | _ :: _, [], _, h, _, _ => by cases h
  | t :: ts, e :: es, c, h, u, hu => by
    obtain ⟨h1, h2⟩ := Bool.and_eq_true_iff.mp (show (okTy c t e && okTys c ts es) = true from h)
    rcases List.mem_cons.mp hu with rfl | hu
    · cases e with
      | Name x q =>
        obtain ⟨_, h3⟩ := Bool.and_eq_true_iff.mp (show (decide (x = Str.ofString u) && glB c x && tyNames.contains u) = true from h1)
        exact List.contains_iff_mem.mp h3
      | _ => cases h1
    · exact okTys_mem h2 u hu
theorem kit_any {K : PySem.W.Frag} {a : String} (ha : a ∈ ["NoneType", "bool", "int", "str", "tuple", "list"]) : ∀ {ts : List String}, (∀ t ∈ ts, t ∈ tyNames) → PySem.W.kitAny K (.type a) (ts.map Value.type) = some (ts.any (isTy a))
  | [], _ => kitAny_nil
  | t :: ts, h => by
    refine kitAny_cons (kit_ty (kit_all a ha t (h t List.mem_cons_self))) (fun e => ?_) fun e => ?_
    · rw [kit_any ha fun u hu => h u (List.mem_cons_of_mem _ hu), List.any_cons, e] <;> rfl
    · rw [List.any_cons, e] <;> rfl
theorem paired_ty : ∀ ts : List String, Paired ClsV (ts.map V.ty) (ts.map Value.type)
  | [] => .nil
  | t :: ts => .cons (.ty t) (paired_ty ts)
theorem pe_isiT (G : GX F KW mods RX k c X) (hg : Gl X "isinstance") {ts : List String} {es : List Expr} {kk : Nat} (h : okTys c ts es = true) (hp : plainE e = true) (hf : fits ts.length = true) (ha : PE X e (te X.K RX W C ia)) :
    PE X (.Call (.Name "isinstance" p) [e, .Tuple es kk tpos] [] pos) (te X.K RX W C (.isi ia ts)) := by
  obtain ⟨q1, q2⟩ := pa_tys G h
  have q3 : PE X (.Tuple es kk tpos) (tTup (tyArgs ts)) := pe_tup q1
  refine PE.imp (pe_callB call_isiT hg (G.gd.blt "isinstance" (by decide)) (by decide +kernel) (pa_cons ha (pa_cons q3 pa_nil rfl) (star_plain hp)) (by decide) (by decide) (star_plain hp) rfl) fun σ H Q h' => ?_
  obtain ⟨α, st, b, env, R, E, h'⟩ := h'
  refine te_then R E h' fun α1 H1 v st1 b1 d x1 R1 E1 r1 h1 => ?_
  refine tyArgs_run ⟨by rw [List.length_map]; exact fits_le hf, fun tp htp => ?_⟩
  have h1 : Tri (mopt ((tyD st1 d).map fun a => D.bl (ts.any (isTy a))) st1) b1 _ _ := h1
  obtain ⟨r, e1, h1⟩ := tri_mopt h1
  cases e2 : tyD st1 d with
  | none =>
    rw [e2] at e1
    cases e1
  | some a =>
    rw [e2] at e1
    cases e1
    have x2 : Ext X.K α1 H1 α1 (upd H1 tp (.tup (ts.map V.ty))) := ext_new htp
    have R2 := R1.newT (o := .tup (ts.map V.ty)) htp
    obtain ⟨t1, t2⟩ := ty_of R2 (r1.ext x2) e2
    refine ⟨v, tp, _, _, _, _, rfl, upd_same, paired_ty ts, t1, kit_any t2 (okTys_mem h), ?_⟩
    exact PostV.here R2 (.bl _) (PostV.ext (x1.trans x2) h1)
theorem pe_isi1 (G : GX F KW mods RX k c X) (hg : Gl X "isinstance") {t : String} (h : okTy c t e2 = true) (hp : plainE e = true) (ha : PE X e (te X.K RX W C ia)) :
    PE X (.Call (.Name "isinstance" p) [e, e2] [] pos) (te X.K RX W C (.isi ia [t])) := by
  obtain ⟨q1, q2⟩ := pe_ty G h
  have hm : t ∈ tyNames := okTys_mem (ts := [t]) (es := [e2]) (c := c) (by show (okTy c t e2 && true) = true; rw [h] <;> rfl) t List.mem_cons_self
  refine PE.imp (pe_callB call_isi hg (G.gd.blt "isinstance" (by decide)) (by decide +kernel) (pa_cons ha (pa_cons q1 pa_nil (star_plain q2)) (star_plain hp)) (by decide) (by decide) (star_plain hp) (back_any (es := [e2]) (by show (plainE e2 && true) = true; rw [q2] <;> rfl))) fun σ H Q h' => ?_
  obtain ⟨α, st, b, env, R, E, h'⟩ := h'
  refine te_then R E h' fun α1 H1 v st1 b1 d x1 R1 E1 r1 h1 => ?_
  have h1 : Tri (mopt ((tyD st1 d).map fun a => D.bl ([t].any (isTy a))) st1) b1 _ _ := h1
  obtain ⟨r, e1, h1⟩ := tri_mopt h1
  cases e2 : tyD st1 d with
  | none =>
    rw [e2] at e1
    cases e1
  | some a =>
    rw [e2] at e1
    cases e1
    obtain ⟨t1, t2⟩ := ty_of R1 r1 e2
    refine ⟨v, .ty t, _, _, _, rfl, .ty t, t1, kit_ty (kit_all a t2 t hm), ?_⟩
    have q := PostV.here R1 (.bl _) (PostV.ext x1 h1)
    rw [List.any_cons, List.any_nil, Bool.or_false] at q
    exact q

/-! ### list(range(n)), tuple(range(n)) -/
theorem rg_of {K : PySem.W.Frag} {α : List Addr} {H : Hp} (n : Int) : RDs K α H (rgItems n.toNat) (rgV 0 n) := by
  unfold rgItems rgV
  rw [Int.sub_zero]
  generalize List.range n.toNat = l
  induction l with
  | nil => exact .nil
  | cons x l ih =>
    refine .cons ?_ ih
    show RD K α H (.int (x : Int)) (.int (0 + (x : Int)))
    rw [Int.zero_add]
    exact .int _
theorem pe_listRI (G : GX F KW mods RX k c X) (hg : Gl X "list") (hg2 : Gl X "range") (hp : plainE e = true) (ha : PE X e (te X.K RX W C ia)) {p2 pos2 : Pos} :
    PE X (.Call (.Name "list" p) [.Call (.Name "range" p2) [e] [] pos2] [] pos) (te X.K RX W C (.lr ia)) := by
  refine PE.imp (pe_listRg G.calm hg (G.gd.blt "list" (by decide)) (prg_1 hg2 (G.gd.blt "range" (by decide)) ha (star_plain hp)) rfl) fun σ H Q h => ?_
  obtain ⟨α, st, b, env, R, E, h⟩ := h
  refine te_then R E h fun α1 H1 v st1 b1 d x1 R1 E1 r1 h1 => ?_
  cases r1 with
  | int n =>
    obtain ⟨hc, h1⟩ := tri_mif h1
    obtain ⟨c1, c2⟩ := Bool.and_eq_true_iff.mp hc
    have c1 := of_decide_eq_true c1
    have c2 := of_decide_eq_true c2
    refine ⟨n, rfl, ⟨by omega, by omega, by omega, by omega, by omega⟩, ?_⟩
    exact PostV.newL R1 (rg_of n) (PostV.ext x1 h1)
  | _ => exact h1.elim
theorem pe_tupRI (G : GX F KW mods RX k c X) (hg : Gl X "tuple") (hg2 : Gl X "range") (hp : plainE e = true) (ha : PE X e (te X.K RX W C ia)) {p2 pos2 : Pos} :
    PE X (.Call (.Name "tuple" p) [.Call (.Name "range" p2) [e] [] pos2] [] pos) (te X.K RX W C (.tr ia)) := by
  refine PE.imp (pe_tupRg G.calm hg (G.gd.blt "tuple" (by decide)) (prg_1 hg2 (G.gd.blt "range" (by decide)) ha (star_plain hp)) rfl) fun σ H Q h => ?_
  obtain ⟨α, st, b, env, R, E, h⟩ := h
  refine te_then R E h fun α1 H1 v st1 b1 d x1 R1 E1 r1 h1 => ?_
  cases r1 with
  | int n =>
    obtain ⟨hc, h1⟩ := tri_mif h1
    obtain ⟨c1, c2⟩ := Bool.and_eq_true_iff.mp hc
    have c1 := of_decide_eq_true c1
    have c2 := of_decide_eq_true c2
    refine ⟨n, rfl, ⟨by omega, by omega, by omega, by omega, by omega⟩, ?_⟩
    exact PostV.newT R1 (rg_of n) (PostV.ext x1 h1)
  | _ => exact h1.elim

/-! ### methods -/
def mthTy : Mth → String
  | .upper => "str"
  | _ => "list"
def mthName : Mth → Str
  | .append => "append"
  | .insert => "insert"
  | .pop => "pop"
  | .popAt => "pop"
  | .index => "index"
  | .upper => "upper"
theorem Rel.sq {K : PySem.W.Frag} {α : List Addr} {H : Hp} {st : Store} {b : Nat} (R : Rel K α H st b) {n : Nat} {a : Addr} (hn : α[n]? = some a) : ∃ xs, SqL K H a xs := by
  have hl : n < st.length := by
    rw [← R.len]
    exact (List.getElem?_eq_some_iff.mp hn).1
  have q := R.at_ n _ a (List.getElem?_eq_getElem hl) hn
  cases e : st[n] with
  | lst w xs =>
    rw [e] at q
    cases w with
    | true =>
      obtain ⟨vs, q, _⟩ := q
      exact ⟨vs, .of q⟩
    | false =>
      obtain ⟨vs, q, _⟩ := q
      exact ⟨vs, q.sq⟩
  | rng =>
    rw [e] at q
    obtain ⟨x, y, z, q, _⟩ := q
    exact ⟨_, .of q⟩
theorem recv_ty {K : PySem.W.Frag} {α : List Addr} {H : Hp} {st : Store} {b : Nat} (R : Rel K α H st b) {m : Mth} {d : D} {v : V} (r : RD K α H d v) (h : recvOk m d = true) : tyV K (mthTy m) v H := by
  cases r with
  | ref hn => cases m <;> first | exact .inl ⟨rfl, R.sq hn⟩ | cases h
  | str x => cases m <;> first | rfl | cases h
  | _ => cases m <;> cases h
theorem bm_read {m : Mth} {σ : L2.St} {H : Hp} {Q : VK} (h : te X.K RX W C (.meth m ia is) σ H Q) : tBM X.K (mthTy m) (rMt X.K m) (te X.K RX W C ia) (ta X.K RX W C is) σ H Q := by
  obtain ⟨α, st, b, env, R, E, h⟩ := h
  refine te_then R E h fun α1 H1 v st1 b1 d x1 R1 E1 r1 h1 => ?_
  obtain ⟨hc, h1⟩ := tri_mif h1
  refine ⟨recv_ty R1 r1 hc, ?_⟩
  refine ta_then R1 E1 h1 fun α2 H2 vs st2 b2 ds x2 R2 E2 r2 h2 => ?_
  exact ⟨α2, st2, b2, d, ds, R2, r1.ext x2, r2, _, tri_mono h2 (fun _ _ _ q => q.ext (x1.trans x2)) fun _ _ _ _ q => q⟩
theorem bm0_read {m : Mth} {σ : L2.St} {H : Hp} {Q : VK} (h : te X.K RX W C (.meth m ia .nil) σ H Q) : tBM0 X.K (mthTy m) (rMt X.K m) (te X.K RX W C ia) σ H Q := by
  obtain ⟨α, st, b, env, R, E, h⟩ := h
  refine te_then R E h fun α1 H1 v st1 b1 d x1 R1 E1 r1 h1 => ?_
  obtain ⟨hc, h1⟩ := tri_mif h1
  refine ⟨recv_ty R1 r1 hc, ?_⟩
  exact ⟨α1, st1, b1, d, [], R1, r1, .nil, _, tri_mono h1 (fun _ _ _ q => q.ext x1) fun _ _ _ _ q => q⟩
/-- which methods the calls with and without arguments are -/
def okMth : Mth → Nat → Bool
  | .append, 1 => true
  | .insert, 2 => true
  | .pop, 0 => true
  | .popAt, 1 => true
  | .upper, 0 => true
  | _, _ => false
theorem few_of {e : Expr} {es : List Expr} {env : PySem.Env} (h1 : plainE e = true) (h2 : plainEs es = true) (hl : es.length < 5) : ((backTo pos (starEach (e :: es) env)).all (fun x => !x.1) && (backToKw pos (keywordEach [] env)).all (fun x => x.1.isSome)
      && decide ((e :: es).length + ([] : List Keyword).length + (if ([] : List Keyword).isEmpty then 0 else 1) < 30)) = true := by
  rw [back_all (by show (plainE e && es.all plainE) = true; rw [h1]; exact h2), Bool.true_and]
  have q : (backToKw pos (keywordEach [] env)).all (fun x => x.1.isSome) = true := rfl
  rw [q, Bool.true_and]
  refine decide_eq_true ?_
  rw [List.length_cons]
  show es.length + 1 + 0 + (if true = true then 0 else 1) < 30
  rw [if_pos rfl]
  omega
theorem pe_mthI {m : Mth} {es : List Expr} {apos : Pos} (hm : okMth m (es.length + 1) = true) (hlen : es.length < 5) (hb : baseB e1 = true) (hl : (apos.endLine == pos.line) = true) (h1 : plainE e2 = true) (h2 : plainEs es = true) (ho : PE X e1 (te X.K RX W C ia)) (ha : PA X (e2 :: es) (ta X.K RX W C is)) :
    PE X (.Call (.Attribute e1 (mthName m) apos) (e2 :: es) [] pos) (te X.K RX W C (.meth m ia is)) := by
  refine PE.imp ?_ fun σ H Q h => bm_read h
  cases m with
  | append => exact pe_bm PySem.F.plainAttrs_list PySem.F.slot_list_append PySem.F.type_list_append mt_append_ok ho ha (base_plain hb) (few_of h1 h2 hlen) hl (star_plain h1) (back_any h2)
  | insert => exact pe_bm PySem.F.plainAttrs_list PySem.F.slot_list_insert PySem.F.type_list_insert mt_insert_ok ho ha (base_plain hb) (few_of h1 h2 hlen) hl (star_plain h1) (back_any h2)
  | popAt => exact pe_bm PySem.F.plainAttrs_list PySem.F.slot_list_pop PySem.F.type_list_pop mt_popAt_ok ho ha (base_plain hb) (few_of h1 h2 hlen) hl (star_plain h1) (back_any h2)
  | pop => cases hm
  | index => cases hm
  | upper => cases hm
theorem pe_mth0I {m : Mth} {apos : Pos} (hm : okMth m 0 = true) (hb : baseB e1 = true) (hl : (apos.endLine == pos.line) = true) (ho : PE X e1 (te X.K RX W C ia)) :
    PE X (.Call (.Attribute e1 (mthName m) apos) [] [] pos) (te X.K RX W C (.meth m ia .nil)) := by
  refine PE.imp ?_ fun σ H Q h => bm0_read h
  cases m with
  | pop => exact pe_bm0 PySem.F.plainAttrs_list PySem.F.slot_list_pop PySem.F.type_list_pop mt_pop_ok ho (base_plain hb) hl
  | upper => exact pe_bm0 PySem.F.plainAttrs_str PySem.F.slot_str_upper PySem.F.type_str_upper mt_upper_ok ho (base_plain hb) hl
  | _ => cases hm
/-! ### built-in functions by name -/
def bltName : Blt → Str
  | .len => "len" | .list => "list" | .tuple => "tuple" | .all => "all" | .any => "any" | .abs => "abs" | .int => "int" | .str => "str" | .repr => "repr" | .min2 => "min" | .max2 => "max"
  | .lcm => "lcm" | .sorted => "sorted"
/-- called plainly by its name -/
def bltPlain : Blt → Bool
  | .lcm | .sorted => false
  | _ => true
theorem pe_bltI (G : GX F KW mods RX k c X) {f : Blt} {es : List Expr} (hf : bltPlain f = true) (hg : Gl X (bltName f)) (h1 : plainE e = true) (h2 : plainEs es = true) (ha : PA X (e :: es) (ta X.K RX W C is)) :
    PE X (.Call (.Name (bltName f) p) (e :: es) [] pos) (te X.K RX W C (.blt f is)) := by
  have hu : X.A.units + 64 < cLine := G.room.units
  refine PE.imp ?_ fun σ H Q h => cb_read h
  cases f with
  | len => exact pe_callB call_len_ok hg (G.gd.blt "len" (by decide)) PySem.boot_len ha (by decide) (by decide) (star_plain h1) (back_any h2)
  | list => exact pe_callTy call_list_ok hg (G.gd.blt "list" (by decide)) (by decide +kernel) ha (by decide) (by decide) (star_plain h1) (back_any h2)
  | tuple => exact pe_callTy call_tuple_ok hg (G.gd.blt "tuple" (by decide)) (by decide +kernel) ha (by decide) (by decide) (star_plain h1) (back_any h2)
  | all => exact pe_callB (call_all_ok G.calm) hg (G.gd.blt "all" (by decide)) (by decide +kernel) ha (by decide) (by decide) (star_plain h1) (back_any h2)
  | any => exact pe_callB (call_any_ok G.calm) hg (G.gd.blt "any" (by decide)) (by decide +kernel) ha (by decide) (by decide) (star_plain h1) (back_any h2)
  | abs => exact pe_callB call_abs_ok hg (G.gd.blt "abs" (by decide)) (by decide +kernel) ha (by decide) (by decide) (star_plain h1) (back_any h2)
  | int => exact pe_callTy call_int_ok hg (G.gd.blt "int" (by decide)) (by decide +kernel) ha (by decide) (by decide) (star_plain h1) (back_any h2)
  | str => exact pe_callTy call_str_ok hg (G.gd.blt "str" (by decide)) (by decide +kernel) ha (by decide) (by decide) (star_plain h1) (back_any h2)
  | repr => exact pe_callB (call_repr_ok G.guards hu) hg (G.gd.blt "repr" (by decide)) (by decide +kernel) ha (by decide) (by decide) (star_plain h1) (back_any h2)
  | min2 => exact pe_callB (call_min_ok G.calm) hg (G.gd.blt "min" (by decide)) (by decide +kernel) ha (by decide) (by decide) (star_plain h1) (back_any h2)
  | max2 => exact pe_callB (call_max_ok G.calm) hg (G.gd.blt "max" (by decide)) (by decide +kernel) ha (by decide) (by decide) (star_plain h1) (back_any h2)
  | lcm => cases hf
  | sorted => cases hf
theorem pe_lcmI (G : GX F KW mods RX k c X) {es : List Expr} (hm : (("lcm" : Str), "math.lcm") ∈ mods) (hg : Gl X "lcm") (h1 : plainE e = true) (h2 : plainEs es = true) (ha : PA X (e :: es) (ta X.K RX W C is)) :
    PE X (.Call (.Name "lcm" p) (e :: es) [] pos) (te X.K RX W C (.blt .lcm is)) :=
  PE.imp (pe_callBfun call_lcm_ok hg (G.gd.mods _ _ hm) ha (by decide) (star_plain h1) (back_any h2)) fun σ H Q h => cb_read h
end
end DI
end
section
namespace DI
open PySem L2 PySem.Spec
open PyProof.Rows hiding St
structure Ck where
  F : Tab
  KW : KwTab
  mods : List (Str × String)
def opB : Operator → Bool
  | .Add | .Sub | .Mult | .FloorDiv | .Mod | .Pow => true
  | _ => false
theorem opB_of {op : Operator} (h : opB op = true) : op = .Add ∨ op = .Sub ∨ op = .Mult ∨ op = .FloorDiv ∨ op = .Mod ∨ op = .Pow := by
  cases op <;> first | (cases h; done) | simp
/-- which may stand as a test -/
def tstB : IE → Bool
  | .ite _ _ _ => false
  | .neg _ => false
  | .and a b => tstB a && tstB b
  | .or a b => tstB a && tstB b
  | .not a => tstB a
  | _ => true
def fnB (F : Tab) (f : Str) : Bool := (F.lookup f).isSome
def dbgB (x : Str) : Bool := !(x == ("__debug__" : Str))
/-- the slice ::-1 -/
def revShape : Expr → Bool
  | .Slice .none .none (.some (.UnaryOp .USub (.Constant (.int i) _ _) _)) _ => decide (i = 1)
  | _ => false
theorem rev_of {f : Expr} (h : revShape f = true) : ∃ k p1 p3 p4, f = .Slice none none (some (.UnaryOp .USub (.Constant (.int 1) k p1) p3)) p4 := by
  unfold revShape at h
  split at h
  · have e := of_decide_eq_true h
    subst e
    exact ⟨_, _, _, _, rfl⟩
  · cases h
/-- one call range(e) -/
def rg1 : List Expr → Option (Str × Expr)
  | [.Call (.Name y _) [e] [] _] => some (y, e)
  | _ => none
theorem rg1_of {es : List Expr} {y : Str} {e : Expr} (h : rg1 es = some (y, e)) : ∃ q2 p2, es = [.Call (.Name y q2) [e] [] p2] := by
  unfold rg1 at h
  split at h
  · cases h
    exact ⟨_, _, rfl⟩
  · cases h
def okBltB (T : Ck) (f : Blt) (x : Str) : Bool := match f with
  | .lcm => decide (x = "lcm") && decide ((("lcm" : Str), "math.lcm") ∈ T.mods)
  | f => bltPlain f && decide (x = bltName f)
def oneTy (c : CC) (t : Expr) : List String → Bool
  | [u] => okTy c u t
  | _ => false
def okTyA (c : CC) (ts : List String) (t : Expr) : Bool := match t with
  | .Tuple es _ _ => okTys c ts es && fits ts.length
  | t => oneTy c t ts
mutual
def okE (T : Ck) (c : CC) : IE → Expr → Bool
  | .var i, .Name x _ => decide (c.N[i]? = some x) && visB c x && nameB x
  | .cint i, .Constant (.int j) _ _ => decide (i = j)
  | .cstr x, .Constant (.str y) _ _ => decide (x = y)
  | .cbl x, .Constant (.bool y) _ _ => decide (x = y)
  | .cnon, .Constant .none _ _ => true
  | .tup is, .Tuple es _ _ => okEs T c is es
  | .lst is, .List es _ => okEs T c is es
  | .bin op a b, .BinOp e o f _ => decide (op = o) && opB op && okE T c a e && okE T c b f
  | .neg a, .UnaryOp .USub e _ => okE T c a e
  | .cmp op a b, .Compare e [o] [f] _ => decide (op = o) && !behindInMarks op f && okE T c a e && okE T c b f
  | .chain o1 o2 a b d, .Compare e [p1, p2] [f, g] _ => decide (o1 = p1) && decide (o2 = p2) && !lastMarks [o1, o2] [f, g] && okE T c a e && okE T c b f && okE T c d g
  | .and a b, .BoolOp .And [e, f] _ => okE T c a e && okE T c b f
  | .and a b, .BoolOp .And (e :: f :: g :: r) p => okE T c a e && okE T c b (.BoolOp .And (f :: g :: r) p)
  | .or a b, .BoolOp .Or [e, f] _ => okE T c a e && okE T c b f
  | .or a b, .BoolOp .Or (e :: f :: g :: r) p => okE T c a e && okE T c b (.BoolOp .Or (f :: g :: r) p)
  | .not a, .UnaryOp .Not e _ => okE T c a e
  | .ite t a b, .IfExp e f g _ => tstB t && okE T c t e && okE T c a f && okE T c b g
  | .ix a i, .Subscript e f _ => plainE f && okE T c a e && okE T c i f
  | .slice a lo hi, .Subscript e (.Slice l u .none _) _ => okE T c a e && okO T c lo l && okO T c hi u
  | .rev a, .Subscript e f _ => revShape f && okE T c a e
  | .lr a, .Call (.Name x _) es [] _ => decide (x = "list") && glB c x && (match rg1 es with
    | some (y, e) => decide (y = "range") && glB c y && plainE e && okE T c a e
    | none => false)
  | .tr a, .Call (.Name x _) es [] _ => decide (x = "tuple") && glB c x && (match rg1 es with
    | some (y, e) => decide (y = "range") && glB c y && plainE e && okE T c a e
    | none => false)
  | .blt f is, .Call (.Name x _) (e :: es) [] _ => okBltB T f x && glB c x && okEs T c is (e :: es)
  | .isi a ts, .Call (.Name x _) [e, t] [] _ => decide (x = "isinstance") && glB c x && plainE e && okTyA c ts t && okE T c a e
  | .call f is, .Call (.Name x _) es [] _ => decide (x = f) && fnB T.F f && glB c f && dbgB f && okEs T c is es
  | .callK f is ks ws, .Call (.Name x _) es kws _ => decide (x = f) && fnB T.F f && glB c f && dbgB f && decide (kws.map (·.arg) = ks.map some) && decide ((f, is.len, ks) ∈ T.KW) && (kordT T.F f is.len ks).isSome && decide (ws.len = ks.length) && okKs T c ws kws && okEs T c is es
  | .meth m o is, .Call (.Attribute e name apos) es [] pos => okMth m es.length && decide (es.length < 5) && decide (name = mthName m) && baseB e && (apos.endLine == pos.line) && okE T c o e && okEs T c is es
  | .lc own tg it cn a, .ListComp elt [⟨tge, iter, ifs, n⟩] scope _ => decide (n = 0) && blkC c.N c.sc scope own && okTg (c.blk scope) tg tge && (tgSlots tg).all (fun i => (own.map (·.2)).contains i) && plainE iter && okIt T c it tge iter && okC T (c.blk scope) cn ifs && okE T (c.blk scope) a elt
  | _, _ => false
def okEs (T : Ck) (c : CC) : IEs → List Expr → Bool
  | .nil, [] => true
  | .cons a is, e :: es => plainE e && okE T c a e && okEs T c is es
  | _, _ => false
def okKs (T : Ck) (c : CC) : IEs → List Keyword → Bool
  | .nil, [] => true
  | .cons a is, kw :: kws => okE T c a kw.value && okKs T c is kws
  | _, _ => false
def okO (T : Ck) (c : CC) : IO → Option Expr → Bool
  | .none, .none => true
  | .some a, .some e => okE T c a e
  | _, _ => false
def okC (T : Ck) (c : CC) : IO → List Expr → Bool
  | .none, [] => true
  | .some a, [e] => tstB a && okE T c a e
  | _, _ => false
def okIt (T : Ck) (c : CC) : IIt → Expr → Expr → Bool
  | .range1 a, _, .Call (.Name x _) [e] [] _ => decide (x = "range") && glB c x && plainE e && okE T c a e
  | .range2 a b, _, .Call (.Name x _) [e, f] [] _ => decide (x = "range") && glB c x && plainE e && plainE f && okE T c a e && okE T c b f
  | .enum a, .Tuple _ _ _, .Call (.Name x _) [e] [] _ => decide (x = "enumerate") && glB c x && plainE e && okE T c a e
  | .zip a b, .Tuple _ _ _, .Call (.Name x _) [e, f] [] _ => decide (x = "zip") && glB c x && plainE e && plainE f && okE T c a e && okE T c b f
  | .seq a, _, e => okE T c a e
  | _, _, _ => false
end
end DI
end
section
namespace DI
open PySem L2 PySem.Spec
open PyProof.Rows hiding St
theorem and2 {a b : Bool} (h : (a && b) = true) : a = true ∧ b = true := Bool.and_eq_true_iff.mp h
section
variable (T : Ck) (RX : XRel) (k : Nat)
abbrev GXk (c : CC) (X : Cx) : Prop := GX T.F T.KW T.mods RX k c X
/-- an expression that passes the check is read by its run -/
def OkE (ie : IE) : Prop := ∀ (c : CC) (X : Cx) (W : WX), GXk T RX k c X → Takes X W → ∀ e, okE T c ie e = true →
  PE X e (te X.K RX W (cfg T.F k) ie) ∧ (tstB ie = true → PT X e (tt X.K RX W (cfg T.F k) ie)) ∧ (tstB ie = true → ∀ op es p, e = .BoolOp op es p → PW X e (tt X.K RX W (cfg T.F k) ie))
def OkEs (is : IEs) : Prop := ∀ (c : CC) (X : Cx) (W : WX), GXk T RX k c X → Takes X W →
  (∀ es, okEs T c is es = true → PA X es (ta X.K RX W (cfg T.F k) is) ∧ plainEs es = true) ∧ (∀ kws, okKs T c is kws = true → PK X kws (ta X.K RX W (cfg T.F k) is))
def OkO (o : IO) : Prop := ∀ (c : CC) (X : Cx) (W : WX), GXk T RX k c X → Takes X W →
  (∀ e, okO T c o e = true → PO X e (to X.K RX W (cfg T.F k) o)) ∧ (∀ es, okC T c o es = true → W = WF → PTs X es (tcI X.K RX (cfg T.F k) o))
def OkIt (it : IIt) : Prop := ∀ (c : CC) (X : Cx) (W : WX), GXk T RX k c X → Takes X W → ∀ tg e, okIt T c it tg e = true → PI X tg e (ti X.K RX W (cfg T.F k) it)
variable {T RX k}
/-- no and, or: the value, and its truth -/
theorem okE_of {ie : IE} (hp : ∀ c e, okE T c ie e = true → plainT e = true) (h : ∀ (c : CC) (X : Cx) (W : WX), GXk T RX k c X → Takes X W → ∀ e, okE T c ie e = true → PE X e (te X.K RX W (cfg T.F k) ie)) : OkE T RX k ie := by
  intro c X W G tk e he
  have q := h c X W G tk e he
  refine ⟨q, fun _ => pt_truthI (hp c e he) q, fun _ op es p z => ?_⟩
  subst z
  exact absurd (hp c _ he) (by intro z; cases z)
theorem okE_no {ie : IE} (hp : ∀ c op es p, okE T c ie (.BoolOp op es p) = false) (h : ∀ (c : CC) (X : Cx) (W : WX), GXk T RX k c X → Takes X W → ∀ e, okE T c ie e = true → PE X e (te X.K RX W (cfg T.F k) ie) ∧ (tstB ie = true → PT X e (tt X.K RX W (cfg T.F k) ie))) : OkE T RX k ie := by
  intro c X W G tk e he
  obtain ⟨q1, q2⟩ := h c X W G tk e he
  refine ⟨q1, q2, fun _ op es p z => ?_⟩
  subst z
  rw [hp] at he
  cases he
theorem okE_var (i : Nat) : OkE T RX k (.var i) := by
  refine okE_of (fun c e h => by cases e <;> first | rfl | cases h) fun c X W G tk e h => ?_
  cases e with
  | Name x p =>
    obtain ⟨h1, h2⟩ := and2 (show (decide (c.N[i]? = some x) && visB c x && nameB x) = true from h)
    obtain ⟨h3, h4⟩ := and2 h1
    obtain ⟨h5, h6⟩ := and2 (show (!(x == ("__debug__" : Str)) && !(x == ("__classdict__" : Str)) && !(x == ("__name__" : Str))) = true from h2)
    obtain ⟨h7, h8⟩ := and2 h5
    exact pe_varI (by rw [G.N]; exact of_decide_eq_true h3) (G.vis h4) (by simpa using h7) (by simpa using h8)
  | _ => cases h
theorem okE_cint (i : Int) : OkE T RX k (.cint i) := by
  refine okE_of (fun c e h => by cases e <;> first | rfl | cases h) fun c X W G tk e h => ?_
  cases e with
  | Constant v n p =>
    cases v with
    | int j =>
      have e := of_decide_eq_true (show decide (i = j) = true from h)
      subst e
      exact pe_intI
    | _ => cases h
  | _ => cases h
theorem okE_cstr (i : Str) : OkE T RX k (.cstr i) := by
  refine okE_of (fun c e h => by cases e <;> first | rfl | cases h) fun c X W G tk e h => ?_
  cases e with
  | Constant v n p =>
    cases v with
    | str j =>
      have e := of_decide_eq_true (show decide (i = j) = true from h)
      subst e
      exact pe_strI
    | _ => cases h
  | _ => cases h
theorem okE_cbl (i : Bool) : OkE T RX k (.cbl i) := by
  refine okE_of (fun c e h => by cases e <;> first | rfl | cases h) fun c X W G tk e h => ?_
  cases e with
  | Constant v n p =>
    cases v with
    | bool j =>
      have e := of_decide_eq_true (show decide (i = j) = true from h)
      subst e
      exact pe_blI
    | _ => cases h
  | _ => cases h
theorem okE_cnon : OkE T RX k .cnon := by
  refine okE_of (fun c e h => by cases e <;> first | rfl | cases h) fun c X W G tk e h => ?_
  cases e with
  | Constant v n p =>
    cases v with
    | none => exact pe_nonI
    | _ => cases h
  | _ => cases h
theorem okE_tup {is : IEs} (ih : OkEs T RX k is) : OkE T RX k (.tup is) := by
  refine okE_of (fun c e h => by cases e <;> first | rfl | cases h) fun c X W G tk e h => ?_
  cases e with
  | Tuple es n p => exact pe_tupI ((ih c X W G tk).1 es h).1
  | _ => cases h
theorem okE_lst {is : IEs} (ih : OkEs T RX k is) : OkE T RX k (.lst is) := by
  refine okE_of (fun c e h => by cases e <;> first | rfl | cases h) fun c X W G tk e h => ?_
  cases e with
  | List es p => exact pe_lstI ((ih c X W G tk).1 es h).1
  | _ => cases h
theorem okE_bin {op : Operator} {a b : IE} (ha : OkE T RX k a) (hb : OkE T RX k b) : OkE T RX k (.bin op a b) := by
  refine okE_of (fun c e h => by cases e <;> first | rfl | cases h) fun c X W G tk e h => ?_
  cases e with
  | BinOp e o f p =>
    obtain ⟨h1, h2⟩ := and2 (show (decide (op = o) && opB op && okE T c a e && okE T c b f) = true from h)
    obtain ⟨h3, h4⟩ := and2 h1
    obtain ⟨h5, h6⟩ := and2 h3
    have e := of_decide_eq_true h5
    subst e
    exact pe_binI (opB_of h6) (ha c X W G tk _ h4).1 (hb c X W G tk _ h2).1
  | _ => cases h
theorem okE_neg {a : IE} (ha : OkE T RX k a) : OkE T RX k (.neg a) := by
  refine okE_no (fun c op es p => rfl) fun c X W G tk e h => ⟨?_, fun z => by cases z⟩
  cases e with
  | UnaryOp o e p =>
    cases o with
    | USub => exact pe_negI (ha c X W G tk _ h).1
    | _ => cases h
  | _ => cases h
theorem okE_cmp {op : CmpOp} {a b : IE} (ha : OkE T RX k a) (hb : OkE T RX k b) : OkE T RX k (.cmp op a b) := by
  refine okE_no (fun c op es p => rfl) fun c X W G tk e h => ?_
  cases e with
  | Compare e os fs p =>
    match os, fs, h with
    | [o], [f], h =>
      obtain ⟨h1, h2⟩ := and2 (show (decide (op = o) && !behindInMarks op f && okE T c a e && okE T c b f) = true from h)
      obtain ⟨h3, h4⟩ := and2 h1
      obtain ⟨h5, h6⟩ := and2 h3
      have e := of_decide_eq_true h5
      subst e
      have hm : behindInMarks op f = false := by simpa using h6
      have pa := (ha c X W G tk _ h4).1
      have pb := (hb c X W G tk _ h2).1
      exact ⟨pe_cmpI G.room.units pa pb hm, fun _ => pt_cmpI G.room.units pa pb hm⟩
    | [], _, h => cases h
    | _ :: _ :: _, _, h => cases h
    | [_], [], h => cases h
    | [_], _ :: _ :: _, h => cases h
  | _ => cases h
theorem okE_chain {o1 o2 : CmpOp} {a b d : IE} (ha : OkE T RX k a) (hb : OkE T RX k b) (hd : OkE T RX k d) : OkE T RX k (.chain o1 o2 a b d) := by
  refine okE_no (fun c op es p => rfl) fun c X W G tk e h => ?_
  cases e with
  | Compare e os fs p =>
    match os, fs, h with
    | [p1, p2], [f, g], h =>
      obtain ⟨h1, h2⟩ := and2 (show (decide (o1 = p1) && decide (o2 = p2) && !lastMarks [o1, o2] [f, g] && okE T c a e && okE T c b f && okE T c d g) = true from h)
      obtain ⟨h3, h4⟩ := and2 h1
      obtain ⟨h5, h6⟩ := and2 h3
      obtain ⟨h7, h8⟩ := and2 h5
      obtain ⟨h9, h10⟩ := and2 h7
      have e1 := of_decide_eq_true h9
      have e2 := of_decide_eq_true h10
      subst e1
      subst e2
      have hm : lastMarks [o1, o2] [f, g] = false := by simpa using h8
      have pa := (ha c X W G tk _ h6).1
      have pb := (hb c X W G tk _ h4).1
      have pd := (hd c X W G tk _ h2).1
      exact ⟨pe_chainI G.room.units pa pb pd hm, fun _ => pt_chainI G.room.units pa pb pd hm⟩
    | [], _, h => cases h
    | [_], _, h => cases h
    | [_, _], [], h => cases h
    | [_, _], [_], h => cases h
    | [_, _], _ :: _ :: _ :: _, h => cases h
    | _ :: _ :: _ :: _, _, h => cases h
  | _ => cases h
theorem okE_and {a b : IE} (ha : OkE T RX k a) (hb : OkE T RX k b) : OkE T RX k (.and a b) := by
  intro c X W G tk e h
  cases e with
  | BoolOp op es p =>
    cases op with
    | Or => cases h
    | And =>
      match es, h with
      | [e, f], h =>
        obtain ⟨h1, h2⟩ := and2 (show (okE T c a e && okE T c b f) = true from h)
        have pa := ha c X W G tk _ h1
        have pb := hb c X W G tk _ h2
        have pw : tstB (.and a b) = true → PW X (.BoolOp .And [e, f] p) (tt X.K RX W (cfg T.F k) (.and a b)) := fun z => by
          obtain ⟨z1, z2⟩ := and2 z
          exact pw_andI (pa.2.1 z1) (pw1 (pb.2.1 z2))
        exact ⟨pe_andI pa.1 (pe_one pb.1), fun z => (pw z).pt, fun z op es q eq => by cases eq; exact pw z⟩
      | e :: f :: g :: r, h =>
        obtain ⟨h1, h2⟩ := and2 (show (okE T c a e && okE T c b (.BoolOp .And (f :: g :: r) p)) = true from h)
        have pa := ha c X W G tk _ h1
        have pb := hb c X W G tk _ h2
        have pw : tstB (.and a b) = true → PW X (.BoolOp .And (e :: f :: g :: r) p) (tt X.K RX W (cfg T.F k) (.and a b)) := fun z => by
          obtain ⟨z1, z2⟩ := and2 z
          exact pw_andI (pa.2.1 z1) (pb.2.2 z2 _ _ _ rfl)
        exact ⟨pe_andI pa.1 pb.1, fun z => (pw z).pt, fun z op es q eq => by cases eq; exact pw z⟩
      | [], h => cases h
      | [_], h => cases h
  | _ => cases h
theorem okE_or {a b : IE} (ha : OkE T RX k a) (hb : OkE T RX k b) : OkE T RX k (.or a b) := by
  intro c X W G tk e h
  cases e with
  | BoolOp op es p =>
    cases op with
    | And => cases h
    | Or =>
      match es, h with
      | [e, f], h =>
        obtain ⟨h1, h2⟩ := and2 (show (okE T c a e && okE T c b f) = true from h)
        have pa := ha c X W G tk _ h1
        have pb := hb c X W G tk _ h2
        have pw : tstB (.or a b) = true → PW X (.BoolOp .Or [e, f] p) (tt X.K RX W (cfg T.F k) (.or a b)) := fun z => by
          obtain ⟨z1, z2⟩ := and2 z
          exact pw_orI (pa.2.1 z1) (pw1 (pb.2.1 z2))
        exact ⟨pe_orI pa.1 (pe_one pb.1), fun z => (pw z).pt, fun z op es q eq => by cases eq; exact pw z⟩
      | e :: f :: g :: r, h =>
        obtain ⟨h1, h2⟩ := and2 (show (okE T c a e && okE T c b (.BoolOp .Or (f :: g :: r) p)) = true from h)
        have pa := ha c X W G tk _ h1
        have pb := hb c X W G tk _ h2
        have pw : tstB (.or a b) = true → PW X (.BoolOp .Or (e :: f :: g :: r) p) (tt X.K RX W (cfg T.F k) (.or a b)) := fun z => by
          obtain ⟨z1, z2⟩ := and2 z
          exact pw_orI (pa.2.1 z1) (pb.2.2 z2 _ _ _ rfl)
        exact ⟨pe_orI pa.1 pb.1, fun z => (pw z).pt, fun z op es q eq => by cases eq; exact pw z⟩
      | [], h => cases h
      | [_], h => cases h
  | _ => cases h
theorem okE_not {a : IE} (ha : OkE T RX k a) : OkE T RX k (.not a) := by
  refine okE_no (fun c op es p => rfl) fun c X W G tk e h => ?_
  cases e with
  | UnaryOp o e p =>
    cases o with
    | Not =>
      have q := ha c X W G tk _ h
      exact ⟨pe_notI q.1, fun z => pt_notI (q.2.1 z)⟩
    | _ => cases h
  | _ => cases h
theorem okE_ite {t a b : IE} (ht : OkE T RX k t) (ha : OkE T RX k a) (hb : OkE T RX k b) : OkE T RX k (.ite t a b) := by
  refine okE_no (fun c op es p => rfl) fun c X W G tk e h => ⟨?_, fun z => by cases z⟩
  cases e with
  | IfExp e f g p =>
    obtain ⟨h1, h2⟩ := and2 (show (tstB t && okE T c t e && okE T c a f && okE T c b g) = true from h)
    obtain ⟨h3, h4⟩ := and2 h1
    obtain ⟨h5, h6⟩ := and2 h3
    exact pe_iteI ((ht c X W G tk _ h6).2.1 h5) (ha c X W G tk _ h4).1 (hb c X W G tk _ h2).1
  | _ => cases h
theorem okE_ix {a i : IE} (ha : OkE T RX k a) (hi : OkE T RX k i) : OkE T RX k (.ix a i) := by
  refine okE_of (fun c e h => by cases e <;> first | rfl | cases h) fun c X W G tk e h => ?_
  cases e with
  | Subscript e f p =>
    obtain ⟨h1, h2⟩ := and2 (show (plainE f && okE T c a e && okE T c i f) = true from h)
    obtain ⟨h3, h4⟩ := and2 h1
    exact pe_ixI (ha c X W G tk _ h4).1 (hi c X W G tk _ h2).1 h3
  | _ => cases h
theorem okE_slice {a : IE} {lo hi : IO} (ha : OkE T RX k a) (hl : OkO T RX k lo) (hh : OkO T RX k hi) : OkE T RX k (.slice a lo hi) := by
  refine okE_of (fun c e h => by cases e <;> first | rfl | cases h) fun c X W G tk e h => ?_
  cases e with
  | Subscript e f p =>
    cases f with
    | Slice l u s q =>
      cases s with
      | none =>
        obtain ⟨h1, h2⟩ := and2 (show (okE T c a e && okO T c lo l && okO T c hi u) = true from h)
        obtain ⟨h3, h4⟩ := and2 h1
        exact pe_sliceI (ha c X W G tk _ h3).1 ((hl c X W G tk).1 _ h4) ((hh c X W G tk).1 _ h2)
      | some _ => cases h
    | _ => cases h
  | _ => cases h
end
end DI
end
section
namespace DI
open PySem L2 PySem.Spec
open PyProof.Rows hiding St
section
variable {T : Ck} {RX : XRel} {k : Nat}
theorem dbg_of {x : Str} (h : dbgB x = true) : (x == ("__debug__" : Str)) = false := by
  unfold dbgB at h
  simpa using h
theorem fn_ofB {f : Str} (h : fnB T.F f = true) : ∃ fn, T.F.lookup f = some fn := Option.isSome_iff_exists.mp h
theorem okE_rev {a : IE} (ha : OkE T RX k a) : OkE T RX k (.rev a) := by
  refine okE_of (fun c e h => by cases e <;> first | rfl | cases h) fun c X W G tk e h => ?_
  cases e with
  | Subscript e f p =>
    obtain ⟨h1, h2⟩ := and2 (show (revShape f && okE T c a e) = true from h)
    obtain ⟨k1, p1, p3, p4, rfl⟩ := rev_of h1
    exact pe_revI (ha c X W G tk _ h2).1
  | _ => cases h
theorem okE_lr {a : IE} (ha : OkE T RX k a) : OkE T RX k (.lr a) := by
  refine okE_of (fun c e h => by cases e <;> first | rfl | cases h) fun c X W G tk e h => ?_
  cases e with
  | Call fe es kws p =>
    cases fe with
    | Name x q =>
      cases kws with
      | cons _ _ => cases h
      | nil =>
        obtain ⟨h1, h2⟩ := and2 (show (decide (x = "list") && glB c x && (match rg1 es with
          | some (y, e) => decide (y = "range") && glB c y && plainE e && okE T c a e
          | none => false)) = true from h)
        obtain ⟨h3, h4⟩ := and2 h1
        split at h2
        · rename_i y e e1
          obtain ⟨q2, p2, rfl⟩ := rg1_of e1
          obtain ⟨h5, h6⟩ := and2 h2
          obtain ⟨h7, h8⟩ := and2 h5
          obtain ⟨h9, h10⟩ := and2 h7
          have e1 := of_decide_eq_true h3
          have e2 := of_decide_eq_true h9
          subst e1
          subst e2
          exact pe_listRI G (G.gl h4) (G.gl h10) h8 (ha c X W G tk _ h6).1
        · cases h2
    | _ => cases h
  | _ => cases h
theorem okE_tr {a : IE} (ha : OkE T RX k a) : OkE T RX k (.tr a) := by
  refine okE_of (fun c e h => by cases e <;> first | rfl | cases h) fun c X W G tk e h => ?_
  cases e with
  | Call fe es kws p =>
    cases fe with
    | Name x q =>
      cases kws with
      | cons _ _ => cases h
      | nil =>
        obtain ⟨h1, h2⟩ := and2 (show (decide (x = "tuple") && glB c x && (match rg1 es with
          | some (y, e) => decide (y = "range") && glB c y && plainE e && okE T c a e
          | none => false)) = true from h)
        obtain ⟨h3, h4⟩ := and2 h1
        split at h2
        · rename_i y e e1
          obtain ⟨q2, p2, rfl⟩ := rg1_of e1
          obtain ⟨h5, h6⟩ := and2 h2
          obtain ⟨h7, h8⟩ := and2 h5
          obtain ⟨h9, h10⟩ := and2 h7
          have e1 := of_decide_eq_true h3
          have e2 := of_decide_eq_true h9
          subst e1
          subst e2
          exact pe_tupRI G (G.gl h4) (G.gl h10) h8 (ha c X W G tk _ h6).1
        · cases h2
    | _ => cases h
  | _ => cases h
theorem okE_blt {f : Blt} {is : IEs} (ih : OkEs T RX k is) : OkE T RX k (.blt f is) := by
  refine okE_of (fun c e h => by cases e <;> first | rfl | cases h) fun c X W G tk e h => ?_
  cases e with
  | Call fe es kws p =>
    cases fe with
    | Name x q =>
      cases es with
      | nil => cases h
      | cons e es =>
        cases kws with
        | cons _ _ => cases h
        | nil =>
          obtain ⟨h1, h2⟩ := and2 (show (okBltB T f x && glB c x && okEs T c is (e :: es)) = true from h)
          obtain ⟨h3, h4⟩ := and2 h1
          obtain ⟨q1, q2⟩ := (ih c X W G tk).1 _ h2
          obtain ⟨p1, p2⟩ := and2 (show (plainE e && es.all plainE) = true from q2)
          by_cases hl : f = .lcm
          · subst hl
            obtain ⟨h5, h6⟩ := and2 (show (decide (x = "lcm") && decide ((("lcm" : Str), "math.lcm") ∈ T.mods)) = true from h3)
            have e1 := of_decide_eq_true h5
            subst e1
            exact pe_lcmI G (of_decide_eq_true h6) (G.gl h4) p1 p2 q1
          · have h3 : (bltPlain f && decide (x = bltName f)) = true := by
              cases f <;> first | exact absurd rfl hl | exact h3
            obtain ⟨h5, h6⟩ := and2 h3
            have e1 := of_decide_eq_true h6
            subst e1
            exact pe_bltI G h5 (G.gl h4) p1 p2 q1
    | _ => cases h
  | _ => cases h
theorem okE_isi {a : IE} {ts : List String} (ha : OkE T RX k a) : OkE T RX k (.isi a ts) := by
  refine okE_of (fun c e h => by cases e <;> first | rfl | cases h) fun c X W G tk e h => ?_
  cases e with
  | Call fe es kws p =>
    cases fe with
    | Name x q =>
      match es, kws, h with
      | [e, t], [], h =>
        obtain ⟨h1, h2⟩ := and2 (show (decide (x = "isinstance") && glB c x && plainE e && okTyA c ts t && okE T c a e) = true from h)
        obtain ⟨h3, h4⟩ := and2 h1
        obtain ⟨h5, h6⟩ := and2 h3
        obtain ⟨h7, h8⟩ := and2 h5
        have e1 := of_decide_eq_true h7
        subst e1
        have pa := (ha c X W G tk _ h2).1
        have one : oneTy c t ts = true → PE X (.Call (.Name "isinstance" q) [e, t] [] p) (te X.K RX W (cfg T.F k) (.isi a ts)) := by
          intro h
          unfold oneTy at h
          split at h
          · exact pe_isi1 G (G.gl h8) h h6 pa
          · cases h
        cases t with
        | Tuple us n tp =>
          obtain ⟨h9, h10⟩ := and2 (show (okTys c ts us && fits ts.length) = true from h4)
          exact pe_isiT G (G.gl h8) h9 h6 h10 pa
        | _ => exact one h4
      | [], _, h => cases h
      | [_], _, h => cases h
      | _ :: _ :: _ :: _, _, h => cases h
      | [_, _], _ :: _, h => cases h
    | _ => cases h
  | _ => cases h
theorem okE_call {f : Str} {is : IEs} (ih : OkEs T RX k is) : OkE T RX k (.call f is) := by
  refine okE_of (fun c e h => by cases e <;> first | rfl | cases h) fun c X W G tk e h => ?_
  cases e with
  | Call fe es kws p =>
    cases fe with
    | Name x q =>
      cases kws with
      | cons _ _ => cases h
      | nil =>
        obtain ⟨h1, h2⟩ := and2 (show (decide (x = f) && fnB T.F f && glB c f && dbgB f && okEs T c is es) = true from h)
        obtain ⟨h3, h4⟩ := and2 h1
        obtain ⟨h5, h6⟩ := and2 h3
        obtain ⟨h7, h8⟩ := and2 h5
        have e1 := of_decide_eq_true h7
        subst e1
        obtain ⟨fn, hF⟩ := fn_ofB h8
        obtain ⟨q1, q2⟩ := (ih c X W G tk).1 _ h2
        cases es with
        | nil =>
          cases is with
          | nil => exact pe_call0I G tk hF (G.gl h6) (dbg_of h4)
          | cons _ _ => cases h2
        | cons e es =>
          obtain ⟨p1, p2⟩ := and2 (show (plainE e && es.all plainE) = true from q2)
          exact pe_callI G tk hF (G.gl h6) (dbg_of h4) p1 p2 q1
    | _ => cases h
  | _ => cases h
theorem okE_callK {f : Str} {is ws : IEs} {ks : List Str} (ih : OkEs T RX k is) (iw : OkEs T RX k ws) : OkE T RX k (.callK f is ks ws) := by
  refine okE_of (fun c e h => by cases e <;> first | rfl | cases h) fun c X W G tk e h => ?_
  cases e with
  | Call fe es kws p =>
    cases fe with
    | Name x q =>
      obtain ⟨h1, h2⟩ := and2 (show (decide (x = f) && fnB T.F f && glB c f && dbgB f && decide (kws.map (·.arg) = ks.map some) && decide ((f, is.len, ks) ∈ T.KW) && (kordT T.F f is.len ks).isSome && decide (ws.len = ks.length) && okKs T c ws kws && okEs T c is es) = true from h)
      obtain ⟨h1, g1⟩ := and2 h1
      obtain ⟨h1, g2⟩ := and2 h1
      obtain ⟨h1, g3⟩ := and2 h1
      obtain ⟨h1, g4⟩ := and2 h1
      obtain ⟨h1, g5⟩ := and2 h1
      obtain ⟨h1, g6⟩ := and2 h1
      obtain ⟨h1, g7⟩ := and2 h1
      obtain ⟨h1, g8⟩ := and2 h1
      have e1 := of_decide_eq_true h1
      subst e1
      obtain ⟨fn, hF⟩ := fn_ofB g8
      obtain ⟨o, ho⟩ := Option.isSome_iff_exists.mp g3
      obtain ⟨q1, q2⟩ := (ih c X W G tk).1 _ h2
      have q3 := (iw c X W G tk).2 _ g1
      cases es with
      | nil =>
        cases is with
        | nil => exact pe_callK0I G tk hF (G.gl g7) (dbg_of g6) (of_decide_eq_true g5) (of_decide_eq_true g4) ho (of_decide_eq_true g2) q3
        | cons _ _ => cases h2
      | cons e es =>
        obtain ⟨p1, p2⟩ := and2 (show (plainE e && es.all plainE) = true from q2)
        exact pe_callKI G tk hF (G.gl g7) (dbg_of g6) (of_decide_eq_true g5) p1 p2 (of_decide_eq_true g4) ho (of_decide_eq_true g2) q1 q3
    | _ => cases h
  | _ => cases h
theorem okE_meth {m : Mth} {o : IE} {is : IEs} (ho : OkE T RX k o) (ih : OkEs T RX k is) : OkE T RX k (.meth m o is) := by
  refine okE_of (fun c e h => by cases e <;> first | rfl | cases h) fun c X W G tk e h => ?_
  cases e with
  | Call fe es kws p =>
    cases fe with
    | Attribute e name apos =>
      cases kws with
      | cons _ _ => cases h
      | nil =>
        obtain ⟨h1, h2⟩ := and2 (show (okMth m es.length && decide (es.length < 5) && decide (name = mthName m) && baseB e && (apos.endLine == p.line) && okE T c o e && okEs T c is es) = true from h)
        obtain ⟨k1, g1⟩ := and2 h1
        obtain ⟨k2, g2⟩ := and2 k1
        obtain ⟨k3, g3⟩ := and2 k2
        obtain ⟨k4, g4⟩ := and2 k3
        obtain ⟨k5, g5⟩ := and2 k4
        clear h h1 k1 k2 k3 k4
        have e1 := of_decide_eq_true g4
        subst e1
        clear g4
        have po := (ho c X W G tk _ g1).1
        obtain ⟨q1, q2⟩ := (ih c X W G tk).1 _ h2
        cases es with
        | nil =>
          cases is with
          | nil => exact pe_mth0I k5 g3 g2 po
          | cons _ _ => cases h2
        | cons f es =>
          obtain ⟨p1, p2⟩ := and2 (show (plainE f && es.all plainE) = true from q2)
          have hl := of_decide_eq_true g5
          exact pe_mthI k5 (by rw [List.length_cons] at hl; omega) g3 g2 p1 p2 po q1
    | _ => cases h
  | _ => cases h
theorem okE_lc {own : List (Str × Nat)} {tg : ITg} {it : IIt} {cn : IO} {a : IE} (hi : OkIt T RX k it) (hc : OkO T RX k cn) (ha : OkE T RX k a) : OkE T RX k (.lc own tg it cn a) := by
  refine okE_of (fun c e h => by cases e <;> first | rfl | cases h) fun c X W G tk e h => ?_
  cases e with
  | ListComp elt gens scope p =>
    match gens, h with
    | [], h => cases h
    | g :: _ :: _, h =>
      obtain ⟨g1, g2, g3, g4⟩ := g
      cases h
    | [⟨tge, iter, ifs, n⟩], h =>
      obtain ⟨h1, h2⟩ := and2 (show (decide (n = 0) && blkC c.N c.sc scope own && okTg (c.blk scope) tg tge && (tgSlots tg).all (fun i => (own.map (·.2)).contains i) && plainE iter && okIt T c it tge iter && okC T (c.blk scope) cn ifs && okE T (c.blk scope) a elt) = true from h)
      obtain ⟨h1, g1⟩ := and2 h1
      obtain ⟨h1, g2⟩ := and2 h1
      obtain ⟨h1, g3⟩ := and2 h1
      obtain ⟨h1, g4⟩ := and2 h1
      obtain ⟨h1, g5⟩ := and2 h1
      obtain ⟨h1, g6⟩ := and2 h1
      have e1 := of_decide_eq_true h1
      subst e1
      have ok : BlkOk X.N X.env.scope scope own := by
        rw [G.N, G.sc]
        exact blkOk_by g6
      have hown : ∀ i ∈ tgSlots tg, i ∈ own.map (·.2) := fun i hi => List.contains_iff_mem.mp (List.all_eq_true.mp g4 i hi)
      refine PE.imp (pe_lcI G ok hown (hi c X W G tk _ _ g2) (fun s H C' cl fp => pg_I (G.blk s H scope cl C' fp) g5) (fun s H C' cl fp => (hc _ _ WF (G.blk s H scope cl C' fp) takes0).2 _ g1 rfl)
        (fun s H C' cl fp => (ha _ _ WF (G.blk s H scope cl C' fp) takes0 _ h2).1) g3) fun σ H Q q => lc_read hown q
  | _ => cases h
theorem okEs_nil : OkEs T RX k .nil := by
  intro c X W G tk
  refine ⟨fun es h => ?_, fun kws h => ?_⟩
  · cases es with
    | nil => exact ⟨pa_nilI, rfl⟩
    | cons _ _ => cases h
  · cases kws with
    | nil => exact pk_nilI
    | cons _ _ => cases h
theorem okEs_cons {a : IE} {is : IEs} (ha : OkE T RX k a) (ih : OkEs T RX k is) : OkEs T RX k (.cons a is) := by
  intro c X W G tk
  refine ⟨fun es h => ?_, fun kws h => ?_⟩
  · cases es with
    | nil => cases h
    | cons e es =>
      obtain ⟨h1, h2⟩ := and2 (show (plainE e && okE T c a e && okEs T c is es) = true from h)
      obtain ⟨h3, h4⟩ := and2 h1
      obtain ⟨q1, q2⟩ := (ih c X W G tk).1 _ h2
      exact ⟨pa_consI h3 (ha c X W G tk _ h4).1 q1, by show (plainE e && es.all plainE) = true; rw [h3]; exact q2⟩
  · cases kws with
    | nil => cases h
    | cons kw kws =>
      obtain ⟨h1, h2⟩ := and2 (show (okE T c a kw.value && okKs T c is kws) = true from h)
      obtain ⟨nm, v, p⟩ := kw
      exact pk_consI (ha c X W G tk _ h1).1 ((ih c X W G tk).2 _ h2)
theorem okO_none : OkO T RX k .none := by
  intro c X W G tk
  refine ⟨fun e h => ?_, fun es h z => ?_⟩
  · cases e with
    | none => exact po_noneI
    | some _ => cases h
  · cases es with
    | nil => exact pts_noneI
    | cons _ _ => cases h
theorem okO_some {a : IE} (ha : OkE T RX k a) : OkO T RX k (.some a) := by
  intro c X W G tk
  refine ⟨fun e h => ?_, fun es h z => ?_⟩
  · cases e with
    | none => cases h
    | some e => exact po_someI (ha c X W G tk _ h).1
  · subst z
    match es, h with
    | [], h => cases h
    | _ :: _ :: _, h => cases h
    | [e], h =>
      obtain ⟨h1, h2⟩ := and2 (show (tstB a && okE T c a e) = true from h)
      exact pts_someI ((ha c X WF G tk _ h2).2.1 h1)
theorem okIt_seq {a : IE} (ha : OkE T RX k a) : OkIt T RX k (.seq a) := by
  intro c X W G tk tg e h
  have h : okE T c a e = true := by
    unfold okIt at h
    exact h
  exact pi_seqI (ha c X W G tk _ h).1
theorem okIt_range1 {a : IE} (ha : OkE T RX k a) : OkIt T RX k (.range1 a) := by
  intro c X W G tk tg e h
  cases e with
  | Call fe es kws p =>
    cases fe with
    | Name x q =>
      match es, kws, h with
      | [e], [], h =>
        obtain ⟨h1, h2⟩ := and2 (show (decide (x = "range") && glB c x && plainE e && okE T c a e) = true from h)
        obtain ⟨h3, h4⟩ := and2 h1
        obtain ⟨h5, h6⟩ := and2 h3
        have e1 := of_decide_eq_true h5
        subst e1
        exact pi_range1I G (G.gl h6) h4 (ha c X W G tk _ h2).1
      | [], _, h => cases h
      | [_], _ :: _, h => cases h
      | _ :: _ :: _, _, h => cases h
    | _ => cases h
  | _ => cases h
theorem okIt_range2 {a b : IE} (ha : OkE T RX k a) (hb : OkE T RX k b) : OkIt T RX k (.range2 a b) := by
  intro c X W G tk tg e h
  cases e with
  | Call fe es kws p =>
    cases fe with
    | Name x q =>
      match es, kws, h with
      | [e, f], [], h =>
        obtain ⟨h1, h2⟩ := and2 (show (decide (x = "range") && glB c x && plainE e && plainE f && okE T c a e && okE T c b f) = true from h)
        obtain ⟨h3, h4⟩ := and2 h1
        obtain ⟨h5, h6⟩ := and2 h3
        obtain ⟨h7, h8⟩ := and2 h5
        obtain ⟨h9, h10⟩ := and2 h7
        have e1 := of_decide_eq_true h9
        subst e1
        exact pi_range2I G (G.gl h10) h8 h6 (ha c X W G tk _ h4).1 (hb c X W G tk _ h2).1
      | [], _, h => cases h
      | [_], _, h => cases h
      | [_, _], _ :: _, h => cases h
      | _ :: _ :: _ :: _, _, h => cases h
    | _ => cases h
  | _ => cases h
theorem okIt_enum {a : IE} (ha : OkE T RX k a) : OkIt T RX k (.enum a) := by
  intro c X W G tk tg e h
  cases tg with
  | Tuple elts kk tp =>
    cases e with
    | Call fe es kws p =>
      cases fe with
      | Name x q =>
        match es, kws, h with
        | [e], [], h =>
          obtain ⟨h1, h2⟩ := and2 (show (decide (x = "enumerate") && glB c x && plainE e && okE T c a e) = true from h)
          obtain ⟨h3, h4⟩ := and2 h1
          obtain ⟨h5, h6⟩ := and2 h3
          have e1 := of_decide_eq_true h5
          subst e1
          exact pi_enumI G (G.gl h6) h4 (ha c X W G tk _ h2).1
        | [], _, h => cases h
        | [_], _ :: _, h => cases h
        | _ :: _ :: _, _, h => cases h
      | _ => cases h
    | _ => cases h
  | _ => cases h
theorem okIt_zip {a b : IE} (ha : OkE T RX k a) (hb : OkE T RX k b) : OkIt T RX k (.zip a b) := by
  intro c X W G tk tg e h
  cases tg with
  | Tuple elts kk tp =>
    cases e with
    | Call fe es kws p =>
      cases fe with
      | Name x q =>
        match es, kws, h with
        | [e, f], [], h =>
          obtain ⟨h1, h2⟩ := and2 (show (decide (x = "zip") && glB c x && plainE e && plainE f && okE T c a e && okE T c b f) = true from h)
          obtain ⟨h3, h4⟩ := and2 h1
          obtain ⟨h5, h6⟩ := and2 h3
          obtain ⟨h7, h8⟩ := and2 h5
          obtain ⟨h9, h10⟩ := and2 h7
          have e1 := of_decide_eq_true h9
          subst e1
          exact pi_zipI G (G.gl h10) h8 h6 (ha c X W G tk _ h4).1 (hb c X W G tk _ h2).1
        | [], _, h => cases h
        | [_], _, h => cases h
        | [_, _], _ :: _, h => cases h
        | _ :: _ :: _ :: _, _, h => cases h
      | _ => cases h
    | _ => cases h
  | _ => cases h
end
section
variable (T : Ck) (RX : XRel) (k : Nat)
mutual
theorem all_e : ∀ ie : IE, OkE T RX k ie
  | .var i => okE_var i
  | .cint i => okE_cint i
  | .cstr i => okE_cstr i
  | .cbl i => okE_cbl i
  | .cnon => okE_cnon
  | .tup is => okE_tup (all_es is)
  | .lst is => okE_lst (all_es is)
  | .bin _ a b => okE_bin (all_e a) (all_e b)
  | .neg a => okE_neg (all_e a)
  | .cmp _ a b => okE_cmp (all_e a) (all_e b)
  | .chain _ _ a b c => okE_chain (all_e a) (all_e b) (all_e c)
  | .and a b => okE_and (all_e a) (all_e b)
  | .or a b => okE_or (all_e a) (all_e b)
  | .not a => okE_not (all_e a)
  | .ite a b c => okE_ite (all_e a) (all_e b) (all_e c)
  | .ix a b => okE_ix (all_e a) (all_e b)
  | .slice a lo hi => okE_slice (all_e a) (all_o lo) (all_o hi)
  | .rev a => okE_rev (all_e a)
  | .blt _ is => okE_blt (all_es is)
  | .lr a => okE_lr (all_e a)
  | .tr a => okE_tr (all_e a)
  | .isi a _ => okE_isi (all_e a)
  | .call _ is => okE_call (all_es is)
  | .callK _ is _ ws => okE_callK (all_es is) (all_es ws)
  | .meth _ o is => okE_meth (all_e o) (all_es is)
  | .lc _ _ it cn a => okE_lc (all_it it) (all_o cn) (all_e a)
theorem all_es : ∀ is : IEs, OkEs T RX k is
  | .nil => okEs_nil
  | .cons a is => okEs_cons (all_e a) (all_es is)
theorem all_o : ∀ o : IO, OkO T RX k o
  | .none => okO_none
  | .some a => okO_some (all_e a)
theorem all_it : ∀ it : IIt, OkIt T RX k it
  | .seq a => okIt_seq (all_e a)
  | .range1 a => okIt_range1 (all_e a)
  | .range2 a b => okIt_range2 (all_e a) (all_e b)
  | .enum a => okIt_enum (all_e a)
  | .zip a b => okIt_zip (all_e a) (all_e b)
end
end
end DI
end
section
namespace DI
open PySem L2 PySem.Spec
open PyProof.Rows hiding St
section
variable {K : PySem.W.Frag} {RX : XRel} {W : WX} {C : Cfg} {α α' α1 : List Addr} {H H' H1 : Hp} {b : Nat} {st : Store} {env : Evr} {σ : L2.St}
theorem tri_resc {β : Type} {t : T (β × Store)} {f : β → M (Fl × Evr)} {P : Nat → ((Fl × Evr) × Store) → Prop} {XP : Nat → Ex → Store → Prop} :
    Tri (t.resc env f) b P XP ↔ Tri t b (fun b' p => Tri (f p.1 p.2) b' P XP) (fun b' x st => P b' ((.exc x, env), st)) := by
  induction t generalizing b with
  | ret a => exact Iff.rfl
  | draw n k ih =>
    constructor
    · rintro ⟨b', e, h⟩
      exact ⟨b', e, fun v h0 h1 => (ih v).mp (h v h0 h1)⟩
    · rintro ⟨b', e, h⟩
      exact ⟨b', e, fun v h0 h1 => (ih v).mpr (h v h0 h1)⟩
  | exc x st => exact Iff.rfl
  | stuck => exact Iff.rfl
/-- where a statement ends -/
def EndF (K : PySem.W.Frag) (RX : XRel) (W : WX) (D : Ends) (α : List Addr) (H : Hp) (σ : L2.St) : Fl → Prop
  | .next => D.nx σ H
  | .brk => D.bk σ H
  | .cont => D.ct σ H
  | .ret d => ∀ v, RD K α H d v → D.rt v H
  | .exc x => ∀ cls dd, RX x cls dd H → W cls dd σ H
def PostS (K : PySem.W.Frag) (RX : XRel) (W : WX) (α : List Addr) (H : Hp) (D : Ends) : Nat → ((Fl × Evr) × Store) → Prop := fun b p => ∀ α' H' σ', Ext K α H α' H' → Rel K α' H' p.2 b → REnv K α' H' p.1.2 σ' → EndF K RX W D α' H' σ' p.1.1
theorem PostS.ext {D : Ends} {p : (Fl × Evr) × Store} (e : Ext K α H α' H') (h : PostS K RX W α H D b p) : PostS K RX W α' H' D b p := fun α2 H2 σ' e2 R r => h α2 H2 σ' (e.trans e2) R r
abbrev NX : Nat → Ex → Store → Prop := fun _ _ _ => False
variable (K RX W C) in
def ts (is : IS) : TS := fun D σ H => ∃ α st b env, Rel K α H st b ∧ REnv K α H env σ ∧ Tri (ex C is env st) b (PostS K RX W α H D) NX
variable (K RX W C) in
def tss (is : ISs) : TS := fun D σ H => ∃ α st b env, Rel K α H st b ∧ REnv K α H env σ ∧ Tri (exs C is env st) b (PostS K RX W α H D) NX
theorem triS {D : Ends} {t : T ((Fl × Evr) × Store)} (e : Ext K α H α' H') (h : Tri t b (PostS K RX W α H D) NX) : Tri t b (PostS K RX W α' H' D) NX :=
  tri_mono h (fun _ _ _ q => q.ext e) fun _ _ _ _ q => q
/-- an expression, then what is done with its answer -/
theorem doS {β : Type} {m : M β} {f : β → M (Fl × Evr)} {D : Ends} (E : REnv K α H env σ) (h : Tri (doE env m f st) b (PostS K RX W α H D) NX) :
    Tri (m st) b (fun b' p => Tri (f p.1 p.2) b' (PostS K RX W α H D) NX) (PostX K RX W σ α H) :=
  tri_mono (tri_resc.mp h) (fun _ _ _ q => q) fun _ x st _ q α1 H1 cls d e R r => q α1 H1 σ e R (E.ext e) cls d r
end
section
variable {X : Cx} {RX : XRel} {W : WX} {C : Cfg} {F : Tab} {KW : KwTab} {mods : List (Str × String)} {k : Nat} {c : CC} {e e1 e2 e3 : Expr} {ia ib : IE} {is : IEs} {pos p tpos : Pos} {tg : Expr}
theorem PS.imp {s : Stmt} {t t' : TS} (h : PS X s t) (i : ∀ D σ H, t' D σ H → t D σ H) : PS X s t' := ⟨fun pins s σ H D I q => h.run pins s σ H D I (i D σ H q)⟩
theorem PSs.imp {s : List Stmt} {t t' : TS} (h : PSs X s t) (i : ∀ D σ H, t' D σ H → t D σ H) : PSs X s t' := ⟨fun pins s σ H D I q => h.run pins s σ H D I (i D σ H q)⟩
/-- name = an expression, as it is read -/
theorem set_read {i : Nat} {D : Ends} {σ : L2.St} {H : Hp} (h : ts X.K RX W C (.set i ia) D σ H) : te X.K RX W C ia σ H (fun x H1 => D.nx (σ.set i (some x)) H1) := by
  obtain ⟨α, st, b, env, R, E, h⟩ := h
  exact ⟨α, st, b, env, R, E, tri_mono (doS E h) (fun b1 p _ h1 α1 H1 v x1 R1 rd => h1 α1 H1 _ x1 R1 ((E.ext x1).set i rd)) fun _ _ _ _ q => q⟩
theorem ps_setI (G : GX F KW mods RX k c X) {i : Nat} {x : Str} {pos' : Pos} (h1 : c.N[i]? = some x) (h2 : stoB c x = true) (hs : swapsWith e (some (.Name x pos')) pos.line X.env = pure false) (ha : PE X e (te X.K RX W C ia)) :
    PS X (.Assign [.Name x pos'] e pos) (ts X.K RX W C (.set i ia)) := by
  obtain ⟨hl, hf⟩ := G.sto x h2
  exact PS.imp (ps_set G.nd (by rw [G.N]; exact h1) hl ha hs hf) fun D σ H h => set_read h
theorem ps_setTI (G : GX F KW mods RX k c X) {tgs : List Nat} {es : List Expr} {n : Nat} {pos' : Pos} (ht : okTgs c tgs es = true) (hw : swappedStores [.Tuple es n pos'] e X.env = pure none) (ha : PE X e (te X.K RX W C ia)) :
    PS X (.Assign [.Tuple es n pos'] e pos) (ts X.K RX W C (.setT tgs ia)) := by
  refine PS.imp (ps_asg ha (pg_I G (tg := .tup tgs) (e := .Tuple es n pos') ht) ?_ hw rfl) fun D σ H h => ?_
  · show swapsWith e (some (.Tuple es n pos')) pos.line X.env = pure false
    cases e <;> rfl
  · obtain ⟨α, st, b, env, R, E, h⟩ := h
    refine ⟨α, st, b, env, R, E, tri_mono (doS E h) (fun b1 p _ h1 α1 H1 v x1 R1 rd => ?_) fun _ _ _ _ q => q⟩
    have h1 : Tri ((match bindTg (.tup tgs) p.1 env with | some env' => (mret (Fl.next, env') : M (Fl × Evr)) | none => mstuck) p.2) b1 (PostS X.K RX W α H D) NX := h1
    cases eb : bindTg (.tup tgs) p.1 env with
    | none =>
      rw [eb] at h1
      exact h1.elim
    | some env' =>
      rw [eb] at h1
      exact tgI_of (E.ext x1) rd eb fun σ' E' _ => h1 α1 H1 σ' x1 R1 E'
theorem sub_plain {o i : Expr} {env : Env} (h : plainE i = true) : ∀ v, assign (.Subscript o i pos) env v = (do
      let ov ← holding [v] (eval o env)
      let iv ← holding [v, ov] (eval i env)
      standAt pos
      holding [v, ov, iv] (setItem ov iv v)
      release [v, ov, iv] []) := by
  intro v
  cases i <;> first | rfl | cases h
theorem ps_setSubI {o i : Expr} {io ii : IE} (hp : plainE i = true) (ho : PE X o (te X.K RX W C io)) (hi : PE X i (te X.K RX W C ii)) (ha : PE X e (te X.K RX W C ia)) :
    PS X (.Assign [.Subscript o i tpos] e pos) (ts X.K RX W C (.setSub io ii ia)) := by
  refine PS.imp (ps_asg ha (pg_sub ho hi set_list (sub_plain hp)) ?_ rfl rfl) fun D σ H h => ?_
  · show swapsWith e (some (.Subscript o i tpos)) pos.line X.env = pure false
    cases e <;> rfl
  · obtain ⟨α, st, b, env, R, E, h⟩ := h
    refine te_then R E (doS E h) fun α1 H1 v st1 b1 d x1 R1 E1 r1 h1 => ?_
    refine te_then R1 E1 h1 fun α2 H2 u st2 b2 d2 x2 R2 E2 r2 h2 => ?_
    refine te_then R2 E2 h2 fun α3 H3 w st3 b3 d3 x3 R3 E3 r3 h3 => ?_
    cases r2 with
    | @ref n a hn =>
      cases r3 with
      | int kk =>
        have h3 : Tri ((match st3[n]? with
          | some (.lst true xs) => match ixN xs.length kk with
            | some j => T.ret ((), st3.set n (.lst true (xs.set j d)))
            | none => T.stuck
          | _ => T.stuck)) b3 (fun b' p => Tri ((mret (Fl.next, env) : M (Fl × Evr)) p.2) b' (PostS X.K RX W α H D) NX) _ := h3
        split at h3
        · rename_i xs e3
          split at h3
          · rename_i j ej
            have hn3 := x3.pre _ _ hn
            obtain ⟨vs, q1, q2⟩ := R3.lstW e3 hn3
            have x123 := (x1.trans x2).trans x3
            refine ⟨a, vs, kk, j, rfl, rfl, q1, by rw [← q2.length]; exact ej, ?_⟩
            exact h3 α3 _ σ (x123.trans (ext_upd q1)) (R3.setL e3 hn3 (q2.set (r1.ext (x2.trans x3)) j)) (E3.ext (ext_upd q1))
          · exact h3.elim
        · exact h3.elim
      | _ => exact h3.elim
    | _ => cases r3 <;> exact h3.elim
theorem ip_aug {op : Operator} : PIp X op (r2 X.K (augD op)) := by
  intro pins s σ H x y v u Q I rx ry h
  obtain ⟨α, st, b, d, e, R, r1, r2, XP, h⟩ := h
  cases op with
  | Add =>
    cases r1 <;> cases r2 <;> first | exact h.elim | skip
    · exact iop_add pins s σ H _ _ v u Q I rx ry ⟨_, _, rfl, rfl, PostV.here R (.int _) h⟩
    · obtain ⟨hc, h⟩ := tri_mif h
      exact iop_add_str pins s σ H _ _ v u Q I rx ry ⟨_, _, rfl, rfl, fits_le hc, PostV.here R (.str _) h⟩
  | Sub =>
    cases r1 <;> cases r2 <;> first | exact h.elim | skip
    exact iop_sub pins s σ H _ _ v u Q I rx ry ⟨_, _, rfl, rfl, PostV.here R (.int _) h⟩
  | Mult =>
    cases r1 <;> cases r2 <;> first | exact h.elim | skip
    obtain ⟨hc, h⟩ := tri_mif h
    refine iop_mul pins s σ H _ _ v u Q I rx ry ⟨_, _, rfl, rfl, ?_, PostV.here R (.int _) h⟩
    rcases Bool.or_eq_true_iff.mp hc with q | q
    · obtain ⟨q1, q2⟩ := Bool.and_eq_true_iff.mp q
      exact .inl ⟨of_decide_eq_true q1, of_decide_eq_true q2⟩
    · obtain ⟨q1, q2⟩ := Bool.and_eq_true_iff.mp q
      exact .inr ⟨of_decide_eq_true q1, of_decide_eq_true q2⟩
  | _ => exact h.elim
theorem ps_augI (G : GX F KW mods RX k c X) {i : Nat} {x : Str} {pos' : Pos} {op : Operator} (h1 : c.N[i]? = some x) (h2 : stoB c x = true) (ha : PE X e (te X.K RX W C ia)) :
    PS X (.AugAssign (.Name x pos') op e pos) (ts X.K RX W C (.aug i op ia)) := by
  obtain ⟨hl, hf⟩ := G.sto x h2
  refine PS.imp (ps_aug G.nd (by rw [G.N]; exact h1) hl ha ip_aug hf) fun D σ H h => ?_
  obtain ⟨α, st, b, env, R, E, h⟩ := h
  have h := tri_bind.mp (doS E h)
  obtain ⟨d, e1, h⟩ := tri_mopt h
  cases ei : env[i]? with
  | none =>
    rw [ei] at e1
    cases e1
  | some o =>
    rw [ei] at e1
    have e1 : o = some d := e1
    subst e1
    obtain ⟨v, q1, q2⟩ := E.at_ i d ei
    refine ⟨v, q1, te_then R E h fun α1 H1 u st1 b1 d1 x1 R1 E1 r1 h1 => ?_⟩
    exact ⟨α1, st1, b1, d, d1, R1, q2.ext x1, r1, _, tri_mono h1 (fun b2 p _ q α2 H2 z x2 R2 rz => q α2 H2 _ (x1.trans x2) R2 ((E1.ext x2).set i rz)) fun _ _ _ _ q => q⟩
theorem ps_exprI (hn : noComp e = true) (ha : PE X e (te X.K RX W C ia)) : PS X (.Expr e pos) (ts X.K RX W C (.expr ia)) := by
  refine PS.imp (ps_expr ha (swap_none hn)) fun D σ H h => ?_
  obtain ⟨α, st, b, env, R, E, h⟩ := h
  exact ⟨α, st, b, env, R, E, tri_mono (doS E h) (fun b1 p _ h1 α1 H1 v x1 R1 rd => h1 α1 H1 _ x1 R1 (E.ext x1)) fun _ _ _ _ q => q⟩
theorem ps_retI (ha : PE X e (te X.K RX W C ia)) : PS X (.Return (some e) pos) (ts X.K RX W C (.ret ia)) := by
  refine PS.imp (ps_ret ha) fun D σ H h => ?_
  obtain ⟨α, st, b, env, R, E, h⟩ := h
  exact ⟨α, st, b, env, R, E, tri_mono (doS E h) (fun b1 p _ h1 α1 H1 v x1 R1 rd => h1 α1 H1 σ x1 R1 (E.ext x1) v rd) fun _ _ _ _ q => q⟩
theorem ps_iteI {as bs : List Stmt} {ja jb : ISs} (hc : PT X e (tt X.K RX W C ia)) (ha : PSs X as (tss X.K RX W C ja)) (hb : PSs X bs (tss X.K RX W C jb)) : PS X (.If e as bs pos) (ts X.K RX W C (.ite ia ja jb)) := by
  refine PS.imp (ps_if hc ha hb) fun D σ H h => ?_
  obtain ⟨α, st, b, env, R, E, h⟩ := h
  refine ⟨α, st, b, env, R, E, tri_mono (doS E h) (fun b1 p _ h1 α1 H1 x1 R1 => ?_) fun _ _ _ _ q => q⟩
  obtain ⟨kk, st1⟩ := p
  cases kk with
  | true => exact ⟨α1, st1, b1, env, R1, E.ext x1, triS x1 h1⟩
  | false => exact ⟨α1, st1, b1, env, R1, E.ext x1, triS x1 h1⟩
theorem ps_passI : PS X (.Pass pos) (ts X.K RX W C .pass) := PS.imp ps_pass fun D σ H ⟨α, st, b, env, R, E, h⟩ => h α H σ (.refl _ _) R E
theorem ps_brkI : PS X (.Break pos) (ts X.K RX W C .brk) := PS.imp ps_break fun D σ H ⟨α, st, b, env, R, E, h⟩ => h α H σ (.refl _ _) R E
theorem ps_contI : PS X (.Continue pos) (ts X.K RX W C .cont) := PS.imp ps_continue fun D σ H ⟨α, st, b, env, R, E, h⟩ => h α H σ (.refl _ _) R E
theorem pss_nilI : PSs X [] (tss X.K RX W C .nil) := PSs.imp pss_nil fun D σ H ⟨α, st, b, env, R, E, h⟩ => h α H σ (.refl _ _) R E
theorem pss_consI {s : Stmt} {ss : List Stmt} {js : IS} {jss : ISs} (h1 : PS X s (ts X.K RX W C js)) (h2 : PSs X ss (tss X.K RX W C jss)) : PSs X (s :: ss) (tss X.K RX W C (.cons js jss)) := by
  refine PSs.imp (pss_cons h1 h2) fun D σ H h => ?_
  obtain ⟨α, st, b, env, R, E, h⟩ := h
  refine ⟨α, st, b, env, R, E, tri_mono (tri_bind.mp h) (fun b1 p _ h1 α1 H1 σ1 x1 R1 E1 => ?_) fun _ _ _ _ q => q⟩
  obtain ⟨⟨fl, env1⟩, st1⟩ := p
  cases fl with
  | next => exact ⟨α1, st1, b1, env1, R1, E1, triS x1 h1⟩
  | brk => exact h1 α1 H1 σ1 x1 R1 E1
  | cont => exact h1 α1 H1 σ1 x1 R1 E1
  | ret d => exact h1 α1 H1 σ1 x1 R1 E1
  | exc x => exact h1 α1 H1 σ1 x1 R1 E1
theorem ps_forI (G : GX F KW mods RX k c X) (hp : PassesOwn (model X.prog X.w) X.A X.env X.xe) {body : List Stmt} {jb : ISs} {it : IIt} {tgi : ITg} (hx : plainE e = true) (hi : PI X tg e (ti X.K RX W C it)) (hg : okTg c tgi tg = true) (hb : PSs X body (tss X.K RX W C jb)) :
    PS X (.For tg e body [] pos) (ts X.K RX W C (.for tgi it jb)) := by
  refine PS.imp (ps_for hp G.calm hi (pg_I G hg) hb (folded_plain hx)) fun D σ H h => ?_
  obtain ⟨α, st, b, env, R, E, h⟩ := h
  refine ⟨α, st, b, env, R, E, tri_mono (doS E h) (fun b1 p _ h1 α1 H1 J x1 R1 pj => ?_) fun _ _ _ _ q => q⟩
  obtain ⟨pl, st1⟩ := p
  have h1 : Tri (forLoop (exs C jb) tgi pl (plLen pl) 0 env st1) b1 (PostS X.K RX W α H D) NX := h1
  refine ⟨fun i m σ2 H2 => ∃ α2 st2 b2 env2, Ext X.K α1 H1 α2 H2 ∧ Rel X.K α2 H2 st2 b2 ∧ REnv X.K α2 H2 env2 σ2 ∧ i + m = plLen pl ∧ Tri (forLoop (exs C jb) tgi pl m i env2 st2) b2 (PostS X.K RX W α2 H2 D) NX,
    ⟨plLen pl, α1, st1, b1, env, .refl _ _, R1, E.ext x1, by omega, triS x1 h1⟩, ?_⟩
  rintro i m σ2 H2 ⟨α2, st2, b2, env2, x2, R2, E2, him, h2⟩
  have pj2 := pj.ext x2
  cases m with
  | zero =>
    obtain ⟨hc, h2⟩ := tri_mif h2
    exact .inl ⟨plJ_stop R2 pj2 hc (by omega), h2 α2 H2 σ2 (.refl _ _) R2 E2⟩
  | succ m =>
    have h2 : Tri (match plItem st2 pl i with
      | none => T.stuck
      | some x => match bindTg tgi x env2 with
        | none => T.stuck
        | some env1 => (exs C jb env1 st2).bind fun p => match p.1.1 with
          | .next => forLoop (exs C jb) tgi pl m (i + 1) p.1.2 p.2
          | .cont => forLoop (exs C jb) tgi pl m (i + 1) p.1.2 p.2
          | .brk => .ret ((.next, p.1.2), p.2)
          | .ret v => .ret ((.ret v, p.1.2), p.2)
          | .exc x => .ret ((.exc x, p.1.2), p.2)) b2 (PostS X.K RX W α2 H2 D) NX := h2
    cases ex : plItem st2 pl i with
    | none =>
      rw [ex] at h2
      exact h2.elim
    | some x =>
      rw [ex] at h2
      obtain ⟨go, gv⟩ := plJ_go R2 pj2 ex
      refine .inr ⟨go, fun σ3 H3 => ∃ m', m' < m + 1 ∧ ∃ α2 st2 b2 env2, Ext X.K α1 H1 α2 H3 ∧ Rel X.K α2 H3 st2 b2 ∧ REnv X.K α2 H3 env2 σ3 ∧ (i + 1) + m' = plLen pl ∧ Tri (forLoop (exs C jb) tgi pl m' (i + 1) env2 st2) b2 (PostS X.K RX W α2 H3 D) NX,
        fun σ3 H3 q => q, fun v H3 hy => ?_⟩
      obtain ⟨x3, R3, r3⟩ := gv v H3 hy
      have h2 : Tri (match bindTg tgi x env2 with
        | none => T.stuck
        | some env1 => (exs C jb env1 st2).bind fun p => match p.1.1 with
          | .next => forLoop (exs C jb) tgi pl m (i + 1) p.1.2 p.2
          | .cont => forLoop (exs C jb) tgi pl m (i + 1) p.1.2 p.2
          | .brk => .ret ((.next, p.1.2), p.2)
          | .ret v => .ret ((.ret v, p.1.2), p.2)
          | .exc x => .ret ((.exc x, p.1.2), p.2)) b2 (PostS X.K RX W α2 H2 D) NX := h2
      cases eb : bindTg tgi x env2 with
      | none =>
        rw [eb] at h2
        exact h2.elim
      | some env1 =>
        rw [eb] at h2
        refine tgI_of (E2.ext x3) r3 eb fun σ' E' _ => ?_
        refine ⟨α2, st2, b2, env1, R3, E', tri_mono (tri_bind.mp h2) (fun b4 p _ h4 α4 H4 σ4 x4 R4 E4 => ?_) fun _ _ _ _ q => q⟩
        obtain ⟨⟨fl, env4⟩, st4⟩ := p
        have x34 := x3.trans x4
        cases fl with
        | next => exact ⟨m, Nat.lt_succ_self _, α4, st4, b4, env4, x2.trans x34, R4, E4, by omega, triS x34 h4⟩
        | cont => exact ⟨m, Nat.lt_succ_self _, α4, st4, b4, env4, x2.trans x34, R4, E4, by omega, triS x34 h4⟩
        | brk => exact h4 α4 H4 σ4 x34 R4 E4
        | ret d => exact h4 α4 H4 σ4 x34 R4 E4
        | exc x => exact h4 α4 H4 σ4 x34 R4 E4
theorem ps_whileI (hp : PassesOwn (model X.prog X.w) X.A X.env X.xe) {body : List Stmt} {jb : ISs} (hc : PT X e (tt X.K RX W C ia)) (hb : PSs X body (tss X.K RX W C jb)) :
    PS X (.While e body [] pos) (ts X.K RX W C (.while ia jb)) := by
  refine PS.imp (ps_while hp hc hb) fun D σ H h => ?_
  obtain ⟨α, st, b, env, R, E, h⟩ := h
  refine ⟨fun m σ2 H2 => ∃ α2 st2 b2 env2, Ext X.K α H α2 H2 ∧ Rel X.K α2 H2 st2 b2 ∧ REnv X.K α2 H2 env2 σ2 ∧ Tri (whileLoop (fun env => mbind (ev C ia env) truthD) (exs C jb) m env2 st2) b2 (PostS X.K RX W α2 H2 D) NX,
    ⟨turns, α, st, b, env, .refl _ _, R, E, h⟩, ?_⟩
  rintro m σ2 H2 ⟨α2, st2, b2, env2, x2, R2, E2, h2⟩
  cases m with
  | zero => exact h2.elim
  | succ m =>
    refine ⟨α2, st2, b2, env2, R2, E2, tri_mono (doS E2 h2) (fun b3 p _ h3 α3 H3 x3 R3 => ?_) fun _ _ _ _ q => q⟩
    obtain ⟨kk, st3⟩ := p
    cases kk with
    | false => exact h3 α3 H3 σ2 x3 R3 (E2.ext x3)
    | true =>
      rw [if_pos rfl]
      refine ⟨fun σ4 H4 => ∃ m', m' < m + 1 ∧ ∃ α2 st2 b2 env2, Ext X.K α H α2 H4 ∧ Rel X.K α2 H4 st2 b2 ∧ REnv X.K α2 H4 env2 σ4 ∧ Tri (whileLoop (fun env => mbind (ev C ia env) truthD) (exs C jb) m' env2 st2) b2 (PostS X.K RX W α2 H4 D) NX, fun _ _ q => q, ?_⟩
      refine ⟨α3, st3, b3, env2, R3, E2.ext x3, tri_mono (tri_bind.mp h3) (fun b4 p _ h4 α4 H4 σ4 x4 R4 E4 => ?_) fun _ _ _ _ q => q⟩
      obtain ⟨⟨fl, env4⟩, st4⟩ := p
      have x34 := x3.trans x4
      cases fl with
      | next => exact ⟨m, Nat.lt_succ_self _, α4, st4, b4, env4, x2.trans x34, R4, E4, triS x34 h4⟩
      | cont => exact ⟨m, Nat.lt_succ_self _, α4, st4, b4, env4, x2.trans x34, R4, E4, triS x34 h4⟩
      | brk => exact h4 α4 H4 σ4 x34 R4 E4
      | ret d => exact h4 α4 H4 σ4 x34 R4 E4
      | exc x => exact h4 α4 H4 σ4 x34 R4 E4
end
end DI
end
section
namespace DI
open PySem L2 PySem.Spec
open PyProof.Rows hiding St
def starB : Expr → Bool
  | .Starred .. => true
  | _ => false
def swName (sc : Scope) (line : Nat) : Expr → Option Str
  | .Name id pos => if sc.names.lookup id == some .local && pos.line == line then some id else none
  | _ => none
def swNames (sc : Scope) (ts : List Expr) : List Str := ts.filterMap (swName sc ((ts.head?.map (·.pos.line)).getD 0))
def swDec (sc : Scope) (ts vs : List Expr) : Option (Option (List Str)) :=
  match !(ts.length == 2 || ts.length == 3) || vs.length != ts.length with
  | true => some none
  | false => match vs.any starB with
    | true => some none
    | false => match (swNames sc ts).length != ts.length || (swNames sc ts).eraseDups.length != (swNames sc ts).length with
      | true => some none
      | false => match vs.all (foldedForSure 8) with
        | true => some none
        | false => match vs.all (constantsAlone 8) with
          | true => none
          | false => some (some (swNames sc ts))
theorem sw_dec {env : Env} {es vs : List Expr} {k k2 : Nat} {p p2 : Pos} {r : Option (List Str)} (hk : env.scope.kind = .function) (h : swDec env.scope es vs = some r) : swappedStores [.Tuple es k p] (.Tuple vs k2 p2) env = pure r := by
  have hb : (env.blockKind != .function) = false := by unfold Env.blockKind; rw [hk]; rfl
  have key : swappedStores [.Tuple es k p] (.Tuple vs k2 p2) env = (if (!(es.length == 2 || es.length == 3) || vs.length != es.length || env.blockKind != .function) = true then pure none else if vs.any starB = true then pure none else
    if ((swNames env.scope es).length != es.length || (swNames env.scope es).eraseDups.length != (swNames env.scope es).length) = true then pure none else if vs.all (foldedForSure 8) = true then pure none else
    if vs.all (constantsAlone 8) = true then (do unsupported "assign.tuple-of-constant-expressions:order-of-the-stores"; pure (some (swNames env.scope es))) else pure (some (swNames env.scope es))) := rfl
  rw [key, hb, Bool.or_false]
  unfold swDec at h
  split at h
  · rename_i c1
    cases h
    rw [c1, if_pos rfl]
  · rename_i c1
    rw [c1, if_neg Bool.false_ne_true]
    split at h
    · rename_i c2
      cases h
      rw [c2, if_pos rfl]
    · rename_i c2
      rw [c2, if_neg Bool.false_ne_true]
      split at h
      · rename_i c3
        cases h
        rw [c3, if_pos rfl]
      · rename_i c3
        rw [c3, if_neg Bool.false_ne_true]
        split at h
        · rename_i c4
          cases h
          rw [c4, if_pos rfl]
        · rename_i c4
          rw [c4, if_neg Bool.false_ne_true]
          split at h
          · cases h
          · rename_i c5
            cases h
            rw [c5, if_neg Bool.false_ne_true]
/-- name = [..]: stored within the comprehension -/
def swB (sc scope : Scope) (t : Str) (p pos : Pos) : Bool := sc.names.lookup t == some .local && p.line == pos.line && !(scope.names.any fun (n, k) => n == t && (k == .local || k == .cell))
theorem sw_lc {env : Env} {elt : Expr} {gs : List Comprehension} {scope : Scope} {pos py : Pos} {y : Str} {l : Nat} (hk : env.scope.kind = .function) : swapsWith (.ListComp elt gs scope pos) (some (.Name y py)) l env = pure (swB env.scope scope y py pos) := by
  have hb : (env.blockKind == .function) = true := by unfold Env.blockKind; rw [hk]; rfl
  have key : swapsWith (.ListComp elt gs scope pos) (some (.Name y py)) l env = pure (env.blockKind == .function && env.kindOf y == some .local && py.line == pos.line && !(scope.names.any fun (n, k) => n == y && (k == .local || k == .cell))) := rfl
  rw [key, hb]
  rfl
section
variable {X : Cx} {RX : XRel} {W : WX} {C : Cfg} {F : Tab} {KW : KwTab} {mods : List (Str × String)} {k : Nat} {c : CC} {e e1 e2 e3 : Expr} {ia ib : IE} {is : IEs} {pos p tpos : Pos} {tg : Expr}
/-- a, b = x, y: stored from the right -/
theorem par_read {ts : List Nat} {D : Ends} {σ : L2.St} {H : Hp} (h : DI.ts X.K RX W C (.par ts is) D σ H) : ta X.K RX W C is σ H (fun vs H1 => vs.length = ts.length ∧ D.nx (setSg ts vs σ) H1) := by
  obtain ⟨α, st, b, env, R, E, h⟩ := h
  refine ⟨α, st, b, env, R, E, tri_mono (doS E h) (fun b1 p _ h1 α1 H1 v x1 R1 rd => ?_) fun _ _ _ _ q => q⟩
  have h1 : Tri ((match setEnvs ts p.1 env with | some env' => (mret (Fl.next, env') : M (Fl × Evr)) | none => mstuck) p.2) b1 (PostS X.K RX W α H D) NX := h1
  cases eb : setEnvs ts p.1 env with
  | none =>
    rw [eb] at h1
    exact h1.elim
  | some env' =>
    rw [eb] at h1
    obtain ⟨q1, q2⟩ := setEnvs_of (E.ext x1) rd eb
    exact ⟨q1, h1 α1 H1 _ x1 R1 q2⟩
theorem ps_parI2 (G : GX F KW mods RX k c X) {i j : Nat} {x y : Str} {a b : Expr} {px py pt pt2 : Pos} {kt k2 : Nat} (hi : c.N[i]? = some x) (hj : c.N[j]? = some y) (hij : i ≠ j) (hx : c.sc.names.lookup x = some .local) (hy : c.sc.names.lookup y = some .local)
    (hk : c.sc.kind = .function) (hw : swDec c.sc [.Name x px, .Name y py] [a, b] = some (some [x, y])) (ha : PA X [a, b] (ta X.K RX W C is)) :
    PS X (.Assign [.Tuple [.Name x px, .Name y py] kt pt] (.Tuple [a, b] k2 pt2) pos) (ts X.K RX W C (.par [i, j] is)) := by
  rw [← G.sc] at hx hy hk hw
  refine PS.imp (ps_par G.calm G.nd (by rw [G.N]; exact hi) (by rw [G.N]; exact hj) hij hx hy ha (sw_dec hk hw) rfl) fun D σ H h => ?_
  obtain ⟨α, st, b, env, R, E, h⟩ := par_read h
  refine ⟨α, st, b, env, R, E, tri_mono h (fun b1 p _ h1 α1 H1 v x1 R1 rd => ?_) fun _ _ _ _ q => q⟩
  obtain ⟨l, q⟩ := h1 α1 H1 v x1 R1 rd
  match v, l, q with
  | [v1, v2], _, q => exact ⟨v1, v2, rfl, q⟩
theorem ps_parI3 (G : GX F KW mods RX k c X) {i j l : Nat} {x y z : Str} {a b d : Expr} {px py pz pt pt2 : Pos} {kt k2 : Nat} (hi : c.N[i]? = some x) (hj : c.N[j]? = some y) (hl : c.N[l]? = some z) (hij : i ≠ j) (hil : i ≠ l) (hjl : j ≠ l)
    (hx : c.sc.names.lookup x = some .local) (hy : c.sc.names.lookup y = some .local) (hz : c.sc.names.lookup z = some .local)
    (hk : c.sc.kind = .function) (hw : swDec c.sc [.Name x px, .Name y py, .Name z pz] [a, b, d] = some (some [x, y, z])) (ha : PA X [a, b, d] (ta X.K RX W C is)) :
    PS X (.Assign [.Tuple [.Name x px, .Name y py, .Name z pz] kt pt] (.Tuple [a, b, d] k2 pt2) pos) (ts X.K RX W C (.par [i, j, l] is)) := by
  rw [← G.sc] at hx hy hz hk hw
  refine PS.imp (ps_par3 G.calm G.nd (by rw [G.N]; exact hi) (by rw [G.N]; exact hj) (by rw [G.N]; exact hl) hij hil hjl hx hy hz ha (sw_dec hk hw) rfl) fun D σ H h => ?_
  obtain ⟨α, st, b, env, R, E, h⟩ := par_read h
  refine ⟨α, st, b, env, R, E, tri_mono h (fun b1 p _ h1 α1 H1 v x1 R1 rd => ?_) fun _ _ _ _ q => q⟩
  obtain ⟨l, q⟩ := h1 α1 H1 v x1 R1 rd
  match v, l, q with
  | [v1, v2, v3], _, q => exact ⟨v1, v2, v3, rfl, q⟩
theorem ps_parT (G : GX F KW mods RX k c X) {tgs : List Nat} {es vs : List Expr} {n n2 : Nat} {pos' pos2 : Pos} (ht : okTgs c tgs es = true) (hf : fits is.len = true) (hk : c.sc.kind = .function) (hw : swDec c.sc es vs = some none) (ha : PA X vs (ta X.K RX W C is)) :
    PS X (.Assign [.Tuple es n pos'] (.Tuple vs n2 pos2) pos) (ts X.K RX W C (.par tgs is)) := by
  rw [← G.sc] at hk hw
  refine PS.imp (ps_asg (pe_tupI ha) (pg_I G (tg := .tup tgs) (e := .Tuple es n pos') ht) rfl (sw_dec hk hw) rfl) fun D σ H h => ?_
  obtain ⟨α, st, b, env, R, E, h⟩ := h
  refine ⟨α, st, b, env, R, E, tri_bind.mpr (tri_mono (evs_len is (doS E h)) (fun b1 p _ h1 => ?_) fun _ _ _ _ q => q)⟩
  obtain ⟨h1, l⟩ := h1
  show Tri (mif (fits p.1.length) (mret (DI.D.tup p.1)) p.2) b1 _ _
  rw [l, hf]
  intro α1 H1 v x1 R1 rd
  have h1 : Tri ((match setEnvs tgs p.1 env with | some env' => (mret (Fl.next, env') : M (Fl × Evr)) | none => mstuck) p.2) b1 (PostS X.K RX W α H D) NX := h1
  cases eb : setEnvs tgs p.1 env with
  | none =>
    rw [eb] at h1
    exact h1.elim
  | some env' =>
    rw [eb] at h1
    exact tgI_of (tg := .tup tgs) (E.ext x1) rd eb fun σ' E' _ => h1 α1 H1 σ' x1 R1 E'
end
/-! ### the check of statements -/
def locB (c : CC) (x : Str) : Bool := match c.sc.names.lookup x with
  | some .local => true
  | _ => false
theorem locB_of {c : CC} {x : Str} (h : locB c x = true) : c.sc.names.lookup x = some .local := by
  unfold locB at h
  split at h
  · rename_i e; exact e
  · cases h
def fkB (c : CC) : Bool := match c.sc.kind with
  | .function => true
  | _ => false
theorem fkB_of {c : CC} (h : fkB c = true) : c.sc.kind = .function := by
  unfold fkB at h
  split at h
  · rename_i e; exact e
  · cases h
/-- name = e: the value is not stored within it; or: it is, and the name is a local -/
def setB (c : CC) (x : Str) (p : Pos) : Expr → Bool
  | .ListComp _ _ scope lp => fkB c && (!swB c.sc scope x p lp || locB c x)
  | e => noComp e
def noTupB : Expr → Bool
  | .Tuple .. => false
  | _ => true
/-- a, b = x, y -/
def parB (c : CC) (tgs : List Nat) (es vs : List Expr) : Bool := fkB c && (match swDec c.sc es vs with
  | some none => okTgs c tgs es && fits vs.length
  | some (some ns) => (match es, vs, tgs, ns with
    | [.Name x _, .Name y _], [_, _], [i, j], [x2, y2] => decide (x = x2) && decide (y = y2) && decide (c.N[i]? = some x) && decide (c.N[j]? = some y) && decide (i ≠ j) && locB c x && locB c y
    | [.Name x _, .Name y _, .Name z _], [_, _, _], [i, j, l], [x2, y2, z2] => decide (x = x2) && decide (y = y2) && decide (z = z2) && decide (c.N[i]? = some x) && decide (c.N[j]? = some y) && decide (c.N[l]? = some z) && decide (i ≠ j) && decide (i ≠ l) && decide (j ≠ l) && locB c x && locB c y && locB c z
    | _, _, _, _ => false)
  | none => false)
mutual
def okS (T : Ck) (c : CC) : IS → Stmt → Bool
  | .set i a, .Assign [.Name x p] e _ => decide (c.N[i]? = some x) && stoB c x && setB c x p e && okE T c a e
  | .setT tgs a, .Assign [.Tuple es _ _] e _ => noTupB e && okTgs c tgs es && okE T c a e
  | .par tgs is, .Assign [.Tuple es _ _] (.Tuple vs _ _) _ => parB c tgs es vs && okEs T c is vs
  | .setSub o i a, .Assign [.Subscript eo ei _] e _ => plainE ei && okE T c o eo && okE T c i ei && okE T c a e
  | .aug i op a, .AugAssign (.Name x _) op2 e _ => decide (c.N[i]? = some x) && stoB c x && decide (op = op2) && okE T c a e
  | .expr a, .Expr e _ => noComp e && okE T c a e
  | .ret a, .Return (.some e) _ => okE T c a e
  | .ret .cnon, .Return .none _ => true
  | .ite t a b, .If e as bs _ => tstB t && okE T c t e && okSs T c a as && okSs T c b bs
  | .for tg it a, .For tge iter as [] _ => plainE iter && okIt T c it tge iter && okTg c tg tge && okSs T c a as
  | .while t a, .While e as [] _ => tstB t && okE T c t e && okSs T c a as
  | .pass, .Pass _ => true
  | .brk, .Break _ => true
  | .cont, .Continue _ => true
  | _, _ => false
def okSs (T : Ck) (c : CC) : ISs → List Stmt → Bool
  | .nil, [] => true
  | .cons a as, s :: ss => okS T c a s && okSs T c as ss
  | _, _ => false
end
section
variable (T : Ck) (RX : XRel) (k : Nat)
def OkS (is : IS) : Prop := ∀ (c : CC) (X : Cx) (W : WX), GXk T RX k c X → Takes X W → PassesOwn (model X.prog X.w) X.A X.env X.xe → ∀ s, okS T c is s = true → PS X s (ts X.K RX W (cfg T.F k) is)
def OkSs (is : ISs) : Prop := ∀ (c : CC) (X : Cx) (W : WX), GXk T RX k c X → Takes X W → PassesOwn (model X.prog X.w) X.A X.env X.xe → ∀ s, okSs T c is s = true → PSs X s (tss X.K RX W (cfg T.F k) is)
variable {T RX k}
theorem okEs_len {c : CC} : ∀ (is : IEs) (es : List Expr), okEs T c is es = true → is.len = es.length
  | .nil, [], _ => rfl
  | .nil, _ :: _, h => by cases h
  | .cons _ _, [], h => by cases h
  | .cons a is, e :: es, h => by
    obtain ⟨_, h2⟩ := and2 (show (plainE e && okE T c a e && okEs T c is es) = true from h)
    show is.len + 1 = es.length + 1
    rw [okEs_len is es h2]
theorem ok_setLc {i : Nat} {x : Str} {p pos lp : Pos} {elt : Expr} {gens : List Comprehension} {scope : Scope} {a : IE} {c : CC} {X : Cx} {W : WX} (G : GXk T RX k c X) (tk : Takes X W) (h1 : c.N[i]? = some x) (h2 : c.sc.names.lookup x = some .local)
    (hf : c.sc.kind = .function) (hs : swB c.sc scope x p lp = true) (h : okE T c a (.ListComp elt gens scope lp) = true) : PS X (.Assign [.Name x p] (.ListComp elt gens scope lp) pos) (ts X.K RX W (cfg T.F k) (.set i a)) := by
  cases a with
  | lc own tg it cn a =>
    match gens, h with
    | [], h => cases h
    | g :: _ :: _, h =>
      obtain ⟨g1, g2, g3, g4⟩ := g
      cases h
    | [⟨tge, iter, ifs, n⟩], h =>
      obtain ⟨h3, h4⟩ := and2 (show (decide (n = 0) && blkC c.N c.sc scope own && okTg (c.blk scope) tg tge && (tgSlots tg).all (fun i => (own.map (·.2)).contains i) && plainE iter && okIt T c it tge iter && okC T (c.blk scope) cn ifs && okE T (c.blk scope) a elt) = true from h)
      obtain ⟨h3, g1⟩ := and2 h3
      obtain ⟨h3, g2⟩ := and2 h3
      obtain ⟨h3, g3⟩ := and2 h3
      obtain ⟨h3, g4⟩ := and2 h3
      obtain ⟨h3, g5⟩ := and2 h3
      obtain ⟨h3, g6⟩ := and2 h3
      have e1 := of_decide_eq_true h3
      subst e1
      have ok : BlkOk X.N X.env.scope scope own := by
        rw [G.N, G.sc]
        exact blkOk_by g6
      have hown : ∀ i ∈ tgSlots tg, i ∈ own.map (·.2) := fun i hi => List.contains_iff_mem.mp (List.all_eq_true.mp g4 i hi)
      refine PS.imp (ps_setLc G.calm G.nd (by rw [G.N]; exact h1) (by rw [G.sc]; exact h2) ?_ (all_it T RX k it c X W G tk _ _ g2) ok (fun s H C' cl fp => pg_I (G.blk s H scope cl C' fp) g5) (fun s H C' cl fp => (all_o T RX k cn _ _ WF (G.blk s H scope cl C' fp) takes0).2 _ g1 rfl)
        (fun s H C' cl fp => (all_e T RX k a _ _ WF (G.blk s H scope cl C' fp) takes0 _ h4).1) (folded_plain g3)) fun D σ H h => lc_read hown (set_read h)
      rw [sw_lc (by rw [G.sc]; exact hf), G.sc, hs]
  | _ => cases h
theorem okS_set {i : Nat} {a : IE} : OkS T RX k (.set i a) := by
  intro c X W G tk hp s h
  cases s with
  | Assign tgs e pos =>
    match tgs, h with
    | [.Name x p], h =>
      obtain ⟨h1, h2⟩ := and2 (show (decide (c.N[i]? = some x) && stoB c x && setB c x p e && okE T c a e) = true from h)
      obtain ⟨h3, h4⟩ := and2 h1
      obtain ⟨h5, h6⟩ := and2 h3
      have ha := (all_e T RX k a c X W G tk e h2).1
      by_cases hn : noComp e = true
      · exact ps_setI G (of_decide_eq_true h5) h6 (swap_some hn) ha
      · cases e with
        | ListComp elt gens scope lp =>
          obtain ⟨h7, h8⟩ := and2 (show (fkB c && (!swB c.sc scope x p lp || locB c x)) = true from h4)
          have hf := fkB_of h7
          cases hs : swB c.sc scope x p lp with
          | false => exact ps_setI G (of_decide_eq_true h5) h6 (by rw [sw_lc (by rw [G.sc]; exact hf), G.sc, hs]) ha
          | true =>
            rw [hs] at h8
            exact ok_setLc G tk (of_decide_eq_true h5) (locB_of h8) hf hs h2
        | SetComp => cases h4
        | DictComp => cases h4
        | _ => exact absurd rfl hn
  | _ => cases h
theorem okS_setT {tgs : List Nat} {a : IE} : OkS T RX k (.setT tgs a) := by
  intro c X W G tk hp s h
  cases s with
  | Assign tg e pos =>
    match tg, h with
    | [.Tuple es n p], h =>
      obtain ⟨h1, h2⟩ := and2 (show (noTupB e && okTgs c tgs es && okE T c a e) = true from h)
      obtain ⟨h3, h4⟩ := and2 h1
      refine ps_setTI G h4 ?_ (all_e T RX k a c X W G tk e h2).1
      cases e <;> first | rfl | cases h3
  | _ => cases h
theorem okS_par {tgs : List Nat} {is : IEs} : OkS T RX k (.par tgs is) := by
  intro c X W G tk hp s h
  cases s with
  | Assign tg e pos =>
    match tg, e, h with
    | [.Tuple es n p], .Tuple vs n2 p2, h =>
      obtain ⟨h1, h2⟩ := and2 (show (parB c tgs es vs && okEs T c is vs) = true from h)
      have ha := ((all_es T RX k is c X W G tk).1 vs h2).1
      have hl := okEs_len is vs h2
      unfold parB at h1
      obtain ⟨h3, h4⟩ := and2 h1
      have hf := fkB_of h3
      split at h4
      · rename_i e4
        obtain ⟨h5, h6⟩ := and2 h4
        exact ps_parT G h5 (by rw [hl]; exact h6) hf e4 ha
      · rename_i ns e4
        split at h4
        · rename_i x px y py a1 a2 i j x2 y2
          simp only [Bool.and_eq_true, decide_eq_true_eq] at h4
          obtain ⟨⟨⟨⟨⟨⟨q1, q2⟩, q3⟩, q4⟩, q5⟩, q6⟩, q7⟩ := h4
          subst q1 q2
          exact ps_parI2 G q3 q4 q5 (locB_of q6) (locB_of q7) hf e4 ha
        · rename_i x px y py z pz a1 a2 a3 i j l x2 y2 z2
          simp only [Bool.and_eq_true, decide_eq_true_eq] at h4
          obtain ⟨⟨⟨⟨⟨⟨⟨⟨⟨⟨⟨q1, q2⟩, q2b⟩, q3⟩, q4⟩, q4b⟩, q5⟩, q5b⟩, q5c⟩, q6⟩, q7⟩, q8⟩ := h4
          subst q1 q2 q2b
          exact ps_parI3 G q3 q4 q4b q5 q5b q5c (locB_of q6) (locB_of q7) (locB_of q8) hf e4 ha
        · cases h4
      · cases h4
  | _ => cases h
theorem okS_setSub {o i a : IE} : OkS T RX k (.setSub o i a) := by
  intro c X W G tk hp s h
  cases s with
  | Assign tg e pos =>
    match tg, h with
    | [.Subscript eo ei p], h =>
      obtain ⟨h1, h2⟩ := and2 (show (plainE ei && okE T c o eo && okE T c i ei && okE T c a e) = true from h)
      obtain ⟨h3, h4⟩ := and2 h1
      obtain ⟨h5, h6⟩ := and2 h3
      exact ps_setSubI h5 (all_e T RX k o c X W G tk _ h6).1 (all_e T RX k i c X W G tk _ h4).1 (all_e T RX k a c X W G tk _ h2).1
  | _ => cases h
theorem okS_aug {i : Nat} {op : Operator} {a : IE} : OkS T RX k (.aug i op a) := by
  intro c X W G tk hp s h
  cases s with
  | AugAssign tg op2 e pos =>
    cases tg with
    | Name x p =>
      obtain ⟨h1, h2⟩ := and2 (show (decide (c.N[i]? = some x) && stoB c x && decide (op = op2) && okE T c a e) = true from h)
      obtain ⟨h3, h4⟩ := and2 h1
      obtain ⟨h5, h6⟩ := and2 h3
      have e1 := of_decide_eq_true h4
      subst e1
      exact ps_augI G (of_decide_eq_true h5) h6 (all_e T RX k a c X W G tk _ h2).1
    | _ => cases h
  | _ => cases h
theorem okS_expr {a : IE} : OkS T RX k (.expr a) := by
  intro c X W G tk hp s h
  cases s with
  | Expr e pos =>
    obtain ⟨h1, h2⟩ := and2 (show (noComp e && okE T c a e) = true from h)
    exact ps_exprI h1 (all_e T RX k a c X W G tk _ h2).1
  | _ => cases h
theorem okS_ret {a : IE} : OkS T RX k (.ret a) := by
  intro c X W G tk hp s h
  cases s with
  | Return o pos =>
    cases o with
    | some e => exact ps_retI (all_e T RX k a c X W G tk _ (show okE T c a e = true by cases a <;> exact h)).1
    | none =>
      cases a with
      | cnon => exact PS.imp ps_retN fun D σ H ⟨α, st, b, env, R, E, h⟩ => h α H σ (.refl _ _) R E _ .non
      | _ => cases h
  | _ => cases h
theorem okS_ite {t : IE} {a b : ISs} (h1 : OkSs T RX k a) (h2 : OkSs T RX k b) : OkS T RX k (.ite t a b) := by
  intro c X W G tk hp s h
  cases s with
  | «If» e as bs pos =>
    obtain ⟨g1, g2⟩ := and2 (show (tstB t && okE T c t e && okSs T c a as && okSs T c b bs) = true from h)
    obtain ⟨g3, g4⟩ := and2 g1
    obtain ⟨g5, g6⟩ := and2 g3
    exact ps_iteI ((all_e T RX k t c X W G tk _ g6).2.1 g5) (h1 c X W G tk hp _ g4) (h2 c X W G tk hp _ g2)
  | _ => cases h
theorem okS_for {tg : ITg} {it : IIt} {a : ISs} (h1 : OkSs T RX k a) : OkS T RX k (.for tg it a) := by
  intro c X W G tk hp s h
  cases s with
  | For tge iter as os pos =>
    cases os with
    | nil =>
      obtain ⟨g1, g2⟩ := and2 (show (plainE iter && okIt T c it tge iter && okTg c tg tge && okSs T c a as) = true from h)
      obtain ⟨g3, g4⟩ := and2 g1
      obtain ⟨g5, g6⟩ := and2 g3
      exact ps_forI G hp g5 (all_it T RX k it c X W G tk _ _ g6) g4 (h1 c X W G tk hp _ g2)
    | cons _ _ => cases h
  | _ => cases h
theorem okS_while {t : IE} {a : ISs} (h1 : OkSs T RX k a) : OkS T RX k (.while t a) := by
  intro c X W G tk hp s h
  cases s with
  | While e as os pos =>
    cases os with
    | nil =>
      obtain ⟨g1, g2⟩ := and2 (show (tstB t && okE T c t e && okSs T c a as) = true from h)
      obtain ⟨g3, g4⟩ := and2 g1
      exact ps_whileI hp ((all_e T RX k t c X W G tk _ g4).2.1 g3) (h1 c X W G tk hp _ g2)
    | cons _ _ => cases h
  | _ => cases h
theorem okSs_nil : OkSs T RX k .nil := by
  intro c X W G tk hp s h
  cases s with
  | nil => exact pss_nilI
  | cons _ _ => cases h
theorem okSs_cons {a : IS} {as : ISs} (h1 : OkS T RX k a) (h2 : OkSs T RX k as) : OkSs T RX k (.cons a as) := by
  intro c X W G tk hp s h
  cases s with
  | nil => cases h
  | cons s ss =>
    obtain ⟨g1, g2⟩ := and2 (show (okS T c a s && okSs T c as ss) = true from h)
    exact pss_consI (h1 c X W G tk hp _ g1) (h2 c X W G tk hp _ g2)
end
section
variable (T : Ck) (RX : XRel) (k : Nat)
mutual
theorem all_s : ∀ is : IS, OkS T RX k is
  | .set _ _ => okS_set
  | .setT _ _ => okS_setT
  | .setSub _ _ _ => okS_setSub
  | .aug _ _ _ => okS_aug
  | .expr _ => okS_expr
  | .ret _ => okS_ret
  | .ite _ a b => okS_ite (all_ss a) (all_ss b)
  | .for _ _ a => okS_for (all_ss a)
  | .while _ a => okS_while (all_ss a)
  | .par _ _ => okS_par
  | .pass => fun c X W G tk hp s h => by
    cases s with
    | Pass pos => exact ps_passI
    | _ => cases h
  | .brk => fun c X W G tk hp s h => by
    cases s with
    | Break pos => exact ps_brkI
    | _ => cases h
  | .cont => fun c X W G tk hp s h => by
    cases s with
    | Continue pos => exact ps_contI
    | _ => cases h
theorem all_ss : ∀ is : ISs, OkSs T RX k is
  | .nil => okSs_nil
  | .cons a as => okSs_cons (all_s a) (all_ss as)
end
end
end DI
end
section
namespace DI
open PySem L2 PySem.Spec
open PyProof.Rows hiding St
def es1 (a : IE) : IEs := .cons a .nil
/-- the source of draws: one draw -/
def drawI : ISs :=
  .cons (.ite (.cmp .Gt (.ix (.var 0) (.cint 0)) (.cint 0)) (.cons (.set 2 (.bin .Mod (.ix (.var 0) (.cint 0)) (.var 1))) (.cons (.setSub (.var 0) (.cint 0) (.bin .FloorDiv (.ix (.var 0) (.cint 0)) (.var 1))) (.cons (.ret (.var 2)) .nil))) .nil)
  (.cons (.setSub (.var 0) (.cint 2) (.bin .Add (.ix (.var 0) (.cint 2)) (.cint 1)))
  (.cons (.set 3 (.bin .Mod (.bin .Pow (.bin .Add (.ix (.var 0) (.cint 1)) (.bin .Mult (.cint 40009) (.ix (.var 0) (.cint 2)))) (.cint 5)) (.cint 2147483629)))
  (.cons (.ret (.bin .Mod (.bin .FloorDiv (.bin .Mod (.bin .Add (.bin .Mult (.var 3) (.bin .Add (.bin .Mod (.var 3) (.cint 39373)) (.cint 11))) (.bin .Mult (.ix (.var 0) (.cint 2)) (.cint 6151))) (.cint 2147483647)) (.cint 64)) (.var 1))) .nil)))
/-- a new source -/
def boxI : ISs :=
  .cons (.set 2 (.ite (.cmp .Lt (.var 1) (.blt .len (es1 (.var 0)))) (.ix (.var 0) (.var 1)) (.cint 0)))
  (.cons (.ret (.lst (.cons (.bin .Mult (.blt .abs (es1 (.var 2))) (.blt .int (es1 (.cmp .GtE (.blt .abs (es1 (.var 2))) (.bin .Pow (.cint 10) (.cint 18))))))
    (.cons (.bin .Add (.bin .Add (.bin .Mod (.var 2) (.cint 2147483587)) (.bin .Mult (.cint 7907) (.var 1))) (.cint 31)) (.cons (.cint 0) .nil))))) .nil)
section
variable {C : Cfg} {st : Store} {r : Nat} {x y z n : Int}
theorem fmod_in {i j : Int} (h : 0 < j) : 0 ≤ i.fmod j ∧ i.fmod j < j := ⟨Int.fmod_nonneg_of_pos i h, Int.fmod_lt_of_pos i h⟩
theorem draw_run (hs : st[r]? = some (.lst true [.int x, .int y, .int z])) (hx : 0 ≤ x) (hy : 0 ≤ y) (hy2 : y < 2 ^ 40) (hz : 0 ≤ z) (hz2 : z < 2 ^ 40) (hn : 0 < n) (hn2 : n < 1073741824) : ∃ v x' z' env', 0 ≤ v ∧ v < n ∧ 0 ≤ x' ∧ 0 ≤ z' ∧ z' ≤ z + 1 ∧
    exs C drawI [some (.ref r), some (.int n), none, none] st = .ret ((.ret (.int v), env'), st.set r (.lst true [.int x', .int y, .int z'])) := by
  have hl : r < st.length := (List.getElem?_eq_some_iff.mp hs).1
  have hset : ∀ o, (st.set r o)[r]? = some o := fun o => List.getElem?_set_self hl
  clear hl
  have n0 : n ≠ 0 := by omega
  have na : n.natAbs < 1073741824 := by omega
  by_cases h : 0 < x
  · refine ⟨x.fmod n, x.fdiv n, z, [some (.ref r), some (.int n), some (.int (x.fmod n)), none], (fmod_in hn).1, (fmod_in hn).2, ?_, hz, by omega, ?_⟩
    · rw [Int.fdiv_eq_ediv_of_nonneg _ (by omega)]
      exact Int.ediv_nonneg hx (by omega)
    · simp [drawI, exs, ex, ev, evs, doE, mbind, mret, T.bind, T.resc, mopt, ixD, itemsD, hs, atI, ixN, cmpD, truthD, h, binD, mif, n0, na, setSubD]
  · have x0 : x = 0 := by omega
    subst x0
    have m1 : mulOk 40009 (z + 1) = true := by
      unfold mulOk
      rw [show decide (-(2 ^ 64) < (40009 : Int)) = true from rfl, show decide ((40009 : Int) < 2 ^ 64) = true from rfl]
      rfl
    have m3 : mulOk (z + 1) 6151 = true := by
      unfold mulOk
      rw [show decide (-(2 ^ 64) < (6151 : Int)) = true from rfl, show decide ((6151 : Int) < 2 ^ 64) = true from rfl, Bool.and_true, Bool.or_true]
    have p1 : powOk (y + 40009 * (z + 1)) 5 = true := by
      unfold powOk
      rw [decide_eq_true (show (0 : Int) ≤ 5 by decide), decide_eq_true (show (5 : Int) ≤ 1000000 by decide), decide_eq_true (show (y + 40009 * (z + 1)).natAbs < 2 ^ 64 by omega)]
      rfl
    obtain ⟨o, ho⟩ : ∃ o, o = ((y + 40009 * (z + 1)) ^ 5).fmod 2147483629 := ⟨_, rfl⟩
    have o1 : 0 ≤ o ∧ o < 2147483629 := by rw [ho]; exact fmod_in (by decide)
    have m2 : mulOk o (o.fmod 39373 + 11) = true := by
      unfold mulOk
      rw [decide_eq_true (show -(2 ^ 64) < o by omega), decide_eq_true (show o < 2 ^ 64 by omega)]
      rfl
    refine ⟨(((o * (o.fmod 39373 + 11) + (z + 1) * 6151).fmod 2147483647).fdiv 64).fmod n, 0, z + 1, [some (.ref r), some (.int n), none, some (.int o)], (fmod_in hn).1, (fmod_in hn).2, Int.le_refl _, by omega, by omega, ?_⟩
    · simp [drawI, exs, ex, ev, evs, doE, mbind, mret, T.bind, T.resc, mopt, ixD, itemsD, hs, hset, atI, ixN, cmpD, truthD, binD, mif, n0, na, setSubD, m1, m3, p1, ← ho, m2]
theorem box_run {s : Nat} {xs : List Int} {k : Int} (hs : st[s]? = some (.lst false (xs.map D.int))) (hk : 0 ≤ k) (hk2 : k < 1000) : ∃ x y env', 0 ≤ x ∧ 0 ≤ y ∧ y < 2 ^ 40 ∧
    exs C boxI [some (.ref s), some (.int k), none] st = .ret ((.ret (.ref st.length), env'), st ++ [.lst true [.int x, .int y, .int 0]]) := by
  have key : ∀ c : Int, ∃ x y, 0 ≤ x ∧ 0 ≤ y ∧ y < 2 ^ 40 ∧ exs C (.cons (.ret (.lst (.cons (.bin .Mult (.blt .abs (es1 (.var 2))) (.blt .int (es1 (.cmp .GtE (.blt .abs (es1 (.var 2))) (.bin .Pow (.cint 10) (.cint 18))))))
    (.cons (.bin .Add (.bin .Add (.bin .Mod (.var 2) (.cint 2147483587)) (.bin .Mult (.cint 7907) (.var 1))) (.cint 31)) (.cons (.cint 0) .nil))))) .nil) [some (.ref s), some (.int k), some (.int c)] st = .ret ((.ret (.ref st.length), [some (.ref s), some (.int k), some (.int c)]), st ++ [.lst true [.int x, .int y, .int 0]]) := by
    intro c
    have f := fmod_in (i := c) (j := 2147483587) (by decide)
    have p1 : powOk 10 18 = true := by decide
    have m1 : mulOk 7907 k = true := by
      unfold mulOk
      rw [show decide (-(2 ^ 64) < (7907 : Int)) = true from rfl, show decide ((7907 : Int) < 2 ^ 64) = true from rfl]
      rfl
    obtain ⟨a, ha⟩ : ∃ a, a = if c < 0 then -c else c := ⟨_, rfl⟩
    have a0 : 0 ≤ a := by
      rw [ha]
      split <;> omega
    have m2 : ∀ b : Bool, mulOk a (if b = true then 1 else 0) = true := by
      intro b
      unfold mulOk
      cases b <;> simp
    refine ⟨a * (if decide (10 ^ 18 ≤ a) = true then 1 else 0), c.fmod 2147483587 + 7907 * k + 31, ?_, by omega, by omega, ?_⟩
    · split
      · omega
      · omega
    · have m3 := m2 (decide (10 ^ 18 ≤ a))
      simp [es1, exs, ex, ev, evs, doE, mbind, mret, mnew, T.bind, T.resc, mopt, cmpD, binD, mif, bltD, p1, m1, fits, lim, ← ha] at m3 ⊢
      rw [m3]
      rfl
  have step : ∀ c : Int, ex C (.set 2 (.ite (.cmp .Lt (.var 1) (.blt .len (es1 (.var 0)))) (.ix (.var 0) (.var 1)) (.cint 0))) [some (.ref s), some (.int k), none] st = .ret ((.next, [some (.ref s), some (.int k), some (.int c)]), st) →
      ∃ x y env', 0 ≤ x ∧ 0 ≤ y ∧ y < 2 ^ 40 ∧ exs C boxI [some (.ref s), some (.int k), none] st = .ret ((.ret (.ref st.length), env'), st ++ [.lst true [.int x, .int y, .int 0]]) := by
    intro c hc
    obtain ⟨x, y, h1, h2, h3, h4⟩ := key c
    refine ⟨x, y, [some (.ref s), some (.int k), some (.int c)], h1, h2, h3, ?_⟩
    rw [← h4, boxI, exs, mbind, hc]
    rfl
  by_cases h : k < xs.length
  · have hk3 : k.toNat < xs.length := by omega
    refine step (xs[k.toNat]) ?_
    simp [ex, ev, evs, es1, doE, mbind, mret, T.bind, T.resc, mopt, cmpD, bltD, itemsD, hs, ixD, atI, ixN, truthD, h, hk, hk3]
  · refine step 0 ?_
    simp [ex, ev, evs, es1, doE, mbind, mret, T.bind, T.resc, mopt, cmpD, bltD, itemsD, hs, ixD, atI, ixN, truthD, h, hk]
end
end DI
end
section
namespace DI
open PySem L2 PySem.Spec
open PyProof.Rows hiding St
section
theorem tri_to_nox {β : Type} {t : T β} {b : Nat} {P : Nat → β → Prop} {X : Nat → Ex → Store → Prop} (h : Tri t b P NX) : Tri t.nox b P X := by
  induction t generalizing b with
  | ret a => exact h
  | draw n k ih =>
    obtain ⟨b', e, h⟩ := h
    exact ⟨b', e, fun v h0 h1 => ih v (h v h0 h1)⟩
  | exc x st => exact h.elim
  | stuck => exact h.elim
/-- a def of the text: its name, how it is run, where it stands, its parameters, its names, its body -/
structure Df where
  name : Str
  fn : Fn
  st : Stmt
  ps : List Str
  N : List Str
  body : ISs
def Df.cc (d : Df) : CC := ⟨d.N, defScope d.st, (defScope d.st).names⟩
def scopeB (N ps : List Str) (sc : Scope) : Bool :=
  (match sc.kind with | .function => true | _ => false) && !sc.isCoroutine && !sc.isGenerator && decide N.Nodup && decide (N.take ps.length = ps) &&
    ps.all (fun x => match sc.names.lookup x with | some .local | some .cell => true | _ => false) && sc.names.all (fun y => match y.2 with | .free => false | _ => true)
theorem scope_of {N ps : List Str} {sc : Scope} (h : scopeB N ps sc = true) : FnScope N ps sc := by
  obtain ⟨h, h7⟩ := and2 h
  obtain ⟨h, h6⟩ := and2 h
  obtain ⟨h, h5⟩ := and2 h
  obtain ⟨h, h4⟩ := and2 h
  obtain ⟨h, h3⟩ := and2 h
  obtain ⟨h1, h2⟩ := and2 h
  refine ⟨?_, by simpa using h2, by simpa using h3, of_decide_eq_true h4, of_decide_eq_true h5, fun x hx => ?_, fun y hy => ?_⟩
  · split at h1
    · assumption
    · cases h1
  · have q := List.all_eq_true.mp h6 x hx
    split at q
    · exact .inl (by assumption)
    · exact .inr (by assumption)
    · cases q
  · have q := List.all_eq_true.mp h7 y hy
    intro z
    rw [z] at q
    cases q
def isBlk : ISs → ISs → Bool := fun _ _ => true
/-- the check of a def -/
def Df.chk (T : Ck) (d : Df) : Bool := scopeB d.N d.ps (defScope d.st) && okSs T d.cc d.body (defBody d.st)
/-- its run is that of its body -/
inductive Df.Runs : Df → Prop
  | code {d : Df} : d.fn = .code d.ps d.N.length d.body → d.ps.length ≤ d.N.length → d.Runs
  | draw {d : Df} : d.fn = .draw → d.body = drawI → d.ps.length = 2 → d.N.length = 4 → d.Runs
  | box {d : Df} : d.fn = .box → d.body = boxI → d.ps.length = 2 → d.N.length = 3 → d.Runs
variable {T : Ck} {RX : XRel} {P : Program} {w : World} {K : PySem.W.Frag} {mg : Str → Option Value} {base : Heap} {k : Nat}
/-- what the module tells of a def -/
structure DfAt (T : Ck) (K : PySem.W.Frag) (mg : Str → Option Value) (d : Df) : Prop where
  ex : ∃ (fa : Addr) (fd : FuncData), Fun K d.name d.name d.st fa fd ∧ mg d.name = some (.ref fa) ∧ Binds K fd d.ps [] ∧ ∀ n ks, (d.name, n, ks) ∈ T.KW → ∀ o, kordT T.F d.name n ks = some o → KwOk fd d.ps n ks o
theorem start_env {α : List Addr} {H : Hp} {N : List Str} {ds : List D} {vs : List V} (r : RDs K α H ds vs) : REnv K α H (ds.map some ++ List.replicate (N.length - ds.length) none) (L2.start N vs) := by
  have hl := r.length
  refine ⟨?_, fun i d h => ?_⟩
  · unfold L2.start
    rw [List.length_append, List.length_append, List.length_map, List.length_map, List.length_replicate, List.length_replicate, hl]
  · by_cases hi : i < ds.length
    · rw [List.getElem?_append_left (by rw [List.length_map]; exact hi), List.getElem?_map] at h
      cases e : ds[i]? with
      | none =>
        rw [e] at h
        cases h
      | some x =>
        rw [e] at h
        cases h
        obtain ⟨v, q1, q2⟩ := r.get e
        refine ⟨v, ?_, q2⟩
        unfold L2.start
        rw [List.getElem?_append_left (by rw [List.length_map, ← hl]; exact hi), List.getElem?_map, q1]
        rfl
    · rw [List.getElem?_append_right (by rw [List.length_map]; omega), List.getElem?_replicate] at h
      split at h <;> cases h
/-- a def's body, read by its run -/
theorem fn_body {d : Df} {fa : Addr} {fd : FuncData} {sp : Sp} (G : Gd T.F T.KW T.mods RX P w K mg base k) (F : Fun K d.name d.name d.st fa fd) (hc : d.chk T = true) (len : ∀ vs H Q E, sp vs H Q E → vs.length = d.ps.length)
    (hsp : ∀ vs H Q E, sp vs H Q E → ∃ α st b ds, Rel K α H st b ∧ RDs K α H ds vs ∧ Tri (exs (cfg T.F k) d.body (ds.map some ++ List.replicate (d.N.length - ds.length) none) st) b (PostS K RX (fun cls dd _ H => E cls dd H) α H { nx := fun _ H' => Q .non H', rt := Q }) NX) :
    FnG P w K mg base (k + 1) fa fd d.ps sp := by
  obtain ⟨h1, h2⟩ := and2 hc
  have S := scope_of h1
  refine fnG_of F S len fun cdv A outer s H vs Q E hr hg h => ?_
  have GXX : GXk T RX k d.cc (cxOf (L2.CX P w) P w K mg base d.N d.name (defScope d.st) fa cdv A outer s H E) := by
    refine ⟨G, rfl, rfl, S.nd, rfl, hr, hg, fun x hx => ?_⟩
    have hx : (match (defScope d.st).names.lookup x with | some .local | some .cell => true | _ => false) = true := hx
    split at hx
    · rename_i e
      exact ⟨.inl e, .inl rfl⟩
    · rename_i e
      exact ⟨.inr e, .inl rfl⟩
    · cases hx
  refine ⟨_, all_ss T RX k d.body d.cc _ (fun cls dd _ H => E cls dd H) GXX (takes_of rfl rfl rfl rfl) (passes_of rfl) _ h2, ?_⟩
  obtain ⟨α, st, b, ds, R, r, h⟩ := hsp vs H Q E h
  exact ⟨α, st, b, _, R, start_env r, h⟩
theorem spI_len {f : Str} {ps : List Str} {n : Nat} {body : ISs} {k : Nat} (hF : T.F.lookup f = some (.code ps n body)) : ∀ vs H Q E, spI T.F RX K k f vs H Q E → vs.length = ps.length := by
  rintro vs H Q E ⟨α, st, b, ds, R, r, h⟩
  cases k with
  | zero => exact h.elim
  | succ k =>
    unfold run at h
    rw [hF] at h
    dsimp only at h
    rw [← r.length]
    cases e : decide (ds.length = ps.length) with
    | false =>
      rw [e] at h
      exact h.elim
    | true => exact of_decide_eq_true e
theorem fn_code {d : Df} {fa : Addr} {fd : FuncData} (G : Gd T.F T.KW T.mods RX P w K mg base k) (F : Fun K d.name d.name d.st fa fd) (hc : d.chk T = true) (hF : T.F.lookup d.name = some d.fn) (hd : d.fn = .code d.ps d.N.length d.body) :
    FnG P w K mg base (k + 1) fa fd d.ps (spI T.F RX K (k + 1) d.name) := by
  rw [hd] at hF
  refine fn_body G F hc (spI_len hF) fun vs H Q E h => ?_
  obtain ⟨α, st, b, ds, R, r, h⟩ := h
  refine ⟨α, st, b, ds, R, r, ?_⟩
  unfold run at h
  rw [hF] at h
  dsimp only at h
  cases e : decide (ds.length = d.ps.length) with
  | false =>
    rw [e] at h
    exact h.elim
  | true =>
    rw [e] at h
    refine tri_mono (tri_nox (X' := NX) (tri_bind.mp h)) (fun b1 p _ h1 α1 H1 σ1 x1 R1 E1 => ?_) fun _ _ _ _ q => q
    obtain ⟨⟨fl, env1⟩, st1⟩ := p
    cases fl with
    | next => exact h1 α1 H1 .non x1 R1 .non
    | brk => exact h1.elim
    | cont => exact h1.elim
    | ret dv => exact fun v rv => h1 α1 H1 v x1 R1 rv
    | exc x => exact fun cls dd rx => h1 α1 H1 cls dd x1 R1 rx
theorem fn_draw {d : Df} {fa : Addr} {fd : FuncData} (G : Gd T.F T.KW T.mods RX P w K mg base k) (F : Fun K d.name d.name d.st fa fd) (hc : d.chk T = true) (hF : T.F.lookup d.name = some d.fn) (hd : d.fn = .draw) (hb : d.body = drawI) (h2 : d.ps.length = 2) (h4 : d.N.length = 4) :
    FnG P w K mg base (k + 1) fa fd d.ps (spI T.F RX K (k + 1) d.name) := by
  rw [hd] at hF
  have key : ∀ vs H Q E, spI T.F RX K (k + 1) d.name vs H Q E → ∃ α st b r n, Rel K α H st b ∧ RDs K α H [.ref r, .int n] vs ∧ st[r]? = some .rng ∧ 0 < n ∧ n < 1073741824 ∧ ∃ b', b = b' + 1 ∧ ∀ v, 0 ≤ v → v < n → PostV K α H Q b' (.int v, st) := by
    rintro vs H Q E ⟨α, st, b, ds, R, rds, h⟩
    unfold run at h
    rw [hF] at h
    dsimp only at h
    split at h
    · rename_i r n
      split at h
      · rename_i hr
        split at h
        · rename_i hn
          obtain ⟨n1, n2⟩ := and2 hn
          obtain ⟨b', e, h⟩ := h
          exact ⟨α, st, b, r, n, R, rds, hr, of_decide_eq_true n1, of_decide_eq_true n2, b', e, h⟩
        · exact h.elim
      · exact h.elim
    · exact h.elim
  refine fn_body G F hc (fun vs H Q E h => ?_) fun vs H Q E h => ?_
  · obtain ⟨α, st, b, r, n, R, rd, _⟩ := key vs H Q E h
    rw [← rd.length, h2]
    rfl
  · obtain ⟨α, st, b, r, n, R, rd, hr, n1, n2, b', rfl, hq⟩ := key vs H Q E h
    obtain ⟨a, ha⟩ := R.addr hr
    obtain ⟨x, y, z, e1, x0, y0, y1, z0, z1⟩ := R.at_ r _ a hr ha
    have hl : r < st.length := (List.getElem?_eq_some_iff.mp hr).1
    -- the source as a list
    have Hs : upd H a (.lst [.int x, .int y, .int z]) = H := by
      funext c
      by_cases hc : c = a
      · subst hc
        rw [upd_same, e1]
      · rw [upd_ne hc]
    have R1 : Rel K α H (st.set r (.lst true [.int x, .int y, .int z])) (b' + 1) := by
      have q := R.setS (o := .lst [.int x, .int y, .int z]) (so' := .lst true [.int x, .int y, .int z]) hr rfl ha ⟨_, upd_same, .cons (.int _) (.cons (.int _) (.cons (.int _) .nil))⟩
      rw [Hs] at q
      exact q
    have hb0 := R.bud
    obtain ⟨v, x', z', env', v0, v1, x'0, z'0, z'1, he⟩ := draw_run (C := cfg T.F k) (st := st.set r (.lst true [.int x, .int y, .int z])) (r := r) (x := x) (y := y) (z := z) (n := n) (List.getElem?_set_self hl) x0 y0 y1 z0 (by omega) n1 n2
    refine ⟨α, _, b', [.ref r, .int n], R1.less (Nat.le_succ _), rd, ?_⟩
    rw [hb, h4]
    show Tri (exs (cfg T.F k) drawI [some (.ref r), some (.int n), none, none] _) _ _ _
    rw [he]
    intro α1 H1 σ1 x1 R2 E2 u ru
    cases ru
    have ha1 := x1.pre _ _ ha
    have hs2 : ((st.set r (.lst true [.int x, .int y, .int z])).set r (.lst true [.int x', .int y, .int z']))[r]? = some (.lst true [.int x', .int y, .int z']) := List.getElem?_set_self (by rw [List.length_set]; exact hl)
    obtain ⟨us, g1, g2⟩ := R2.lstW hs2 ha1
    have g3 : us = [.int x', .int y, .int z'] := by
      cases g2 with
      | cons a1 g2 =>
        cases a1
        cases g2 with
        | cons a2 g2 =>
          cases a2
          cases g2 with
          | cons a3 g2 =>
            cases a3
            cases g2
            rfl
    subst g3
    have Hs1 : upd H1 a (.lst [.int x', .int y, .int z']) = H1 := by
      funext c
      by_cases hc : c = a
      · subst hc
        rw [upd_same, g1]
      · rw [upd_ne hc]
    have R3 := R2.setS (o := .lst [.int x', .int y, .int z']) (so' := .rng) hs2 rfl ha1 ⟨x', y, z', upd_same, x'0, y0, y1, z'0, by omega⟩
    rw [Hs1, List.set_set, List.set_set] at R3
    have e5 : st.set r .rng = st := by
      refine List.ext_getElem? fun j => ?_
      by_cases hj : r = j
      · subst hj
        rw [List.getElem?_set_self hl, hr]
      · rw [List.getElem?_set_ne hj]
    rw [e5] at R3
    exact hq v v0 v1 α1 H1 _ x1 R3 (.int _)
theorem intsD_of : ∀ {xs : List D} {ns : List Int}, intsD xs = some ns → xs = ns.map D.int
  | [], _, h => by
    cases h
    rfl
  | x :: xs, ns, h => by
    cases x with
    | int i =>
      have h : (intsD xs).map (i :: ·) = some ns := h
      cases e : intsD xs with
      | none =>
        rw [e] at h
        cases h
      | some ms =>
        rw [e] at h
        cases h
        rw [intsD_of e]
        rfl
    | _ => cases h
theorem fn_box {d : Df} {fa : Addr} {fd : FuncData} (G : Gd T.F T.KW T.mods RX P w K mg base k) (F : Fun K d.name d.name d.st fa fd) (hc : d.chk T = true) (hF : T.F.lookup d.name = some d.fn) (hd : d.fn = .box) (hb : d.body = boxI) (h2 : d.ps.length = 2) (h4 : d.N.length = 3) :
    FnG P w K mg base (k + 1) fa fd d.ps (spI T.F RX K (k + 1) d.name) := by
  rw [hd] at hF
  have key : ∀ vs H Q E, spI T.F RX K (k + 1) d.name vs H Q E → ∃ α st b s j, ∃ xs : List Int, Rel K α H st b ∧ RDs K α H [.ref s, .int j] vs ∧ st[s]? = some (.lst false (xs.map D.int)) ∧ 0 ≤ j ∧ j < 1000 ∧ PostV K α H Q b (.ref st.length, st ++ [.rng]) := by
    rintro vs H Q E ⟨α, st, b, ds, R, rds, h⟩
    unfold run at h
    rw [hF] at h
    dsimp only at h
    split at h
    · rename_i s j
      split at h
      · rename_i xs hs
        split at h
        · rename_i ns e1 hn
          obtain ⟨n1, n2⟩ := and2 hn
          rw [intsD_of e1] at hs
          exact ⟨α, st, b, s, j, ns, R, rds, hs, of_decide_eq_true n1, of_decide_eq_true n2, h⟩
        · exact h.elim
      · exact h.elim
    · exact h.elim
  refine fn_body G F hc (fun vs H Q E h => ?_) fun vs H Q E h => ?_
  · obtain ⟨α, st, b, s, j, xs, R, rd, _⟩ := key vs H Q E h
    rw [← rd.length, h2]
    rfl
  · obtain ⟨α, st, b, s, j, xs, R, rd, hs, j1, j2, hq⟩ := key vs H Q E h
    obtain ⟨x, y, env', x0, y0, y1, he⟩ := box_run (C := cfg T.F k) hs j1 j2
    refine ⟨α, st, b, [.ref s, .int j], R, rd, ?_⟩
    rw [hb, h4]
    show Tri (exs (cfg T.F k) boxI [some (.ref s), some (.int j), none] _) _ _ _
    rw [he]
    intro α1 H1 σ1 x1 R2 E2 u ru
    have hlen : (st ++ [SO.lst true [.int x, .int y, .int 0]])[st.length]? = some (.lst true [.int x, .int y, .int 0]) := by
      rw [List.getElem?_append_right (Nat.le_refl _), Nat.sub_self]
      rfl
    obtain ⟨a, ha⟩ := R2.addr hlen
    obtain ⟨us, g1, g2⟩ := R2.lstW hlen ha
    have g3 : us = [.int x, .int y, .int 0] := by
      cases g2 with
      | cons a1 g2 =>
        cases a1
        cases g2 with
        | cons a2 g2 =>
          cases a2
          cases g2 with
          | cons a3 g2 =>
            cases a3
            cases g2
            rfl
    subst g3
    have Hs1 : upd H1 a (.lst [.int x, .int y, .int 0]) = H1 := by
      funext c
      by_cases hc : c = a
      · subst hc
        rw [upd_same, g1]
      · rw [upd_ne hc]
    have R3 := R2.setS (o := .lst [.int x, .int y, .int 0]) (so' := .rng) hlen rfl ha ⟨x, y, 0, upd_same, x0, y0, y1, Int.le_refl _, by have := R2.bud; omega⟩
    rw [Hs1, List.set_append_right _ _ (Nat.le_refl _), Nat.sub_self] at R3
    exact hq α1 H1 u x1 R3 ru
end
end DI
end
section
namespace DI
open PySem L2 PySem.Spec
open PyProof.Rows hiding St
section
variable {T : Ck} {RX : XRel} {P : Program} {w : World} {K : PySem.W.Frag} {mg : Str → Option Value} {base : Heap} {k : Nat} {defs : List Df}
def tabOf (defs : List Df) : Tab := defs.map fun d => (d.name, d.fn)
theorem tab_mem : ∀ {defs : List Df} {f : Str} {fn : Fn}, (tabOf defs).lookup f = some fn → ∃ d ∈ defs, d.name = f ∧ d.fn = fn
  | [], _, _, h => by cases h
  | d :: ds, f, fn, h => by
    have h : List.lookup f ((d.name, d.fn) :: tabOf ds) = some fn := h
    rw [List.lookup_cons] at h
    by_cases e : f = d.name
    · rw [e] at h
      simp at h
      exact ⟨d, List.mem_cons_self, e.symm, h⟩
    · rw [show (f == d.name) = false by simpa using e] at h
      obtain ⟨c, h1, h2⟩ := tab_mem (defs := ds) h
      exact ⟨c, List.mem_cons_of_mem _ h1, h2⟩
/-- every def keeps its promise, at every level -/
theorem gd_all (hT : T.F = tabOf defs) (hc : ∀ d ∈ defs, d.chk T = true ∧ d.Runs) (ha : ∀ d ∈ defs, DfAt T K mg d) (hb : ∀ x ∈ bltNames, mg x = none) (hm : ∀ x id, (x, id) ∈ T.mods → mg x = some (.builtin id)) : ∀ k, Gd T.F T.KW T.mods RX P w K mg base k
  | 0 => by
    refine ⟨fun f fn hF => ?_, hb, hm⟩
    obtain ⟨d, hd, rfl, rfl⟩ := tab_mem (by rw [← hT]; exact hF)
    obtain ⟨fa, fd, F, h1, h2, h3⟩ := (ha d hd).ex
    refine ⟨fa, fd, d.ps, h1, F.kp, h2, ⟨?_, ?_⟩, h3⟩
    · rintro vs H Q E ⟨α, st, b, ds, R, r, h⟩
      exact h.elim
    · rintro A outer s H args us vs Q E hr hg e0 hb r ⟨α, st, b, ds, R, r, h⟩
      exact h.elim
  | k + 1 => by
    have G := gd_all hT hc ha hb hm k
    refine ⟨fun f fn hF => ?_, hb, hm⟩
    obtain ⟨d, hd, rfl, rfl⟩ := tab_mem (by rw [← hT]; exact hF)
    obtain ⟨fa, fd, F, h1, h2, h3⟩ := (ha d hd).ex
    obtain ⟨c1, c2⟩ := hc d hd
    refine ⟨fa, fd, d.ps, h1, F.kp, h2, ?_, h3⟩
    cases c2 with
    | code e1 e2 => exact fn_code G F c1 hF e1
    | draw e1 e2 e3 e4 => exact fn_draw G F c1 hF e1 e2 e3 e4
    | box e1 e2 e3 e4 => exact fn_box G F c1 hF e1 e2 e3 e4
end
/-! ### the law's call -/
section
variable {P : Program} {w : World} {K : PySem.W.Frag} {mg mb : Str → Option Value} {s : Shared} {a : Addr} {vs : List Value} {H : Hp}
theorem law_env (KX : K.In s.heap) (g1 : s.heap.Ns mainGlobals mg) (g2 : s.heap.Ns builtinsNs mb) (g3 : ∀ x : Str, x ≠ "__name__" → mb x = bootBuiltins x) (g4 : s.heap.NoLimit) (g5 : s.gens = #[])
    (ha : s.heap.get? a = some { cls := .type "list", data := .seq vs.toArray }) (ok : HOk P w H s.heap) (only : ∀ b, b ≠ a → H b = none) (hK : H a ≠ none → K.lookup a = none) :
    Env0 P w K mg (hidT s.heap H) callerA [] s H ∧ K.In (hidT s.heap H) ∧ (hidT s.heap H).Ns mainGlobals mg := by
  have ns : ∀ {b : Addr} {m : Str → Option Value}, s.heap.Ns b m → (hidT s.heap H).Ns b m := by
    rintro b m ⟨o, es, ep, e, d, r⟩
    by_cases hb : b = a
    · subst hb
      rw [ha] at e
      cases e
      cases (show Data.seq vs.toArray _ = Data.dict es ep from d)
    · exact ⟨o, es, ep, hidT_get e (only b hb), d, r⟩
  have hin : K.In (hidT s.heap H) := by
    intro b o e
    by_cases hb : b = a
    · subst hb
      cases q : H b with
      | none => exact hidT_get (KX b o e) q
      | some u =>
        have z := hK (by rw [q]; simp)
        rw [e] at z
        cases z
    · exact hidT_get (KX b o e) (only b hb)
  obtain ⟨mc, l1, l2⟩ := g4
  refine ⟨⟨rfl, ⟨hin, ns g1, ⟨mb, ns g2, g3⟩, ⟨mc, ns l1, l2⟩⟩, fun b o e => of_hidT e, by rw [hidT_size]; exact Nat.le_refl _, trivial, fun b z => ?_, ok, .of_eq g5⟩, hin, ns g1⟩
  cases (show b ∈ ([] : List Addr) from z)
/-- what the judge wants of the law's call -/
abbrev LawEnd (s : Shared) (r : Result) (s' : Shared) : Prop := r = .ok (.ret (.bool true)) ∧ OldK s.heap s'.heap ∧ s'.os = s.os ∧ AllBare s'.gens
theorem law_end {r : Result} {s' : Shared} (ok : HOk P w H s.heap) (hO : ∀ b, H b = none ∨ ∃ o xs, H b = some (.frz o (.lst xs)))
    (h : CR (L2.CX P w) [] P w H s (fun v _ => v = .bl true) (fun _ _ _ => False) r s') : LawEnd s r s' := by
  cases r with
  | error e =>
    obtain ⟨_, _, _, _, _, _, _, _, _, _, _, _, z⟩ := h
    exact z.elim
  | ok fl =>
    cases fl with
    | ret u =>
      obtain ⟨v, H', h1, h2, un, ok', rv, hv⟩ := h
      cases (show v = .bl true from hv)
      cases (show u = Value.bool true from rv)
      refine ⟨rfl, OldK.of_keep fun b o e => ?_, h1, h2⟩
      rcases hO b with z | ⟨ob, xs, z⟩
      · exact un.keep b o e z (by intro q; cases (show b ∈ ([] : List Addr) from q)) (by simp)
      · have q1 := (ok b _ z).1
        have q2 := (ok' b _ (un.frzs b ob _ z)).1
        rw [e] at q1
        cases q1
        exact q2
    | _ => exact False.elim h
/-- the law's call, from its run -/
theorem law_run {F : Tab} {RX : XRel} {k : Nat} {fa : Addr} {fd : FuncData} {f x : Str} {ns : List Int} (KX : K.In s.heap) (g1 : s.heap.Ns mainGlobals mg) (g2 : s.heap.Ns builtinsNs mb) (g3 : ∀ x : Str, x ≠ "__name__" → mb x = bootBuiltins x) (g4 : s.heap.NoLimit) (g5 : s.gens = #[])
    (ha : s.heap.get? a = some { cls := .type "list", data := .seq vs.toArray }) (hi : IntsAre vs ns) (hl : ns.length ≤ sizeLine) (hr : Room k callerA)
    (hF : ∀ base : Heap, K.In base → base.Ns mainGlobals mg → FnG P w K mg base k fa fd [x] (spI F RX K k f)) (hbind : ∀ (s : Shared) (u : Value), BindsTo s fd ⟨[u], []⟩ [(x, u)])
    (h : Tri (run F k f [.ref 0] [.lst false (ns.map D.int)]) (2 ^ 40) (fun _ p => p.1 = .bl true) NX) :
    codeAny (model P w) callerA (.call (.ref fa) ⟨[.ref a], []⟩) (LawEnd s) s := by
  have rv := vals_ints hi
  have go : ∀ H : Hp, (∀ b, H b = none ∨ ∃ o xs, H b = some (.frz o (.lst xs))) → Fz K H a (ns.map V.int) → HOk P w H s.heap → (∀ b, b ≠ a → H b = none) → (H a ≠ none → K.lookup a = none) → codeAny (model P w) callerA (.call (.ref fa) ⟨[.ref a], []⟩) (LawEnd s) s := by
    intro H hO hS ok only hK
    obtain ⟨e0, i1, i2⟩ := law_env KX g1 g2 g3 g4 g5 ha ok only hK
    have rds : ∀ ns : List Int, RDs K [a] H (ns.map D.int) (ns.map V.int) := by
      intro ns
      induction ns with
      | nil => exact .nil
      | cons i r ih => exact .cons (.int i) ih
    have R : Rel K [a] H [.lst false (ns.map D.int)] (2 ^ 40) := by
      refine ⟨rfl, Nat.le_refl _, fun n so b h1 h2 => ?_, fun n m so so' b h1 h2 w1 w2 _ _ => ?_⟩
      · cases n with
        | zero =>
          cases h1
          cases h2
          exact ⟨_, hS, rds ns⟩
        | succ n => simp at h1
      · cases n with
        | zero =>
          cases h1
          cases w1
        | succ n => simp at h1
    have hsp : spI F RX K k f [.ref a] H (fun v _ => v = .bl true) (fun _ _ _ => False) := by
      refine ⟨[a], _, 2 ^ 40, [.ref 0], R, .cons (.ref rfl) .nil, tri_mono h (fun b p _ e α' H' v _ _ rd => ?_) fun _ _ _ _ z => z.elim⟩
      rw [e] at rd
      cases rd
      rfl
    exact codeAny_mono ((hF _ i1 i2).run callerA [] s H ⟨[.ref a], []⟩ [.ref a] [.ref a] _ _ hr rfl e0 (hbind s (.ref a)) (.cons rfl .nil) hsp) fun r s' q => law_end ok hO q
  cases hk : K.lookup a with
  | some o =>
    have e := KX a o hk
    rw [ha] at e
    cases e
    refine go (fun _ => none) (fun _ => .inl rfl) (.inr fun H' => .inr ⟨_, vs.toArray, _, hk, rfl, rfl, rfl, ?_, ?_⟩) (fun b u z => by cases z) (fun _ _ => rfl) fun z => absurd rfl z
    · rw [List.size_toArray, hi.length]
      exact hl
    · simpa using rv
  | none =>
    have at_ : ∀ {b : Addr} {u : HO}, (if b = a then some (HO.frz { cls := .type "list", data := .seq vs.toArray } (.lst (ns.map V.int))) else none) = some u → b = a ∧ u = .frz { cls := .type "list", data := .seq vs.toArray } (.lst (ns.map V.int)) := by
      intro b u z
      split at z
      · rename_i e
        cases z
        exact ⟨e, rfl⟩
      · cases z
    refine go (fun b => if b = a then some (.frz { cls := .type "list", data := .seq vs.toArray } (.lst (ns.map V.int))) else none) (fun b => ?_) (.inl ⟨_, if_pos rfl⟩) (fun b u z => ?_) (fun b hb => if_neg hb) fun _ => hk
    · cases q : (if b = a then some (HO.frz { cls := .type "list", data := .seq vs.toArray } (.lst (ns.map V.int))) else none) with
      | none => exact .inl rfl
      | some u => exact .inr ⟨_, _, by rw [(at_ q).2]⟩
    · obtain ⟨rfl, rfl⟩ := at_ z
      exact ⟨ha, by rw [List.length_map]; exact hl, vs, _, rv, ha⟩
end
/-- the goal that k_head leaves, from the law's run -/
theorem walkG {l : PySem.W.OpenLaw} {n k : Nat} {q : Program} {loose : List Str} {XP : (Str → Option Value) → Heap → Prop} {YP : World → Heap → Prop} {d : DefRec} {K : Params → PySem.W.Frag} {F : Tab} {RX : XRel} {f x : Str}
    (hn : l.most = some n) (hn2 : n ≤ sizeLine) (hdf : d.params.defaults = []) (hr : Room k callerA) (hY : ∀ (w : World) (h : Heap), YP w h → (K w.params).In h)
    (hF : ∀ (w : World) (mg : Str → Option Value) (fa : Addr) (h : Heap), (K w.params).In h → h.Ns mainGlobals mg → mg d.name = some (.ref fa) →
      ∃ fd : FuncData, (∀ (s : Shared) (u : Value), BindsTo s fd ⟨[u], []⟩ [(x, u)]) ∧ ∀ base : Heap, FnG l.prog w (K w.params) mg base k fa fd [x] (spI F RX (K w.params) k f))
    (h : ∀ ns : List Int, ns.length ≤ n → Tri (run F k f [.ref 0] [.lst false (ns.map D.int)]) (2 ^ 40) (fun _ p => p.1 = .bl true) NX) :
    PySem.W.WalkO q loose XP YP l.row.toRowW d [] (fun f vs => PySem.call f vs) := by
  refine Att.attach_call hn hdf fun w s₀ s₁ mg mb fa o pm cd doc a vs ns G Y ho hd hcd hmg hobj hints hlen hg => ?_
  obtain ⟨fd, h1, h2⟩ := hF w mg fa _ (hY w _ Y) G.T.g hmg
  exact law_run (hY w _ Y) G.T.g G.T.b G.T.builtins G.T.nolimit hg hobj hints (Nat.le_trans hlen hn2) hr (fun base _ _ => h2 base) h1 (h ns hlen)
end DI
end
section
/-! # Runs, read off -/
namespace DI
open PySem L2 PySem.Spec
open PyProof.Rows hiding St
theorem app_get {st : Store} {n : Nat} {s : SO} (h : st[n]? = some s) (g : Store) : (st ++ g)[n]? = some s := by
  rw [List.getElem?_append_left (List.getElem?_eq_some_iff.mp h).1]
  exact h
theorem mid_get (st : Store) (s : SO) (g : Store) : (st ++ s :: g)[st.length]? = some s := by
  rw [List.getElem?_append_right (Nat.le_refl _), Nat.sub_self]
  rfl
theorem mid_set (st : Store) (s s' : SO) (g : Store) : (st ++ s :: g).set st.length s' = st ++ s' :: g := by
  rw [List.set_append_right _ _ (Nat.le_refl _), Nat.sub_self]
  rfl
theorem items_app {st : Store} {x : D} {xs : List D} (h : itemsD st x = some xs) (g : Store) : itemsD (st ++ g) x = some xs := by
  cases x with
  | tup ys => exact h
  | ref n =>
    unfold itemsD at h ⊢
    dsimp only at h ⊢
    cases e : st[n]? with
    | none =>
      rw [e] at h
      cases h
    | some s =>
      rw [app_get e]
      rw [e] at h
      exact h
  | _ => cases h
/-- the store grows, nothing else -/
def Ev {β : Type} (t : T (β × Store)) (st : Store) (v : β) : Prop := ∃ g, t = .ret (v, st ++ g)
/-- a list comes -/
def EvL (t : T (D × Store)) (st : Store) (xs : List D) : Prop := ∃ g n, t = .ret (.ref n, st ++ g) ∧ (st ++ g)[n]? = some (.lst true xs)
def retF (p : (Fl × Evr) × Store) : T (D × Store) := match p.1.1 with
  | .ret v => .ret (v, p.2)
  | .next => .ret (.non, p.2)
  | .exc x => .exc x p.2
  | _ => .stuck
def il (ps : List Nat) : List D := ps.map fun (n : Nat) => D.int (n : Int)
theorem il_length (ps : List Nat) : (il ps).length = ps.length := List.length_map ..
theorem il_get {ps : List Nat} {i p : Nat} (h : ps[i]? = some p) : (il ps)[i]? = some (.int (p : Int)) := by
  unfold il
  rw [List.getElem?_map, h]
  rfl
/-- a comprehension whose turns only let the store grow -/
theorem lc_ev {turn : D → M (Option D)} {pl : Pl} {st0 : Store} {xs : List D} {f : D → D} (hit : ∀ acc g i, plItem (st0 ++ .lst true acc :: g) pl i = xs[i]?) (hend : ∀ acc g, plEnd (st0 ++ .lst true acc :: g) pl = true)
    (ht : ∀ x ∈ xs, ∀ acc g, ∃ g', turn x (st0 ++ .lst true acc :: g) = .ret (some (f x), st0 ++ .lst true acc :: g')) : ∀ m i acc g, i + m = xs.length → acc.length + m ≤ 1000 →
    ∃ g', lcLoop turn pl st0.length m i (st0 ++ .lst true acc :: g) = .ret ((), st0 ++ .lst true (acc ++ (xs.drop i).map f) :: g')
  | 0, i, acc, g, hi, hl => by
    refine ⟨g, ?_⟩
    unfold lcLoop
    rw [hend, List.drop_of_length_le (by omega), List.map_nil, List.append_nil]
    rfl
  | m + 1, i, acc, g, hi, hl => by
    have h1 : i < xs.length := by omega
    obtain ⟨g1, e1⟩ := ht xs[i] (List.getElem_mem h1) acc g
    obtain ⟨g2, e2⟩ := lc_ev hit hend ht m (i + 1) (acc ++ [f xs[i]]) g1 (by omega) (by rw [List.length_append]; show acc.length + 1 + m ≤ 1000; omega)
    refine ⟨g2, ?_⟩
    unfold lcLoop
    rw [hit, List.getElem?_eq_getElem h1]
    dsimp only
    rw [e1]
    dsimp only [T.nox, T.bind]
    rw [mid_get]
    dsimp only
    rw [show fits (acc.length + 1) = true from Nat.ble_eq.mpr (show acc.length + 1 ≤ 100000 by omega)]
    dsimp only
    rw [mid_set, e2, List.drop_eq_getElem_cons h1, List.map_cons, List.append_assoc]
    rfl
/-- a for whose turns go on -/
theorem for_ev {body : Evr → M (Fl × Evr)} {tg : ITg} {pl : Pl} {xs : List D} (I : Nat → Evr → Store → Prop) (hit : ∀ i env st, I i env st → plItem st pl i = xs[i]? ∧ plEnd st pl = true)
    (step : ∀ i x env st, xs[i]? = some x → I i env st → ∃ env1 env2 st2, bindTg tg x env = some env1 ∧ body env1 st = .ret ((.next, env2), st2) ∧ I (i + 1) env2 st2) :
    ∀ m i env st, i + m = xs.length → I i env st → ∃ env' st', forLoop body tg pl m i env st = .ret ((.next, env'), st') ∧ I xs.length env' st'
  | 0, i, env, st, hi, h => by
    refine ⟨env, st, ?_, ?_⟩
    · unfold forLoop
      rw [(hit i env st h).2]
      rfl
    · rw [show xs.length = i by omega]
      exact h
  | m + 1, i, env, st, hi, h => by
    have h1 : i < xs.length := by omega
    obtain ⟨env1, env2, st2, e1, e2, h2⟩ := step i xs[i] env st (List.getElem?_eq_getElem h1) h
    obtain ⟨env', st', e3, h3⟩ := for_ev I hit step m (i + 1) env2 st2 (by omega) h2
    refine ⟨env', st', ?_, h3⟩
    unfold forLoop
    rw [(hit i env st h).1, List.getElem?_eq_getElem h1]
    dsimp only
    rw [e1]
    dsimp only
    rw [e2]
    dsimp only [T.bind]
    exact e3
/-- what walks a sequence -/
def seqPl (st : Store) : D → Option Pl
  | .tup xs => some (.tup xs)
  | .ref n => match st[n]? with
    | some (.lst _ xs) => some (.lst n xs.length)
    | _ => none
  | _ => none
def enumPl (st : Store) : D → Option Pl
  | .tup xs => some (.enumT xs)
  | .ref n => match st[n]? with
    | some (.lst _ xs) => some (.enumL n xs.length)
    | _ => none
  | _ => none
def enumD (i : Nat) : List D → List D
  | [] => []
  | x :: xs => .tup [.int (i : Int), x] :: enumD (i + 1) xs
theorem enumD_get : ∀ (xs : List D) (j i : Nat), (enumD j xs)[i]? = (xs[i]?).map fun x => .tup [.int ((j + i : Nat) : Int), x]
  | [], j, i => by simp [enumD]
  | x :: xs, j, 0 => by simp [enumD]
  | x :: xs, j, i + 1 => by
    rw [enumD, List.getElem?_cons_succ, List.getElem?_cons_succ, enumD_get xs (j + 1) i, show j + 1 + i = j + (i + 1) by omega]
theorem enumD_length : ∀ (xs : List D) (j : Nat), (enumD j xs).length = xs.length
  | [], _ => rfl
  | x :: xs, j => by rw [enumD, List.length_cons, List.length_cons, enumD_length xs]
theorem seq_pl {st : Store} {x : D} {xs : List D} (h : itemsD st x = some xs) : ∃ pl, plLen pl = xs.length ∧ ∀ g, seqPl (st ++ g) x = some pl ∧ (∀ i, plItem (st ++ g) pl i = xs[i]?) ∧ plEnd (st ++ g) pl = true := by
  cases x with
  | tup ys =>
    cases h
    exact ⟨_, rfl, fun g => ⟨rfl, fun i => rfl, rfl⟩⟩
  | ref n =>
    unfold itemsD at h
    dsimp only at h
    split at h
    · rename_i w ys e
      cases h
      refine ⟨.lst n xs.length, rfl, fun g => ?_⟩
      have q : lstAt (st ++ g) n xs.length = some xs := by
        unfold lstAt
        rw [app_get e]
        dsimp only
        rw [if_pos rfl]
      exact ⟨by unfold seqPl; dsimp only; rw [app_get e], fun i => by show (lstAt (st ++ g) n xs.length).bind _ = _; rw [q]; rfl, by show (lstAt (st ++ g) n xs.length).isSome = true; rw [q]; rfl⟩
    · cases h
  | _ => cases h
theorem enum_pl {st : Store} {x : D} {xs : List D} (h : itemsD st x = some xs) : ∃ pl, plLen pl = xs.length ∧ ∀ g, enumPl (st ++ g) x = some pl ∧ (∀ i, plItem (st ++ g) pl i = (enumD 0 xs)[i]?) ∧ plEnd (st ++ g) pl = true := by
  cases x with
  | tup ys =>
    cases h
    exact ⟨_, rfl, fun g => ⟨rfl, fun i => by rw [enumD_get, Nat.zero_add]; rfl, rfl⟩⟩
  | ref n =>
    unfold itemsD at h
    dsimp only at h
    split at h
    · rename_i w ys e
      cases h
      refine ⟨.enumL n xs.length, rfl, fun g => ?_⟩
      have q : lstAt (st ++ g) n xs.length = some xs := by
        unfold lstAt
        rw [app_get e]
        dsimp only
        rw [if_pos rfl]
      exact ⟨by unfold enumPl; dsimp only; rw [app_get e], fun i => by show (lstAt (st ++ g) n xs.length).bind _ = _; rw [q, enumD_get, Nat.zero_add]; rfl, by show (lstAt (st ++ g) n xs.length).isSome = true; rw [q]; rfl⟩
    · cases h
  | _ => cases h
theorem evIt_seq {C : Cfg} {e : IE} {env : Evr} {st st1 : Store} {x : D} {pl : Pl} (h : ev C e env st = .ret (x, st1)) (hp : seqPl st1 x = some pl) : evIt C (.seq e) env st = .ret (pl, st1) := by
  unfold evIt mbind
  rw [h]
  cases x with
  | tup xs =>
    cases hp
    rfl
  | ref n =>
    unfold seqPl at hp
    dsimp only [T.bind] at hp ⊢
    split at hp
    · rename_i e1
      cases hp
      first | rfl | (rw [e1] <;> rfl) | rw [e1]
    · cases hp
  | _ => cases hp
theorem evIt_enum {C : Cfg} {e : IE} {env : Evr} {st st1 : Store} {x : D} {pl : Pl} (h : ev C e env st = .ret (x, st1)) (hp : enumPl st1 x = some pl) : evIt C (.enum e) env st = .ret (pl, st1) := by
  unfold evIt mbind
  rw [h]
  cases x with
  | tup xs =>
    cases hp
    rfl
  | ref n =>
    unfold enumPl at hp
    dsimp only [T.bind] at hp ⊢
    split at hp
    · rename_i e1
      cases hp
      first | rfl | (rw [e1] <;> rfl) | rw [e1]
    · cases hp
  | _ => cases hp
theorem atI_nat {α : Type} {xs : List α} {i : Nat} {x : α} (h : xs[i]? = some x) : atI xs (i : Int) = some x := by
  have h1 := (List.getElem?_eq_some_iff.mp h).1
  unfold atI ixN
  rw [if_pos (by omega), if_pos (by omega)]
  exact h
theorem ixD_items {st : Store} {x : D} {xs : List D} {i : Nat} {y : D} (h : itemsD st x = some xs) (hi : xs[i]? = some y) : ixD x (.int (i : Int)) st = .ret (y, st) := by
  unfold ixD
  cases x with
  | str z => cases h
  | _ =>
    dsimp only
    rw [h]
    dsimp only
    rw [atI_nat hi]
    rfl
theorem len_items {st : Store} {x : D} {xs : List D} (h : itemsD st x = some xs) : bltD .len [x] st = .ret (.int xs.length, st) := by
  unfold bltD
  cases x with
  | str z => cases h
  | _ =>
    dsimp only
    rw [h]
theorem exs_cons {C : Cfg} {s : IS} {ss : ISs} {env env' : Evr} {st st' : Store} (h : ex C s env st = .ret ((.next, env'), st')) : exs C (.cons s ss) env st = exs C ss env' st' := by
  rw [exs, mbind, h]
  rfl
theorem exs_ret {C : Cfg} {s : IS} {ss : ISs} {env env' : Evr} {st st' : Store} {v : D} (h : ex C s env st = .ret ((.ret v, env'), st')) : exs C (.cons s ss) env st = .ret ((.ret v, env'), st') := by
  rw [exs, mbind, h]
  rfl
theorem ex_set {C : Cfg} {i : Nat} {e : IE} {env : Evr} {st st' : Store} {x : D} (h : ev C e env st = .ret (x, st')) : ex C (.set i e) env st = .ret ((.next, env.set i (some x)), st') := by
  rw [ex, doE, h]
  rfl
theorem ex_expr {C : Cfg} {e : IE} {env : Evr} {st st' : Store} {x : D} (h : ev C e env st = .ret (x, st')) : ex C (.expr e) env st = .ret ((.next, env), st') := by
  rw [ex, doE, h]
  rfl
theorem ex_ret {C : Cfg} {e : IE} {env : Evr} {st st' : Store} {x : D} (h : ev C e env st = .ret (x, st')) : ex C (.ret e) env st = .ret ((.ret x, env), st') := by
  rw [ex, doE, h]
  rfl
theorem ex_for {C : Cfg} {tg : ITg} {it : IIt} {b : ISs} {env : Evr} {st st' : Store} {pl : Pl} (h : evIt C it env st = .ret (pl, st')) : ex C (.for tg it b) env st = forLoop (exs C b) tg pl (plLen pl) 0 env st' := by
  rw [ex, doE, h]
  rfl
theorem ev_var {C : Cfg} {i : Nat} {env : Evr} {st : Store} {x : D} (h : env[i]? = some (some x)) : ev C (.var i) env st = .ret (x, st) := by
  rw [ev, h]
  rfl
theorem evs_cons {C : Cfg} {e : IE} {es : IEs} {env : Evr} {st st1 st2 : Store} {x : D} {xs : List D} (h : ev C e env st = .ret (x, st1)) (h2 : evs C es env st1 = .ret (xs, st2)) : evs C (.cons e es) env st = .ret (x :: xs, st2) := by
  rw [evs, mbind, h]
  show ((mbind (evs C es env) fun xs => mret (x :: xs)) st1) = _
  rw [mbind, h2]
  rfl
theorem evs_nil {C : Cfg} {env : Evr} {st : Store} : evs C .nil env st = .ret ([], st) := rfl
theorem ev_blt {C : Cfg} {f : Blt} {es : IEs} {env : Evr} {st st1 : Store} {xs : List D} (h : evs C es env st = .ret (xs, st1)) : ev C (.blt f es) env st = bltD f xs st1 := by
  rw [ev, mbind, h]
  rfl
theorem ev_ix {C : Cfg} {a i : IE} {env : Evr} {st st1 st2 : Store} {x k : D} (h : ev C a env st = .ret (x, st1)) (h2 : ev C i env st1 = .ret (k, st2)) : ev C (.ix a i) env st = ixD x k st2 := by
  rw [ev, mbind, h]
  show (mbind (ev C i env) fun k => ixD x k) st1 = _
  rw [mbind, h2]
  rfl
theorem ev_bin {C : Cfg} {op : Operator} {a i : IE} {env : Evr} {st st1 st2 : Store} {x k : D} (h : ev C a env st = .ret (x, st1)) (h2 : ev C i env st1 = .ret (k, st2)) : ev C (.bin op a i) env st = binD op x k st2 := by
  rw [ev, mbind, h]
  show (mbind (ev C i env) fun k => binD op x k) st1 = _
  rw [mbind, h2]
  rfl
theorem ev_call {C : Cfg} {f : Str} {es : IEs} {env : Evr} {st st1 : Store} {xs : List D} (h : evs C es env st = .ret (xs, st1)) : ev C (.call f es) env st = C.call f xs st1 := by
  rw [ev, mbind, h]
  rfl
/-- a comprehension without a test -/
theorem ev_lc {C : Cfg} {own : List (Str × Nat)} {tg : ITg} {it : IIt} {e : IE} {env : Evr} {st st1 : Store} {pl : Pl} {xs : List D} {f : D → D} (h : evIt C it env st = .ret (pl, st1)) (hl : plLen pl = xs.length) (hl2 : xs.length ≤ 1000)
    (hp : ∀ g, (∀ i, plItem (st1 ++ g) pl i = xs[i]?) ∧ plEnd (st1 ++ g) pl = true)
    (ht : ∀ x ∈ xs, ∀ g, ∃ env' g', bindTg tg x (wipeE env (own.map (·.2))) = some env' ∧ ev C e env' (st1 ++ g) = .ret (f x, (st1 ++ g) ++ g')) :
    ∃ g, ev C (.lc own tg it .none e) env st = .ret (.ref st1.length, st1 ++ .lst true (xs.map f) :: g) := by
  obtain ⟨g, e1⟩ := lc_ev (turn := lcTurn C tg .none e (own.map (·.2)) env) (pl := pl) (st0 := st1) (xs := xs) (f := f) (fun acc g i => (hp _).1 i) (fun acc g => (hp _).2) (fun x hx acc g => by
        obtain ⟨env', g', q1, q2⟩ := ht x hx (.lst true acc :: g)
        refine ⟨g ++ g', ?_⟩
        rw [lcTurn, q1]
        dsimp only
        rw [mbind]
        show (mbind (ev C e env') fun y => mret (some y)) _ = _
        rw [mbind, q2, List.append_assoc]
        rfl) (plLen pl) 0 [] [] (by omega) (by show 0 + plLen pl ≤ 1000; omega)
  refine ⟨g, ?_⟩
  rw [ev, mbind, h]
  show T.bind (lcLoop (lcTurn C tg .none e (own.map (·.2)) env) pl st1.length (plLen pl) 0 (st1 ++ [.lst true []])) _ = _
  rw [e1]
  rfl
end DI
end
section
namespace LawK02
open PySem L2 PySem.Spec DI
open PyProof.Rows hiding St
/-! ### the text -/
def topS (i : Nat) : Stmt := PySem.Challenge.pw_elderways_k02_operations_on_permutations.main.body.getD i (.Pass ⟨0, 0, 0, 0⟩)
abbrev s_identity : Stmt := topS 2
def b_identity : ISs :=
  .cons (.ret (.tr (.var 0))) .nil
def d_identity : Df := ⟨"identity", .code ["size"] 1 b_identity, s_identity, ["size"], ["size"], b_identity⟩
abbrev s_compose : Stmt := topS 3
def b_compose : ISs :=
  .cons (.ret (.blt .tuple (.cons (.lc [("place", 2)] (.name 2) (.seq (.var 0)) .none (.ix (.var 1) (.var 2))) .nil))) .nil
def d_compose : Df := ⟨"compose", .code ["first", "second"] 3 b_compose, s_compose, ["first", "second"], ["first", "second", "place"], b_compose⟩
abbrev s_inverse : Stmt := topS 4
def b_inverse : ISs :=
  .cons (.set 1 (.bin .Mult (.lst (.cons (.cint 0) .nil)) (.blt .len (.cons (.var 0) .nil))))
  (.cons (.for (.tup [2, 3]) (.enum (.var 0)) (.cons (.setSub (.var 1) (.var 3) (.var 2)) .nil))
  (.cons (.ret (.blt .tuple (.cons (.var 1) .nil))) .nil))
def d_inverse : Df := ⟨"inverse", .code ["permutation"] 4 b_inverse, s_inverse, ["permutation"], ["permutation", "origins", "origin", "place"], b_inverse⟩
abbrev s_cycle_from : Stmt := topS 5
def b_cycle_from : ISs :=
  .cons (.set 2 (.lst (.cons (.var 1) .nil)))
  (.cons (.set 3 (.ix (.var 0) (.var 1)))
  (.cons (.while (.cmp .NotEq (.var 3) (.var 1)) (.cons (.expr (.meth .append (.var 2) (.cons (.var 3) .nil)))
    (.cons (.set 3 (.ix (.var 0) (.var 3))) .nil)))
  (.cons (.ret (.var 2)) .nil)))
def d_cycle_from : Df := ⟨"cycle_from", .code ["permutation", "start"] 4 b_cycle_from, s_cycle_from, ["permutation", "start"], ["permutation", "start", "cycle", "place"], b_cycle_from⟩
abbrev s_order : Stmt := topS 6
def b_order : ISs :=
  .cons (.set 1 (.cint 1))
  (.cons (.for (.name 2) (.range1 (.blt .len (.cons (.var 0) .nil))) (.cons (.set 1 (.blt .lcm (.cons (.var 1) (.cons (.blt .len (.cons (.call "cycle_from" (.cons (.var 0) (.cons (.var 2) .nil))) .nil)) .nil)))) .nil))
  (.cons (.ret (.var 1)) .nil))
def d_order : Df := ⟨"order", .code ["permutation"] 3 b_order, s_order, ["permutation"], ["permutation", "total", "start"], b_order⟩
abbrev s_power : Stmt := topS 7
def b_power : ISs :=
  .cons (.set 2 (.lst .nil))
  (.cons (.for (.name 3) (.range1 (.blt .len (.cons (.var 0) .nil))) (.cons (.set 4 (.call "cycle_from" (.cons (.var 0) (.cons (.var 3) .nil))))
    (.cons (.expr (.meth .append (.var 2) (.cons (.ix (.var 4) (.bin .Mod (.var 1) (.blt .len (.cons (.var 4) .nil)))) .nil))) .nil)))
  (.cons (.ret (.blt .tuple (.cons (.var 2) .nil))) .nil))
def d_power : Df := ⟨"power", .code ["permutation", "exponent"] 5 b_power, s_power, ["permutation", "exponent"], ["permutation", "exponent", "places", "start", "cycle"], b_power⟩
abbrev s_law_box : Stmt := topS 9
def d_law_box : Df := ⟨"_law_box", .box, s_law_box, ["_law_script", "_law_k"], ["_law_script", "_law_k", "_law_cell"], boxI⟩
abbrev s_law_draw : Stmt := topS 10
def d_law_draw : Df := ⟨"_law_draw", .draw, s_law_draw, ["_law_rng", "_law_bound"], ["_law_rng", "_law_bound", "_law_found", "_law_once"], drawI⟩
abbrev s_law_same : Stmt := topS 11
def b_law_same : ISs :=
  .cons (.ite (.isi (.var 1) ["list", "tuple"]) (.cons (.ite (.or (.cmp .NotEq (.isi (.var 0) ["list"]) (.isi (.var 1) ["list"])) (.cmp .NotEq (.isi (.var 0) ["tuple"]) (.isi (.var 1) ["tuple"]))) (.cons (.ret (.cbl false)) .nil) .nil)
    (.cons (.ret (.and (.cmp .Eq (.blt .len (.cons (.var 0) .nil)) (.blt .len (.cons (.var 1) .nil))) (.blt .all (.cons (.lc [("_law_mine", 2), ("_law_other", 3)] (.tup [2, 3]) (.zip (.var 0) (.var 1)) .none (.call "_law_same" (.cons (.var 2) (.cons (.var 3) .nil)))) .nil)))) .nil)) .nil)
  (.cons (.ite (.or (.cmp .Is (.var 1) .cnon) (.isi (.var 1) ["bool", "str"])) (.cons (.ret (.and (.cmp .Eq (.var 0) (.var 1)) (.and (.cmp .Eq (.isi (.var 0) ["bool"]) (.isi (.var 1) ["bool"])) (.cmp .Eq (.cmp .Is (.var 0) .cnon) (.cmp .Is (.var 1) .cnon))))) .nil) .nil)
  (.cons (.ret (.and (.isi (.var 0) ["int"]) (.and (.not (.isi (.var 0) ["bool"])) (.cmp .Eq (.var 0) (.var 1))))) .nil))
def d_law_same : Df := ⟨"_law_same", .code ["_law_found", "_law_want"] 4 b_law_same, s_law_same, ["_law_found", "_law_want"], ["_law_found", "_law_want", "_law_mine", "_law_other"], b_law_same⟩
abbrev s_law_shuffle : Stmt := topS 12
def b_law_shuffle : ISs :=
  .cons (.set 2 (.lst .nil))
  (.cons (.for (.name 3) (.seq (.var 1)) (.cons (.expr (.meth .insert (.var 2) (.cons (.call "_law_draw" (.cons (.var 0) (.cons (.bin .Add (.blt .len (.cons (.var 2) .nil)) (.cint 1)) .nil))) (.cons (.var 3) .nil)))) .nil))
  (.cons (.ret (.var 2)) .nil))
def d_law_shuffle : Df := ⟨"_law_shuffle", .code ["_law_rng", "_law_some"] 4 b_law_shuffle, s_law_shuffle, ["_law_rng", "_law_some"], ["_law_rng", "_law_some", "_law_found", "_law_part"], b_law_shuffle⟩
abbrev s_law_permutation : Stmt := topS 13
def b_law_permutation : ISs :=
  .cons (.set 2 (.call "_law_draw" (.cons (.var 0) (.cons (.cint 5) .nil))))
  (.cons (.set 3 (.lr (.var 1)))
  (.cons (.ite (.cmp .Eq (.var 2) (.cint 1)) (.cons (.set 4 (.call "_law_draw" (.cons (.var 0) (.cons (.var 1) .nil))))
    (.cons (.set 3 (.bin .Add (.bin .Add (.slice (.var 3) .none (.some (.var 4))) (.rev (.slice (.var 3) (.some (.var 4)) (.some (.bin .Add (.var 4) (.cint 2)))))) (.slice (.var 3) (.some (.bin .Add (.var 4) (.cint 2))) .none))) .nil)) (.cons (.ite (.cmp .Eq (.var 2) (.cint 2)) (.cons (.set 3 (.bin .Add (.slice (.var 3) (.some (.cint 1)) .none) (.slice (.var 3) .none (.some (.cint 1))))) .nil) (.cons (.ite (.cmp .Gt (.var 2) (.cint 2)) (.cons (.set 3 (.call "_law_shuffle" (.cons (.var 0) (.cons (.var 3) .nil)))) .nil) .nil) .nil)) .nil))
  (.cons (.ret (.blt .tuple (.cons (.var 3) .nil))) .nil)))
def d_law_permutation : Df := ⟨"_law_permutation", .code ["_law_rng", "_law_degree"] 5 b_law_permutation, s_law_permutation, ["_law_rng", "_law_degree"], ["_law_rng", "_law_degree", "_law_kind", "_law_some", "_law_at"], b_law_permutation⟩
abbrev s_law_moved : Stmt := topS 14
def b_law_moved : ISs :=
  .cons (.set 2 (.blt .list (.cons (.var 0) .nil)))
  (.cons (.for (.tup [3, 4]) (.enum (.var 1)) (.cons (.setSub (.var 2) (.var 4) (.ix (.var 0) (.var 3))) .nil))
  (.cons (.ret (.var 2)) .nil))
def d_law_moved : Df := ⟨"_law_moved", .code ["_law_items", "_law_perm"] 5 b_law_moved, s_law_moved, ["_law_items", "_law_perm"], ["_law_items", "_law_perm", "_law_found", "_law_place", "_law_peg"], b_law_moved⟩
abbrev s_law_repeat : Stmt := topS 15
def b_law_repeat : ISs :=
  .cons (.for (.name 3) (.range1 (.var 2)) (.cons (.set 0 (.call "_law_moved" (.cons (.var 0) (.cons (.var 1) .nil)))) .nil))
  (.cons (.ret (.var 0)) .nil)
def d_law_repeat : Df := ⟨"_law_repeat", .code ["_law_items", "_law_perm", "_law_total"] 4 b_law_repeat, s_law_repeat, ["_law_items", "_law_perm", "_law_total"], ["_law_items", "_law_perm", "_law_total", "_law_turn"], b_law_repeat⟩
abbrev s_law_check : Stmt := topS 16
def b_law_check : ISs :=
  .cons (.set 1 (.bin .Add (.cint 1) (.call "_law_draw" (.cons (.var 0) (.cons (.cint 6) .nil)))))
  (.cons (.par [2, 3] (.cons (.blt .tuple (.cons (.call "_law_shuffle" (.cons (.var 0) (.cons (.lr (.var 1)) .nil))) .nil)) (.cons (.call "_law_permutation" (.cons (.var 0) (.cons (.var 1) .nil))) .nil)))
  (.cons (.par [4, 5] (.cons (.lc [("_law_peg", 6)] (.name 6) (.range1 (.var 1)) .none (.bin .Add (.cstr "thing ") (.blt .str (.cons (.var 6) .nil)))) (.cons (.blt .repr (.cons (.lst (.cons (.var 2) (.cons (.var 3) .nil))) .nil)) .nil)))
  (.cons (.set 7 (.call "compose" (.cons (.var 2) (.cons (.var 3) .nil))))
  (.cons (.ite (.or (.cmp .NotEq (.call "_law_moved" (.cons (.var 4) (.cons (.var 7) .nil))) (.call "_law_moved" (.cons (.call "_law_moved" (.cons (.var 4) (.cons (.var 2) .nil))) (.cons (.var 3) .nil)))) (.not (.isi (.var 7) ["tuple"]))) (.cons (.ret (.cbl false)) .nil) .nil)
  (.cons (.set 8 (.lst (.cons (.callK "compose" .nil ["second", "first"] (.cons (.blt .list (.cons (.var 3) .nil)) (.cons (.blt .list (.cons (.var 2) .nil)) .nil))) (.cons (.callK "inverse" .nil ["permutation"] (.cons (.blt .list (.cons (.var 2) .nil)) .nil)) .nil))))
  (.cons (.ite (.not (.call "_law_same" (.cons (.var 8) (.cons (.lst (.cons (.var 7) (.cons (.call "inverse" (.cons (.var 2) .nil)) .nil))) .nil)))) (.cons (.ret (.cbl false)) .nil) .nil)
  (.cons (.ite (.cmp .NotEq (.call "_law_moved" (.cons (.call "_law_moved" (.cons (.var 4) (.cons (.var 2) .nil))) (.cons (.call "inverse" (.cons (.var 2) .nil)) .nil))) (.var 4)) (.cons (.ret (.cbl false)) .nil) .nil)
  (.cons (.ite (.not (.call "_law_same" (.cons (.call "identity" (.cons (.var 1) .nil)) (.cons (.tr (.var 1)) .nil)))) (.cons (.ret (.cbl false)) .nil) .nil)
  (.cons (.ite (.not (.call "_law_same" (.cons (.lst (.cons (.callK "identity" .nil ["size"] (.cons (.var 1) .nil)) (.cons (.call "compose" (.cons (.var 2) (.cons (.call "inverse" (.cons (.var 2) .nil)) .nil))) .nil))) (.cons (.lst (.cons (.call "identity" (.cons (.var 1) .nil)) (.cons (.call "identity" (.cons (.var 1) .nil)) .nil))) .nil)))) (.cons (.ret (.cbl false)) .nil) .nil)
  (.cons (.par [9, 10] (.cons (.cint 1) (.cons (.call "_law_moved" (.cons (.var 4) (.cons (.var 2) .nil))) .nil)))
  (.cons (.while (.cmp .NotEq (.var 10) (.var 4)) (.cons (.par [9, 10] (.cons (.bin .Add (.var 9) (.cint 1)) (.cons (.call "_law_moved" (.cons (.var 10) (.cons (.var 2) .nil))) .nil))) .nil))
  (.cons (.ite (.not (.call "_law_same" (.cons (.lst (.cons (.call "order" (.cons (.var 2) .nil)) (.cons (.callK "order" .nil ["permutation"] (.cons (.blt .list (.cons (.var 2) .nil)) .nil)) .nil))) (.cons (.lst (.cons (.var 9) (.cons (.var 9) .nil))) .nil)))) (.cons (.ret (.cbl false)) .nil) .nil)
  (.cons (.for (.name 11) (.seq (.tup (.cons (.cint 0) (.cons (.cint 1) (.cons (.var 9) (.cons (.bin .Mult (.call "_law_draw" (.cons (.var 0) (.cons (.bin .Pow (.cint 10) (.cint 6)) .nil))) (.call "_law_draw" (.cons (.var 0) (.cons (.bin .Pow (.cint 10) (.cint 6)) .nil)))) (.cons (.bin .Pow (.cint 10) (.cint 12)) (.cons (.bin .Sub (.cint 0) (.call "_law_draw" (.cons (.var 0) (.cons (.cint 99) .nil)))) .nil)))))))) (.cons (.set 12 (.call "_law_repeat" (.cons (.var 4) (.cons (.var 2) (.cons (.bin .Mod (.var 11) (.var 9)) .nil)))))
    (.cons (.set 7 (.call "power" (.cons (.var 2) (.cons (.var 11) .nil))))
    (.cons (.ite (.or (.cmp .NotEq (.call "_law_moved" (.cons (.var 4) (.cons (.var 7) .nil))) (.var 12)) (.not (.call "_law_same" (.cons (.callK "power" .nil ["exponent", "permutation"] (.cons (.var 11) (.cons (.blt .list (.cons (.var 2) .nil)) .nil))) (.cons (.var 7) .nil))))) (.cons (.ret (.cbl false)) .nil) .nil) .nil))))
  (.cons (.ret (.cmp .Eq (.blt .repr (.cons (.lst (.cons (.var 2) (.cons (.var 3) .nil))) .nil)) (.var 5))) .nil))))))))))))))
def d_law_check : Df := ⟨"_law_check", .code ["_law_rng"] 13 b_law_check, s_law_check, ["_law_rng"], ["_law_rng", "_law_degree", "_law_left", "_law_right", "_law_items", "_law_before", "_law_peg", "_law_got", "_law_named", "_law_total", "_law_found", "_law_often", "_law_want"], b_law_check⟩
abbrev s_law : Stmt := topS 17
def b_law : ISs :=
  .cons (.set 1 (.lc [("_law_k", 2)] (.name 2) (.range1 (.bin .Add (.cint 1) (.blt .min2 (.cons (.cint 3) (.cons (.blt .len (.cons (.var 0) .nil)) .nil))))) .none (.call "_law_box" (.cons (.var 0) (.cons (.var 2) .nil)))))
  (.cons (.ret (.blt .all (.cons (.lc [("_law_rng", 3)] (.name 3) (.seq (.bin .Mult (.var 1) (.cint 3))) .none (.call "_law_check" (.cons (.var 3) .nil))) .nil))) .nil)
def d_law : Df := ⟨"law", .code ["_law_script"] 4 b_law, s_law, ["_law_script"], ["_law_script", "_law_boxes", "_law_k", "_law_rng"], b_law⟩
def defs : List Df := [d_identity, d_compose, d_inverse, d_cycle_from, d_order, d_power, d_law_box, d_law_draw, d_law_same, d_law_shuffle, d_law_permutation, d_law_moved, d_law_repeat, d_law_check, d_law]
def kws : KwTab := [("power", 0, ["exponent", "permutation"]), ("order", 0, ["permutation"]), ("identity", 0, ["size"]), ("inverse", 0, ["permutation"]), ("compose", 0, ["second", "first"])]
def T : Ck := ⟨tabOf defs, kws, [("lcm", "math.lcm")]⟩
theorem chk_identity : d_identity.chk T = true := by decide +kernel
theorem chk_compose : d_compose.chk T = true := by decide +kernel
theorem chk_inverse : d_inverse.chk T = true := by decide +kernel
theorem chk_cycle_from : d_cycle_from.chk T = true := by decide +kernel
theorem chk_order : d_order.chk T = true := by decide +kernel
theorem chk_power : d_power.chk T = true := by decide +kernel
theorem chk_law_box : d_law_box.chk T = true := by decide +kernel
theorem chk_law_draw : d_law_draw.chk T = true := by decide +kernel
theorem chk_law_same : d_law_same.chk T = true := by decide +kernel
theorem chk_law_shuffle : d_law_shuffle.chk T = true := by decide +kernel
theorem chk_law_permutation : d_law_permutation.chk T = true := by decide +kernel
theorem chk_law_moved : d_law_moved.chk T = true := by decide +kernel
theorem chk_law_repeat : d_law_repeat.chk T = true := by decide +kernel
theorem chk_law_check : d_law_check.chk T = true := by decide +kernel
theorem chk_law : d_law.chk T = true := by decide +kernel
theorem chk : ∀ d ∈ defs, d.chk T = true ∧ d.Runs := by
  intro d hd
  simp only [defs, List.mem_cons, List.not_mem_nil, or_false] at hd
  rcases hd with rfl | rfl | rfl | rfl | rfl | rfl | rfl | rfl | rfl | rfl | rfl | rfl | rfl | rfl | rfl
  · exact ⟨chk_identity, .code rfl (by decide)⟩
  · exact ⟨chk_compose, .code rfl (by decide)⟩
  · exact ⟨chk_inverse, .code rfl (by decide)⟩
  · exact ⟨chk_cycle_from, .code rfl (by decide)⟩
  · exact ⟨chk_order, .code rfl (by decide)⟩
  · exact ⟨chk_power, .code rfl (by decide)⟩
  · exact ⟨chk_law_box, .box rfl rfl rfl rfl⟩
  · exact ⟨chk_law_draw, .draw rfl rfl rfl rfl⟩
  · exact ⟨chk_law_same, .code rfl (by decide)⟩
  · exact ⟨chk_law_shuffle, .code rfl (by decide)⟩
  · exact ⟨chk_law_permutation, .code rfl (by decide)⟩
  · exact ⟨chk_law_moved, .code rfl (by decide)⟩
  · exact ⟨chk_law_repeat, .code rfl (by decide)⟩
  · exact ⟨chk_law_check, .code rfl (by decide)⟩
  · exact ⟨chk_law, .code rfl (by decide)⟩
theorem at_identity {K : PySem.W.Frag} {h : Heap} {mg : Str → Option Value} {f : Addr} (X : K.In h) (G : h.Ns mainGlobals mg) {od an : Option Addr} {sl : Array (Option Value)} {oc kV dc pm cd ct : Value}
    (a : PySem.W.nsIn K mainGlobals "identity" = some (some (.ref f))) (l : K.lookup f = some ⟨oc, od, .func (PySem.W.fnOf "identity" "identity" (defArgs s_identity) (defBody s_identity) (defScope s_identity) .none kV dc pm an cd ct), sl⟩) (c : PySem.W.codeIn K cd "identity" = true) (k : PySem.W.keepIn K (.ref f) = true) :
    DfAt T K mg d_identity := by
  have F := fun_mk (st := s_identity) l c k
  refine ⟨f, _, F, PySem.W.mg_of X G a, F.binds (ps := d_identity.ps) fun _ _ _ _ _ _ us hl => match us, hl with | [_], _ => rfl, fun n ks hk o ho => ?_⟩
  have hk2 : ∀ e ∈ kws, e.1 = ("identity" : Str) → e ∈ ([("identity", 0, ["size"])] : KwTab) := by decide +kernel
  have hk3 := hk2 _ hk rfl
  simp only [List.mem_cons, List.not_mem_nil, or_false, Prod.mk.injEq] at hk3
  rcases hk3 with ⟨_, rfl, rfl⟩
  · cases (show kordT T.F "identity" 0 ["size"] = _ from ho).symm.trans (by decide +kernel : kordT T.F "identity" 0 ["size"] = some [0])
    intro s us ws h1 h2
    match us, ws, h1, h2 with
    | [], [w0], _, _ => exact ⟨_, rfl, .of_eq rfl⟩
theorem at_compose {K : PySem.W.Frag} {h : Heap} {mg : Str → Option Value} {f : Addr} (X : K.In h) (G : h.Ns mainGlobals mg) {od an : Option Addr} {sl : Array (Option Value)} {oc kV dc pm cd ct : Value}
    (a : PySem.W.nsIn K mainGlobals "compose" = some (some (.ref f))) (l : K.lookup f = some ⟨oc, od, .func (PySem.W.fnOf "compose" "compose" (defArgs s_compose) (defBody s_compose) (defScope s_compose) .none kV dc pm an cd ct), sl⟩) (c : PySem.W.codeIn K cd "compose" = true) (k : PySem.W.keepIn K (.ref f) = true) :
    DfAt T K mg d_compose := by
  have F := fun_mk (st := s_compose) l c k
  refine ⟨f, _, F, PySem.W.mg_of X G a, F.binds (ps := d_compose.ps) fun _ _ _ _ _ _ us hl => match us, hl with | [_, _], _ => rfl, fun n ks hk o ho => ?_⟩
  have hk2 : ∀ e ∈ kws, e.1 = ("compose" : Str) → e ∈ ([("compose", 0, ["second", "first"])] : KwTab) := by decide +kernel
  have hk3 := hk2 _ hk rfl
  simp only [List.mem_cons, List.not_mem_nil, or_false, Prod.mk.injEq] at hk3
  rcases hk3 with ⟨_, rfl, rfl⟩
  · cases (show kordT T.F "compose" 0 ["second", "first"] = _ from ho).symm.trans (by decide +kernel : kordT T.F "compose" 0 ["second", "first"] = some [1, 0])
    intro s us ws h1 h2
    match us, ws, h1, h2 with
    | [], [w0, w1], _, _ => exact ⟨_, rfl, .of_eq rfl⟩
theorem at_inverse {K : PySem.W.Frag} {h : Heap} {mg : Str → Option Value} {f : Addr} (X : K.In h) (G : h.Ns mainGlobals mg) {od an : Option Addr} {sl : Array (Option Value)} {oc kV dc pm cd ct : Value}
    (a : PySem.W.nsIn K mainGlobals "inverse" = some (some (.ref f))) (l : K.lookup f = some ⟨oc, od, .func (PySem.W.fnOf "inverse" "inverse" (defArgs s_inverse) (defBody s_inverse) (defScope s_inverse) .none kV dc pm an cd ct), sl⟩) (c : PySem.W.codeIn K cd "inverse" = true) (k : PySem.W.keepIn K (.ref f) = true) :
    DfAt T K mg d_inverse := by
  have F := fun_mk (st := s_inverse) l c k
  refine ⟨f, _, F, PySem.W.mg_of X G a, F.binds (ps := d_inverse.ps) fun _ _ _ _ _ _ us hl => match us, hl with | [_], _ => rfl, fun n ks hk o ho => ?_⟩
  have hk2 : ∀ e ∈ kws, e.1 = ("inverse" : Str) → e ∈ ([("inverse", 0, ["permutation"])] : KwTab) := by decide +kernel
  have hk3 := hk2 _ hk rfl
  simp only [List.mem_cons, List.not_mem_nil, or_false, Prod.mk.injEq] at hk3
  rcases hk3 with ⟨_, rfl, rfl⟩
  · cases (show kordT T.F "inverse" 0 ["permutation"] = _ from ho).symm.trans (by decide +kernel : kordT T.F "inverse" 0 ["permutation"] = some [0])
    intro s us ws h1 h2
    match us, ws, h1, h2 with
    | [], [w0], _, _ => exact ⟨_, rfl, .of_eq rfl⟩
theorem at_cycle_from {K : PySem.W.Frag} {h : Heap} {mg : Str → Option Value} {f : Addr} (X : K.In h) (G : h.Ns mainGlobals mg) {od an : Option Addr} {sl : Array (Option Value)} {oc kV dc pm cd ct : Value}
    (a : PySem.W.nsIn K mainGlobals "cycle_from" = some (some (.ref f))) (l : K.lookup f = some ⟨oc, od, .func (PySem.W.fnOf "cycle_from" "cycle_from" (defArgs s_cycle_from) (defBody s_cycle_from) (defScope s_cycle_from) .none kV dc pm an cd ct), sl⟩) (c : PySem.W.codeIn K cd "cycle_from" = true) (k : PySem.W.keepIn K (.ref f) = true) :
    DfAt T K mg d_cycle_from := by
  have F := fun_mk (st := s_cycle_from) l c k
  refine ⟨f, _, F, PySem.W.mg_of X G a, F.binds (ps := d_cycle_from.ps) fun _ _ _ _ _ _ us hl => match us, hl with | [_, _], _ => rfl, fun n ks hk o ho => ?_⟩
  have hk2 : ∀ e ∈ kws, e.1 = ("cycle_from" : Str) → e ∈ ([] : KwTab) := by decide +kernel
  have hk3 := hk2 _ hk rfl
  cases hk3
theorem at_order {K : PySem.W.Frag} {h : Heap} {mg : Str → Option Value} {f : Addr} (X : K.In h) (G : h.Ns mainGlobals mg) {od an : Option Addr} {sl : Array (Option Value)} {oc kV dc pm cd ct : Value}
    (a : PySem.W.nsIn K mainGlobals "order" = some (some (.ref f))) (l : K.lookup f = some ⟨oc, od, .func (PySem.W.fnOf "order" "order" (defArgs s_order) (defBody s_order) (defScope s_order) .none kV dc pm an cd ct), sl⟩) (c : PySem.W.codeIn K cd "order" = true) (k : PySem.W.keepIn K (.ref f) = true) :
    DfAt T K mg d_order := by
  have F := fun_mk (st := s_order) l c k
  refine ⟨f, _, F, PySem.W.mg_of X G a, F.binds (ps := d_order.ps) fun _ _ _ _ _ _ us hl => match us, hl with | [_], _ => rfl, fun n ks hk o ho => ?_⟩
  have hk2 : ∀ e ∈ kws, e.1 = ("order" : Str) → e ∈ ([("order", 0, ["permutation"])] : KwTab) := by decide +kernel
  have hk3 := hk2 _ hk rfl
  simp only [List.mem_cons, List.not_mem_nil, or_false, Prod.mk.injEq] at hk3
  rcases hk3 with ⟨_, rfl, rfl⟩
  · cases (show kordT T.F "order" 0 ["permutation"] = _ from ho).symm.trans (by decide +kernel : kordT T.F "order" 0 ["permutation"] = some [0])
    intro s us ws h1 h2
    match us, ws, h1, h2 with
    | [], [w0], _, _ => exact ⟨_, rfl, .of_eq rfl⟩
theorem at_power {K : PySem.W.Frag} {h : Heap} {mg : Str → Option Value} {f : Addr} (X : K.In h) (G : h.Ns mainGlobals mg) {od an : Option Addr} {sl : Array (Option Value)} {oc kV dc pm cd ct : Value}
    (a : PySem.W.nsIn K mainGlobals "power" = some (some (.ref f))) (l : K.lookup f = some ⟨oc, od, .func (PySem.W.fnOf "power" "power" (defArgs s_power) (defBody s_power) (defScope s_power) .none kV dc pm an cd ct), sl⟩) (c : PySem.W.codeIn K cd "power" = true) (k : PySem.W.keepIn K (.ref f) = true) :
    DfAt T K mg d_power := by
  have F := fun_mk (st := s_power) l c k
  refine ⟨f, _, F, PySem.W.mg_of X G a, F.binds (ps := d_power.ps) fun _ _ _ _ _ _ us hl => match us, hl with | [_, _], _ => rfl, fun n ks hk o ho => ?_⟩
  have hk2 : ∀ e ∈ kws, e.1 = ("power" : Str) → e ∈ ([("power", 0, ["exponent", "permutation"])] : KwTab) := by decide +kernel
  have hk3 := hk2 _ hk rfl
  simp only [List.mem_cons, List.not_mem_nil, or_false, Prod.mk.injEq] at hk3
  rcases hk3 with ⟨_, rfl, rfl⟩
  · cases (show kordT T.F "power" 0 ["exponent", "permutation"] = _ from ho).symm.trans (by decide +kernel : kordT T.F "power" 0 ["exponent", "permutation"] = some [1, 0])
    intro s us ws h1 h2
    match us, ws, h1, h2 with
    | [], [w0, w1], _, _ => exact ⟨_, rfl, .of_eq rfl⟩
theorem at_law_box {K : PySem.W.Frag} {h : Heap} {mg : Str → Option Value} {f : Addr} (X : K.In h) (G : h.Ns mainGlobals mg) {od an : Option Addr} {sl : Array (Option Value)} {oc kV dc pm cd ct : Value}
    (a : PySem.W.nsIn K mainGlobals "_law_box" = some (some (.ref f))) (l : K.lookup f = some ⟨oc, od, .func (PySem.W.fnOf "_law_box" "_law_box" (defArgs s_law_box) (defBody s_law_box) (defScope s_law_box) .none kV dc pm an cd ct), sl⟩) (c : PySem.W.codeIn K cd "_law_box" = true) (k : PySem.W.keepIn K (.ref f) = true) :
    DfAt T K mg d_law_box := by
  have F := fun_mk (st := s_law_box) l c k
  refine ⟨f, _, F, PySem.W.mg_of X G a, F.binds (ps := d_law_box.ps) fun _ _ _ _ _ _ us hl => match us, hl with | [_, _], _ => rfl, fun n ks hk o ho => ?_⟩
  have hk2 : ∀ e ∈ kws, e.1 = ("_law_box" : Str) → e ∈ ([] : KwTab) := by decide +kernel
  have hk3 := hk2 _ hk rfl
  cases hk3
theorem at_law_draw {K : PySem.W.Frag} {h : Heap} {mg : Str → Option Value} {f : Addr} (X : K.In h) (G : h.Ns mainGlobals mg) {od an : Option Addr} {sl : Array (Option Value)} {oc kV dc pm cd ct : Value}
    (a : PySem.W.nsIn K mainGlobals "_law_draw" = some (some (.ref f))) (l : K.lookup f = some ⟨oc, od, .func (PySem.W.fnOf "_law_draw" "_law_draw" (defArgs s_law_draw) (defBody s_law_draw) (defScope s_law_draw) .none kV dc pm an cd ct), sl⟩) (c : PySem.W.codeIn K cd "_law_draw" = true) (k : PySem.W.keepIn K (.ref f) = true) :
    DfAt T K mg d_law_draw := by
  have F := fun_mk (st := s_law_draw) l c k
  refine ⟨f, _, F, PySem.W.mg_of X G a, F.binds (ps := d_law_draw.ps) fun _ _ _ _ _ _ us hl => match us, hl with | [_, _], _ => rfl, fun n ks hk o ho => ?_⟩
  have hk2 : ∀ e ∈ kws, e.1 = ("_law_draw" : Str) → e ∈ ([] : KwTab) := by decide +kernel
  have hk3 := hk2 _ hk rfl
  cases hk3
theorem at_law_same {K : PySem.W.Frag} {h : Heap} {mg : Str → Option Value} {f : Addr} (X : K.In h) (G : h.Ns mainGlobals mg) {od an : Option Addr} {sl : Array (Option Value)} {oc kV dc pm cd ct : Value}
    (a : PySem.W.nsIn K mainGlobals "_law_same" = some (some (.ref f))) (l : K.lookup f = some ⟨oc, od, .func (PySem.W.fnOf "_law_same" "_law_same" (defArgs s_law_same) (defBody s_law_same) (defScope s_law_same) .none kV dc pm an cd ct), sl⟩) (c : PySem.W.codeIn K cd "_law_same" = true) (k : PySem.W.keepIn K (.ref f) = true) :
    DfAt T K mg d_law_same := by
  have F := fun_mk (st := s_law_same) l c k
  refine ⟨f, _, F, PySem.W.mg_of X G a, F.binds (ps := d_law_same.ps) fun _ _ _ _ _ _ us hl => match us, hl with | [_, _], _ => rfl, fun n ks hk o ho => ?_⟩
  have hk2 : ∀ e ∈ kws, e.1 = ("_law_same" : Str) → e ∈ ([] : KwTab) := by decide +kernel
  have hk3 := hk2 _ hk rfl
  cases hk3
theorem at_law_shuffle {K : PySem.W.Frag} {h : Heap} {mg : Str → Option Value} {f : Addr} (X : K.In h) (G : h.Ns mainGlobals mg) {od an : Option Addr} {sl : Array (Option Value)} {oc kV dc pm cd ct : Value}
    (a : PySem.W.nsIn K mainGlobals "_law_shuffle" = some (some (.ref f))) (l : K.lookup f = some ⟨oc, od, .func (PySem.W.fnOf "_law_shuffle" "_law_shuffle" (defArgs s_law_shuffle) (defBody s_law_shuffle) (defScope s_law_shuffle) .none kV dc pm an cd ct), sl⟩) (c : PySem.W.codeIn K cd "_law_shuffle" = true) (k : PySem.W.keepIn K (.ref f) = true) :
    DfAt T K mg d_law_shuffle := by
  have F := fun_mk (st := s_law_shuffle) l c k
  refine ⟨f, _, F, PySem.W.mg_of X G a, F.binds (ps := d_law_shuffle.ps) fun _ _ _ _ _ _ us hl => match us, hl with | [_, _], _ => rfl, fun n ks hk o ho => ?_⟩
  have hk2 : ∀ e ∈ kws, e.1 = ("_law_shuffle" : Str) → e ∈ ([] : KwTab) := by decide +kernel
  have hk3 := hk2 _ hk rfl
  cases hk3
theorem at_law_permutation {K : PySem.W.Frag} {h : Heap} {mg : Str → Option Value} {f : Addr} (X : K.In h) (G : h.Ns mainGlobals mg) {od an : Option Addr} {sl : Array (Option Value)} {oc kV dc pm cd ct : Value}
    (a : PySem.W.nsIn K mainGlobals "_law_permutation" = some (some (.ref f))) (l : K.lookup f = some ⟨oc, od, .func (PySem.W.fnOf "_law_permutation" "_law_permutation" (defArgs s_law_permutation) (defBody s_law_permutation) (defScope s_law_permutation) .none kV dc pm an cd ct), sl⟩) (c : PySem.W.codeIn K cd "_law_permutation" = true) (k : PySem.W.keepIn K (.ref f) = true) :
    DfAt T K mg d_law_permutation := by
  have F := fun_mk (st := s_law_permutation) l c k
  refine ⟨f, _, F, PySem.W.mg_of X G a, F.binds (ps := d_law_permutation.ps) fun _ _ _ _ _ _ us hl => match us, hl with | [_, _], _ => rfl, fun n ks hk o ho => ?_⟩
  have hk2 : ∀ e ∈ kws, e.1 = ("_law_permutation" : Str) → e ∈ ([] : KwTab) := by decide +kernel
  have hk3 := hk2 _ hk rfl
  cases hk3
theorem at_law_moved {K : PySem.W.Frag} {h : Heap} {mg : Str → Option Value} {f : Addr} (X : K.In h) (G : h.Ns mainGlobals mg) {od an : Option Addr} {sl : Array (Option Value)} {oc kV dc pm cd ct : Value}
    (a : PySem.W.nsIn K mainGlobals "_law_moved" = some (some (.ref f))) (l : K.lookup f = some ⟨oc, od, .func (PySem.W.fnOf "_law_moved" "_law_moved" (defArgs s_law_moved) (defBody s_law_moved) (defScope s_law_moved) .none kV dc pm an cd ct), sl⟩) (c : PySem.W.codeIn K cd "_law_moved" = true) (k : PySem.W.keepIn K (.ref f) = true) :
    DfAt T K mg d_law_moved := by
  have F := fun_mk (st := s_law_moved) l c k
  refine ⟨f, _, F, PySem.W.mg_of X G a, F.binds (ps := d_law_moved.ps) fun _ _ _ _ _ _ us hl => match us, hl with | [_, _], _ => rfl, fun n ks hk o ho => ?_⟩
  have hk2 : ∀ e ∈ kws, e.1 = ("_law_moved" : Str) → e ∈ ([] : KwTab) := by decide +kernel
  have hk3 := hk2 _ hk rfl
  cases hk3
theorem at_law_repeat {K : PySem.W.Frag} {h : Heap} {mg : Str → Option Value} {f : Addr} (X : K.In h) (G : h.Ns mainGlobals mg) {od an : Option Addr} {sl : Array (Option Value)} {oc kV dc pm cd ct : Value}
    (a : PySem.W.nsIn K mainGlobals "_law_repeat" = some (some (.ref f))) (l : K.lookup f = some ⟨oc, od, .func (PySem.W.fnOf "_law_repeat" "_law_repeat" (defArgs s_law_repeat) (defBody s_law_repeat) (defScope s_law_repeat) .none kV dc pm an cd ct), sl⟩) (c : PySem.W.codeIn K cd "_law_repeat" = true) (k : PySem.W.keepIn K (.ref f) = true) :
    DfAt T K mg d_law_repeat := by
  have F := fun_mk (st := s_law_repeat) l c k
  refine ⟨f, _, F, PySem.W.mg_of X G a, F.binds (ps := d_law_repeat.ps) fun _ _ _ _ _ _ us hl => match us, hl with | [_, _, _], _ => rfl, fun n ks hk o ho => ?_⟩
  have hk2 : ∀ e ∈ kws, e.1 = ("_law_repeat" : Str) → e ∈ ([] : KwTab) := by decide +kernel
  have hk3 := hk2 _ hk rfl
  cases hk3
theorem at_law_check {K : PySem.W.Frag} {h : Heap} {mg : Str → Option Value} {f : Addr} (X : K.In h) (G : h.Ns mainGlobals mg) {od an : Option Addr} {sl : Array (Option Value)} {oc kV dc pm cd ct : Value}
    (a : PySem.W.nsIn K mainGlobals "_law_check" = some (some (.ref f))) (l : K.lookup f = some ⟨oc, od, .func (PySem.W.fnOf "_law_check" "_law_check" (defArgs s_law_check) (defBody s_law_check) (defScope s_law_check) .none kV dc pm an cd ct), sl⟩) (c : PySem.W.codeIn K cd "_law_check" = true) (k : PySem.W.keepIn K (.ref f) = true) :
    DfAt T K mg d_law_check := by
  have F := fun_mk (st := s_law_check) l c k
  refine ⟨f, _, F, PySem.W.mg_of X G a, F.binds (ps := d_law_check.ps) fun _ _ _ _ _ _ us hl => match us, hl with | [_], _ => rfl, fun n ks hk o ho => ?_⟩
  have hk2 : ∀ e ∈ kws, e.1 = ("_law_check" : Str) → e ∈ ([] : KwTab) := by decide +kernel
  have hk3 := hk2 _ hk rfl
  cases hk3
theorem at_law {K : PySem.W.Frag} {h : Heap} {mg : Str → Option Value} {f : Addr} (X : K.In h) (G : h.Ns mainGlobals mg) {od an : Option Addr} {sl : Array (Option Value)} {oc kV dc pm cd ct : Value}
    (a : PySem.W.nsIn K mainGlobals "law" = some (some (.ref f))) (l : K.lookup f = some ⟨oc, od, .func (PySem.W.fnOf "law" "law" (defArgs s_law) (defBody s_law) (defScope s_law) .none kV dc pm an cd ct), sl⟩) (c : PySem.W.codeIn K cd "law" = true) (k : PySem.W.keepIn K (.ref f) = true) :
    DfAt T K mg d_law := by
  have F := fun_mk (st := s_law) l c k
  refine ⟨f, _, F, PySem.W.mg_of X G a, F.binds (ps := d_law.ps) fun _ _ _ _ _ _ us hl => match us, hl with | [_], _ => rfl, fun n ks hk o ho => ?_⟩
  have hk2 : ∀ e ∈ kws, e.1 = ("law" : Str) → e ∈ ([] : KwTab) := by decide +kernel
  have hk3 := hk2 _ hk rfl
  cases hk3
theorem all_mk {l : PySem.W.OpenLaw} {w : World} {K : PySem.W.Frag} {h : Heap} {mg : Str → Option Value} {fa : Addr} (X : K.In h) (G : h.Ns mainGlobals mg) (hfa : mg "law" = some (.ref fa))
    {f0 : Addr} {od0 an0 : Option Addr} {sl0 : Array (Option Value)} {oc0 kV0 dc0 pm0 cd0 ct0 : Value}
    {f1 : Addr} {od1 an1 : Option Addr} {sl1 : Array (Option Value)} {oc1 kV1 dc1 pm1 cd1 ct1 : Value}
    {f2 : Addr} {od2 an2 : Option Addr} {sl2 : Array (Option Value)} {oc2 kV2 dc2 pm2 cd2 ct2 : Value}
    {f3 : Addr} {od3 an3 : Option Addr} {sl3 : Array (Option Value)} {oc3 kV3 dc3 pm3 cd3 ct3 : Value}
    {f4 : Addr} {od4 an4 : Option Addr} {sl4 : Array (Option Value)} {oc4 kV4 dc4 pm4 cd4 ct4 : Value}
    {f5 : Addr} {od5 an5 : Option Addr} {sl5 : Array (Option Value)} {oc5 kV5 dc5 pm5 cd5 ct5 : Value}
    {f6 : Addr} {od6 an6 : Option Addr} {sl6 : Array (Option Value)} {oc6 kV6 dc6 pm6 cd6 ct6 : Value}
    {f7 : Addr} {od7 an7 : Option Addr} {sl7 : Array (Option Value)} {oc7 kV7 dc7 pm7 cd7 ct7 : Value}
    {f8 : Addr} {od8 an8 : Option Addr} {sl8 : Array (Option Value)} {oc8 kV8 dc8 pm8 cd8 ct8 : Value}
    {f9 : Addr} {od9 an9 : Option Addr} {sl9 : Array (Option Value)} {oc9 kV9 dc9 pm9 cd9 ct9 : Value}
    {f10 : Addr} {od10 an10 : Option Addr} {sl10 : Array (Option Value)} {oc10 kV10 dc10 pm10 cd10 ct10 : Value}
    {f11 : Addr} {od11 an11 : Option Addr} {sl11 : Array (Option Value)} {oc11 kV11 dc11 pm11 cd11 ct11 : Value}
    {f12 : Addr} {od12 an12 : Option Addr} {sl12 : Array (Option Value)} {oc12 kV12 dc12 pm12 cd12 ct12 : Value}
    {f13 : Addr} {od13 an13 : Option Addr} {sl13 : Array (Option Value)} {oc13 kV13 dc13 pm13 cd13 ct13 : Value}
    {f14 : Addr} {od14 an14 : Option Addr} {sl14 : Array (Option Value)} {oc14 kV14 dc14 pm14 cd14 ct14 : Value}
    (a0 : PySem.W.nsIn K mainGlobals "identity" = some (some (.ref f0))) (l0 : K.lookup f0 = some ⟨oc0, od0, .func (PySem.W.fnOf "identity" "identity" (defArgs s_identity) (defBody s_identity) (defScope s_identity) .none kV0 dc0 pm0 an0 cd0 ct0), sl0⟩) (c0 : PySem.W.codeIn K cd0 "identity" = true) (k0 : PySem.W.keepIn K (.ref f0) = true)
    (a1 : PySem.W.nsIn K mainGlobals "compose" = some (some (.ref f1))) (l1 : K.lookup f1 = some ⟨oc1, od1, .func (PySem.W.fnOf "compose" "compose" (defArgs s_compose) (defBody s_compose) (defScope s_compose) .none kV1 dc1 pm1 an1 cd1 ct1), sl1⟩) (c1 : PySem.W.codeIn K cd1 "compose" = true) (k1 : PySem.W.keepIn K (.ref f1) = true)
    (a2 : PySem.W.nsIn K mainGlobals "inverse" = some (some (.ref f2))) (l2 : K.lookup f2 = some ⟨oc2, od2, .func (PySem.W.fnOf "inverse" "inverse" (defArgs s_inverse) (defBody s_inverse) (defScope s_inverse) .none kV2 dc2 pm2 an2 cd2 ct2), sl2⟩) (c2 : PySem.W.codeIn K cd2 "inverse" = true) (k2 : PySem.W.keepIn K (.ref f2) = true)
    (a3 : PySem.W.nsIn K mainGlobals "cycle_from" = some (some (.ref f3))) (l3 : K.lookup f3 = some ⟨oc3, od3, .func (PySem.W.fnOf "cycle_from" "cycle_from" (defArgs s_cycle_from) (defBody s_cycle_from) (defScope s_cycle_from) .none kV3 dc3 pm3 an3 cd3 ct3), sl3⟩) (c3 : PySem.W.codeIn K cd3 "cycle_from" = true) (k3 : PySem.W.keepIn K (.ref f3) = true)
    (a4 : PySem.W.nsIn K mainGlobals "order" = some (some (.ref f4))) (l4 : K.lookup f4 = some ⟨oc4, od4, .func (PySem.W.fnOf "order" "order" (defArgs s_order) (defBody s_order) (defScope s_order) .none kV4 dc4 pm4 an4 cd4 ct4), sl4⟩) (c4 : PySem.W.codeIn K cd4 "order" = true) (k4 : PySem.W.keepIn K (.ref f4) = true)
    (a5 : PySem.W.nsIn K mainGlobals "power" = some (some (.ref f5))) (l5 : K.lookup f5 = some ⟨oc5, od5, .func (PySem.W.fnOf "power" "power" (defArgs s_power) (defBody s_power) (defScope s_power) .none kV5 dc5 pm5 an5 cd5 ct5), sl5⟩) (c5 : PySem.W.codeIn K cd5 "power" = true) (k5 : PySem.W.keepIn K (.ref f5) = true)
    (a6 : PySem.W.nsIn K mainGlobals "_law_box" = some (some (.ref f6))) (l6 : K.lookup f6 = some ⟨oc6, od6, .func (PySem.W.fnOf "_law_box" "_law_box" (defArgs s_law_box) (defBody s_law_box) (defScope s_law_box) .none kV6 dc6 pm6 an6 cd6 ct6), sl6⟩) (c6 : PySem.W.codeIn K cd6 "_law_box" = true) (k6 : PySem.W.keepIn K (.ref f6) = true)
    (a7 : PySem.W.nsIn K mainGlobals "_law_draw" = some (some (.ref f7))) (l7 : K.lookup f7 = some ⟨oc7, od7, .func (PySem.W.fnOf "_law_draw" "_law_draw" (defArgs s_law_draw) (defBody s_law_draw) (defScope s_law_draw) .none kV7 dc7 pm7 an7 cd7 ct7), sl7⟩) (c7 : PySem.W.codeIn K cd7 "_law_draw" = true) (k7 : PySem.W.keepIn K (.ref f7) = true)
    (a8 : PySem.W.nsIn K mainGlobals "_law_same" = some (some (.ref f8))) (l8 : K.lookup f8 = some ⟨oc8, od8, .func (PySem.W.fnOf "_law_same" "_law_same" (defArgs s_law_same) (defBody s_law_same) (defScope s_law_same) .none kV8 dc8 pm8 an8 cd8 ct8), sl8⟩) (c8 : PySem.W.codeIn K cd8 "_law_same" = true) (k8 : PySem.W.keepIn K (.ref f8) = true)
    (a9 : PySem.W.nsIn K mainGlobals "_law_shuffle" = some (some (.ref f9))) (l9 : K.lookup f9 = some ⟨oc9, od9, .func (PySem.W.fnOf "_law_shuffle" "_law_shuffle" (defArgs s_law_shuffle) (defBody s_law_shuffle) (defScope s_law_shuffle) .none kV9 dc9 pm9 an9 cd9 ct9), sl9⟩) (c9 : PySem.W.codeIn K cd9 "_law_shuffle" = true) (k9 : PySem.W.keepIn K (.ref f9) = true)
    (a10 : PySem.W.nsIn K mainGlobals "_law_permutation" = some (some (.ref f10))) (l10 : K.lookup f10 = some ⟨oc10, od10, .func (PySem.W.fnOf "_law_permutation" "_law_permutation" (defArgs s_law_permutation) (defBody s_law_permutation) (defScope s_law_permutation) .none kV10 dc10 pm10 an10 cd10 ct10), sl10⟩) (c10 : PySem.W.codeIn K cd10 "_law_permutation" = true) (k10 : PySem.W.keepIn K (.ref f10) = true)
    (a11 : PySem.W.nsIn K mainGlobals "_law_moved" = some (some (.ref f11))) (l11 : K.lookup f11 = some ⟨oc11, od11, .func (PySem.W.fnOf "_law_moved" "_law_moved" (defArgs s_law_moved) (defBody s_law_moved) (defScope s_law_moved) .none kV11 dc11 pm11 an11 cd11 ct11), sl11⟩) (c11 : PySem.W.codeIn K cd11 "_law_moved" = true) (k11 : PySem.W.keepIn K (.ref f11) = true)
    (a12 : PySem.W.nsIn K mainGlobals "_law_repeat" = some (some (.ref f12))) (l12 : K.lookup f12 = some ⟨oc12, od12, .func (PySem.W.fnOf "_law_repeat" "_law_repeat" (defArgs s_law_repeat) (defBody s_law_repeat) (defScope s_law_repeat) .none kV12 dc12 pm12 an12 cd12 ct12), sl12⟩) (c12 : PySem.W.codeIn K cd12 "_law_repeat" = true) (k12 : PySem.W.keepIn K (.ref f12) = true)
    (a13 : PySem.W.nsIn K mainGlobals "_law_check" = some (some (.ref f13))) (l13 : K.lookup f13 = some ⟨oc13, od13, .func (PySem.W.fnOf "_law_check" "_law_check" (defArgs s_law_check) (defBody s_law_check) (defScope s_law_check) .none kV13 dc13 pm13 an13 cd13 ct13), sl13⟩) (c13 : PySem.W.codeIn K cd13 "_law_check" = true) (k13 : PySem.W.keepIn K (.ref f13) = true)
    (a14 : PySem.W.nsIn K mainGlobals "law" = some (some (.ref f14))) (l14 : K.lookup f14 = some ⟨oc14, od14, .func (PySem.W.fnOf "law" "law" (defArgs s_law) (defBody s_law) (defScope s_law) .none kV14 dc14 pm14 an14 cd14 ct14), sl14⟩) (c14 : PySem.W.codeIn K cd14 "law" = true) (k14 : PySem.W.keepIn K (.ref f14) = true)
    (z_len : PySem.W.nsIn K mainGlobals "len" = some none)
    (z_list : PySem.W.nsIn K mainGlobals "list" = some none)
    (z_tuple : PySem.W.nsIn K mainGlobals "tuple" = some none)
    (z_all : PySem.W.nsIn K mainGlobals "all" = some none)
    (z_any : PySem.W.nsIn K mainGlobals "any" = some none)
    (z_abs : PySem.W.nsIn K mainGlobals "abs" = some none)
    (z_int : PySem.W.nsIn K mainGlobals "int" = some none)
    (z_bool : PySem.W.nsIn K mainGlobals "bool" = some none)
    (z_str : PySem.W.nsIn K mainGlobals "str" = some none)
    (z_repr : PySem.W.nsIn K mainGlobals "repr" = some none)
    (z_min : PySem.W.nsIn K mainGlobals "min" = some none)
    (z_max : PySem.W.nsIn K mainGlobals "max" = some none)
    (z_sorted : PySem.W.nsIn K mainGlobals "sorted" = some none)
    (z_range : PySem.W.nsIn K mainGlobals "range" = some none)
    (z_enumerate : PySem.W.nsIn K mainGlobals "enumerate" = some none)
    (z_zip : PySem.W.nsIn K mainGlobals "zip" = some none)
    (z_isinstance : PySem.W.nsIn K mainGlobals "isinstance" = some none)
    (m_lcm : PySem.W.nsIn K mainGlobals "lcm" = some (some (.builtin "math.lcm")))
    {k : Nat} : ∃ fd : FuncData, (∀ (s : Shared) (v : Value), BindsTo s fd ⟨[v], []⟩ [("_law_script", v)]) ∧ ∀ base : Heap, FnG l.prog w K mg base (k + 1) fa fd ["_law_script"] (spI T.F (fun _ _ _ _ => False) K (k + 1) "law") := by
  have e := hfa.symm.trans (PySem.W.mg_of X G a14)
  cases e
  have Fl := fun_mk (st := s_law) l14 c14 k14
  refine ⟨PySem.W.fnOf "law" "law" (defArgs s_law) (defBody s_law) (defScope s_law) .none kV14 dc14 pm14 an14 cd14 ct14, fun s v => .of_eq rfl, fun base => ?_⟩
  have G := gd_all (T := T) (RX := fun _ _ _ _ => False) (P := l.prog) (w := w) (base := base) (defs := defs) rfl chk (fun d hd => by
    simp only [defs, List.mem_cons, List.not_mem_nil, or_false] at hd
    rcases hd with rfl | rfl | rfl | rfl | rfl | rfl | rfl | rfl | rfl | rfl | rfl | rfl | rfl | rfl | rfl
    · exact at_identity X G a0 l0 c0 k0
    · exact at_compose X G a1 l1 c1 k1
    · exact at_inverse X G a2 l2 c2 k2
    · exact at_cycle_from X G a3 l3 c3 k3
    · exact at_order X G a4 l4 c4 k4
    · exact at_power X G a5 l5 c5 k5
    · exact at_law_box X G a6 l6 c6 k6
    · exact at_law_draw X G a7 l7 c7 k7
    · exact at_law_same X G a8 l8 c8 k8
    · exact at_law_shuffle X G a9 l9 c9 k9
    · exact at_law_permutation X G a10 l10 c10 k10
    · exact at_law_moved X G a11 l11 c11 k11
    · exact at_law_repeat X G a12 l12 c12 k12
    · exact at_law_check X G a13 l13 c13 k13
    · exact at_law X G a14 l14 c14 k14
    ) (fun x hx => by
    simp only [bltNames, List.mem_cons, List.not_mem_nil, or_false] at hx
    rcases hx with rfl | rfl | rfl | rfl | rfl | rfl | rfl | rfl | rfl | rfl | rfl | rfl | rfl | rfl | rfl | rfl | rfl
    · exact PySem.W.mg_none_of X G z_len
    · exact PySem.W.mg_none_of X G z_list
    · exact PySem.W.mg_none_of X G z_tuple
    · exact PySem.W.mg_none_of X G z_all
    · exact PySem.W.mg_none_of X G z_any
    · exact PySem.W.mg_none_of X G z_abs
    · exact PySem.W.mg_none_of X G z_int
    · exact PySem.W.mg_none_of X G z_bool
    · exact PySem.W.mg_none_of X G z_str
    · exact PySem.W.mg_none_of X G z_repr
    · exact PySem.W.mg_none_of X G z_min
    · exact PySem.W.mg_none_of X G z_max
    · exact PySem.W.mg_none_of X G z_sorted
    · exact PySem.W.mg_none_of X G z_range
    · exact PySem.W.mg_none_of X G z_enumerate
    · exact PySem.W.mg_none_of X G z_zip
    · exact PySem.W.mg_none_of X G z_isinstance
    ) (fun x id hx => by
    simp only [T, List.mem_cons, List.not_mem_nil, or_false, Prod.mk.injEq] at hx
    obtain ⟨rfl, rfl⟩ := hx
    exact PySem.W.mg_of X G m_lcm
    ) k
  exact fn_code (d := d_law) G Fl chk_law rfl rfl
end LawK02
end
section
namespace LawK02
open PySem L2 PySem.Spec DI
open PyProof.Rows hiding St
theorem run_ok {F : Tab} {f : Str} {ps : List Str} {n k : Nat} {b : ISs} {vs : List D} {st st' : Store} {v : D} {env' : Evr} (h : F.lookup f = some (.code ps n b)) (hl : vs.length = ps.length)
    (he : exs (cfg F k) b (vs.map some ++ List.replicate (n - vs.length) none) st = .ret ((.ret v, env'), st')) : DI.run F (k + 1) f vs st = .ret (v, st') := by
  rw [DI.run, h]
  dsimp only
  rw [decide_eq_true hl]
  dsimp only
  have he : exs ⟨DI.run F k, kordT F⟩ b (vs.map some ++ List.replicate (n - vs.length) none) st = .ret ((.ret v, env'), st') := he
  rw [he]
  rfl
/-! ### lists that are set from place to place -/
def sets {α : Type} (v : Nat → α) : List Nat → Nat → List α → List α
  | [], _, acc => acc
  | p :: r, i, acc => sets v r (i + 1) (acc.set p (v i))
section
variable {α β : Type} {v : Nat → α}
theorem sets_snoc : ∀ (l : List Nat) (p j : Nat) (acc : List α), sets v (l ++ [p]) j acc = (sets v l j acc).set p (v (j + l.length))
  | [], p, j, acc => rfl
  | q :: r, p, j, acc => by
    show sets v (r ++ [p]) (j + 1) (acc.set q (v j)) = _
    rw [sets_snoc r p (j + 1)]
    show _ = (sets v r (j + 1) (acc.set q (v j))).set p (v (j + (r.length + 1)))
    rw [show j + 1 + r.length = j + (r.length + 1) by omega]
theorem sets_length : ∀ (l : List Nat) (j : Nat) (acc : List α), (sets v l j acc).length = acc.length
  | [], _, _ => rfl
  | q :: r, j, acc => by
    show (sets v r (j + 1) (acc.set q (v j))).length = _
    rw [sets_length r, List.length_set]
theorem sets_out : ∀ (l : List Nat) (j : Nat) (acc : List α) (q : Nat), q ∉ l → (sets v l j acc)[q]? = acc[q]?
  | [], _, _, _, _ => rfl
  | p :: r, j, acc, q, h => by
    show (sets v r (j + 1) (acc.set p (v j)))[q]? = _
    rw [sets_out r _ _ q (fun z => h (List.mem_cons_of_mem _ z)), List.getElem?_set_ne (fun z => h (by rw [z]; exact List.mem_cons_self))]
theorem sets_at : ∀ (l : List Nat) (j i q : Nat) (acc : List α), l.Nodup → l[i]? = some q → q < acc.length → (sets v l j acc)[q]? = some (v (j + i))
  | [], _, i, q, _, _, h, _ => by simp at h
  | p :: r, j, 0, q, acc, hn, h, hq => by
    cases h
    show (sets v r (j + 1) (acc.set p (v j)))[p]? = _
    rw [sets_out r _ _ p (List.nodup_cons.mp hn).1, List.getElem?_set_self hq]
    rfl
  | p :: r, j, i + 1, q, acc, hn, h, hq => by
    show (sets v r (j + 1) (acc.set p (v j)))[q]? = _
    rw [sets_at r (j + 1) i q _ (List.nodup_cons.mp hn).2 h (by rw [List.length_set]; exact hq), show j + 1 + i = j + (i + 1) by omega]
theorem sets_map (g : α → β) : ∀ (l : List Nat) (j : Nat) (acc : List α), (sets v l j acc).map g = sets (fun i => g (v i)) l j (acc.map g)
  | [], _, _ => rfl
  | p :: r, j, acc => by
    show (sets v r (j + 1) (acc.set p (v j))).map g = _
    rw [sets_map g r]
    show _ = sets (fun i => g (v i)) r (j + 1) ((acc.map g).set p (g (v j)))
    rw [List.map_set]
end
/-! ### the program -/
variable {k : Nat} {st : Store} {A B : D} {ps qs : List Nat}
def compL (ps qs : List Nat) : List Nat := ps.map fun p => qs.getD p 0
theorem sp_identity (n : Nat) (h : n ≤ 1000) : DI.run T.F (k + 1) "identity" [.int (n : Int)] st = .ret (.tup (il (List.range n)), st) := by
  refine run_ok (n := 1) (b := b_identity) rfl rfl (env' := [some (.int (n : Int))]) ?_
  refine exs_ret (ex_ret ?_)
  rw [ev, mbind]
  show rgD false (.int (n : Int)) st = _
  unfold rgD
  dsimp only
  rw [decide_eq_true (show (-100000 : Int) < n by omega), decide_eq_true (show (n : Int) ≤ 100000 by omega)]
  rfl
theorem tuple_items {x : D} {xs : List D} (h : itemsD st x = some xs) : bltD .tuple [x] st = .ret (.tup xs, st) := by
  unfold bltD
  dsimp only
  rw [h]
theorem list_items {x : D} {xs : List D} (h : itemsD st x = some xs) : bltD .list [x] st = .ret (.ref st.length, st ++ [.lst true xs]) := by
  unfold bltD
  dsimp only
  rw [h]
  rfl
theorem items_mid (st : Store) (xs : List D) (g : Store) : itemsD (st ++ .lst true xs :: g) (.ref st.length) = some xs := by
  unfold itemsD
  dsimp only
  rw [mid_get]
def cpf (qs : List Nat) : D → D
  | .int i => .int ((qs.getD i.toNat 0 : Nat) : Int)
  | _ => .non
theorem cpf_map : (il ps).map (cpf qs) = il (compL ps qs) := by
  unfold il compL
  rw [List.map_map, List.map_map]
  rfl
theorem sp_compose (hA : itemsD st A = some (il ps)) (hB : itemsD st B = some (il qs)) (hl : ps.length ≤ 1000) (hp : ∀ p ∈ ps, p < qs.length) : Ev (DI.run T.F (k + 1) "compose" [A, B] st) st (.tup (il (compL ps qs))) := by
  obtain ⟨pl, p2, p3⟩ := seq_pl hA
  have p1 := (p3 []).1
  rw [List.append_nil] at p1
  obtain ⟨g, e⟩ := ev_lc (C := cfg T.F k) (own := [("place", 2)]) (tg := .name 2) (it := .seq (.var 0)) (e := .ix (.var 1) (.var 2)) (env := [some A, some B, none]) (st := st) (st1 := st) (pl := pl) (xs := il ps)
    (f := cpf qs) (evIt_seq (ev_var rfl) p1) p2 (by rw [il_length]; exact hl) (fun g => (p3 g).2) (fun x hx g => by
      obtain ⟨p, hp1, rfl⟩ := List.mem_map.mp hx
      refine ⟨_, [], rfl, ?_⟩
      have h1 := hp p hp1
      have e1 : qs[p]? = some (qs.getD p 0) := by rw [List.getD_eq_getElem?_getD, List.getElem?_eq_getElem h1]; rfl
      rw [List.append_nil]
      exact (ev_ix (ev_var rfl) (ev_var rfl)).trans (ixD_items (items_app hB g) (il_get e1)))
  rw [cpf_map] at e
  exact ⟨_, run_ok (n := 3) (b := b_compose) rfl rfl (exs_ret (ex_ret ((ev_blt (evs_cons e evs_nil)).trans (tuple_items (items_mid _ _ _)))))⟩
theorem fits_of {n : Nat} (h : n ≤ 1000) : fits n = true := Nat.ble_eq.mpr (show n ≤ 100000 by omega)
theorem ixN_nat {n i : Nat} (h : i < n) : ixN n (i : Int) = some i := by
  unfold ixN
  rw [if_pos (by omega), if_pos (by omega)]
  rfl
/-- found[peg] = something, place by place -/
theorem sets_loop {C : Cfg} {n : Nat} {e : IE} {env0 : Evr} {st0 : Store} {acc0 : List D} {v : Nat → D} {pl : Pl} {i0 i1 : Nat} (hp : ∀ p ∈ ps, p < acc0.length) (hl : plLen pl = ps.length)
    (p3 : ∀ g, (∀ i, plItem (st0 ++ g) pl i = (enumD 0 (il ps))[i]?) ∧ plEnd (st0 ++ g) pl = true)
    (hlen : ∀ a b : Option D, ((env0.set i0 a).set i1 b)[n]? = some (some (.ref st0.length))) (h01 : i0 ≠ i1) (h1 : i1 < env0.length)
    (he : ∀ (i p : Nat) (acc : List D), ps[i]? = some p → ev C e ((env0.set i0 (some (.int (i : Int)))).set i1 (some (.int (p : Int)))) (st0 ++ [.lst true acc]) = .ret (v i, st0 ++ [.lst true acc])) :
    ∃ a b, forLoop (exs C (.cons (.setSub (.var n) (.var i1) e) .nil)) (.tup [i0, i1]) pl (plLen pl) 0 ((env0.set i0 none).set i1 none) (st0 ++ [.lst true acc0]) = .ret ((.next, (env0.set i0 a).set i1 b), st0 ++ [.lst true (sets v ps 0 acc0)]) := by
  have key := for_ev (body := exs C (.cons (.setSub (.var n) (.var i1) e) .nil)) (tg := .tup [i0, i1]) (pl := pl) (xs := enumD 0 (il ps))
    (fun i env st => (∃ a b, env = (env0.set i0 a).set i1 b) ∧ st = st0 ++ [.lst true (sets v (ps.take i) 0 acc0)])
    (fun i env st h => by
      obtain ⟨_, rfl⟩ := h
      exact ⟨(p3 _).1 i, (p3 _).2⟩)
    (fun i x env st hx h => by
      obtain ⟨⟨a, b, rfl⟩, rfl⟩ := h
      rw [enumD_get, Nat.zero_add] at hx
      have hi : i < ps.length := by
        cases q : (il ps)[i]? with
        | none =>
          rw [q] at hx
          cases hx
        | some y =>
          have := (List.getElem?_eq_some_iff.mp q).1
          rwa [il_length] at this
      have e1 := List.getElem?_eq_getElem hi
      rw [il_get e1] at hx
      cases hx
      have hset : (((env0.set i0 a).set i1 b).set i0 (some (.int (i : Int)))).set i1 (some (.int (ps[i] : Int))) = (env0.set i0 (some (.int (i : Int)))).set i1 (some (.int (ps[i] : Int))) := by
        rw [List.set_comm _ _ (Ne.symm h01), List.set_set, List.set_set]
      refine ⟨_, _, _, rfl, ?_, ⟨some (.int (i : Int)), some (.int (ps[i] : Int)), rfl⟩, rfl⟩
      rw [hset]
      have hw : (sets v (ps.take i) 0 acc0).length = acc0.length := sets_length _ _ _
      have hv := he i ps[i] (sets v (ps.take i) 0 acc0) e1
      have hpi := hp ps[i] (List.getElem_mem hi)
      have e3 : ((env0.set i0 (some (D.int (i : Int)))).set i1 (some (.int (ps[i] : Int))))[i1]? = some (some (.int (ps[i] : Int))) := List.getElem?_set_self (by rw [List.length_set]; exact h1)
      refine (exs_cons (env' := (env0.set i0 (some (.int (i : Int)))).set i1 (some (.int (ps[i] : Int)))) (st' := st0 ++ [.lst true (sets v (ps.take (i + 1)) 0 acc0)]) ?_).trans rfl
      rw [ex, doE, mbind, hv]
      show T.resc _ _ ((mbind (ev C (.var n) _) fun x => mbind (ev C (.var i1) _) fun k => setSubD x k (v i)) _) = _
      rw [mbind, ev_var (hlen _ _)]
      show T.resc _ _ ((mbind (ev C (.var i1) _) fun k => setSubD (.ref st0.length) k (v i)) _) = _
      rw [mbind, ev_var e3]
      show T.resc _ _ (setSubD (.ref st0.length) (.int (ps[i] : Int)) (v i) _) = _
      unfold setSubD
      dsimp only
      rw [mid_get]
      dsimp only
      rw [ixN_nat (by rw [hw]; exact hpi)]
      dsimp only
      rw [mid_set, List.take_add_one, e1]
      show T.resc _ _ _ = .ret ((.next, _), st0 ++ [.lst true (sets v (ps.take i ++ [ps[i]]) 0 acc0)])
      rw [sets_snoc, Nat.zero_add, List.length_take, Nat.min_eq_left (Nat.le_of_lt hi)]
      rfl)
    ps.length 0 ((env0.set i0 none).set i1 none) (st0 ++ [.lst true acc0]) (by rw [enumD_length, il_length, Nat.zero_add]) ⟨⟨none, none, rfl⟩, rfl⟩
  obtain ⟨env', st', h1, ⟨a, b, h2⟩, h3⟩ := key
  refine ⟨a, b, ?_⟩
  rw [enumD_length, il_length, List.take_length] at h3
  rw [hl, h1, h2, h3]
theorem ev_lst {C : Cfg} {es : IEs} {env : Evr} {st st1 : Store} {xs : List D} (h : evs C es env st = .ret (xs, st1)) (hl : xs.length ≤ 1000) : ev C (.lst es) env st = .ret (.ref st1.length, st1 ++ [.lst true xs]) := by
  rw [ev, mbind, h]
  show mif (fits xs.length) (mnew xs) st1 = _
  rw [fits_of hl]
  rfl
theorem ev_tup {C : Cfg} {es : IEs} {env : Evr} {st st1 : Store} {xs : List D} (h : evs C es env st = .ret (xs, st1)) (hl : xs.length ≤ 1000) : ev C (.tup es) env st = .ret (.tup xs, st1) := by
  rw [ev, mbind, h]
  show mif (fits xs.length) (mret (D.tup xs)) st1 = _
  rw [fits_of hl]
  rfl
theorem rep_one {x : D} : ∀ n : Nat, (List.replicate n [x]).flatten = List.replicate n x
  | 0 => rfl
  | n + 1 => by
    rw [List.replicate_succ, List.flatten_cons, rep_one n]
    rfl
theorem sp_inverse (hA : itemsD st A = some (il ps)) (hl : ps.length ≤ 1000) (hp : ∀ p ∈ ps, p < ps.length) : Ev (DI.run T.F (k + 1) "inverse" [A] st) st (.tup (sets (fun i => .int (i : Int)) ps 0 (List.replicate ps.length (.int 0)))) := by
  obtain ⟨pl, p2, p3⟩ := enum_pl hA
  rw [il_length] at p2
  obtain ⟨st0, hst⟩ : ∃ st0 : Store, st0 = st ++ [SO.lst true [.int 0]] := ⟨_, rfl⟩
  obtain ⟨a, b, h⟩ := sets_loop (C := cfg T.F k) (n := 1) (e := .var 2) (env0 := [some A, some (.ref st0.length), none, none]) (st0 := st0) (acc0 := List.replicate ps.length (.int 0)) (v := fun i => .int (i : Int)) (pl := pl) (i0 := 2) (i1 := 3) (ps := ps)
    (by rw [List.length_replicate]; exact hp) p2 (fun g => by rw [hst, List.append_assoc]; exact (p3 _).2) (fun a b => rfl) (by decide) (Nat.lt_succ_self 3) (fun i p acc hi => ev_var rfl)
  have h1 : ev (cfg T.F k) (.bin .Mult (.lst (.cons (.cint 0) .nil)) (.blt .len (.cons (.var 0) .nil))) [some A, none, none, none] st = .ret (.ref st0.length, st0 ++ [.lst true (List.replicate ps.length (.int 0))]) := by
    rw [ev_bin (ev_lst (evs_cons (x := .int 0) rfl evs_nil) (by decide)) ((ev_blt (evs_cons (ev_var rfl) evs_nil)).trans (len_items (items_app hA _)))]
    unfold binD
    dsimp only
    rw [mid_get]
    dsimp only
    rw [il_length, decide_eq_true (show (0 : Int) ≤ (ps.length : Int) by omega), decide_eq_true (show (ps.length : Int) < 100000 by omega), fits_of (show ([D.int 0] : List D).length * (ps.length : Int).toNat ≤ 1000 by show 1 * ps.length ≤ 1000; omega)]
    show DI.T.ret (D.ref (st ++ [SO.lst true [.int 0]]).length, st ++ [SO.lst true [.int 0]] ++ [SO.lst true (List.replicate ps.length [D.int 0]).flatten]) = _
    rw [rep_one, hst]
  have h2 : evIt (cfg T.F k) (.enum (.var 0)) [some A, some (.ref st0.length), none, none] (st0 ++ [.lst true (List.replicate ps.length (.int 0))]) = .ret (pl, st0 ++ [.lst true (List.replicate ps.length (.int 0))]) :=
    evIt_enum (ev_var rfl) (by rw [hst, List.append_assoc]; exact (p3 _).1)
  have h3 : exs (cfg T.F k) b_inverse [some A, none, none, none] st = .ret ((.ret (.tup (sets (fun i => .int (i : Int)) ps 0 (List.replicate ps.length (.int 0)))), [some A, some (.ref st0.length), a, b]), st0 ++ [.lst true (sets (fun i => .int (i : Int)) ps 0 (List.replicate ps.length (.int 0)))]) :=
    (exs_cons (ex_set h1)).trans ((exs_cons ((ex_for h2).trans h)).trans (exs_ret (ex_ret ((ev_blt (evs_cons (ev_var rfl) evs_nil)).trans (tuple_items (items_mid _ _ _))))))
  rw [hst, List.append_assoc] at h3
  exact ⟨_, run_ok (n := 4) (b := b_inverse) rfl rfl h3⟩
theorem sp_moved {n : Nat} {w : Bool} {xs : List D} (hn : st[n]? = some (.lst w xs)) (hA : itemsD st A = some (il ps)) (hl : ps.length ≤ xs.length) (hp : ∀ p ∈ ps, p < xs.length) : DI.run T.F (k + 1) "_law_moved" [.ref n, A] st = .ret (.ref st.length, st ++ [.lst true (sets (fun i => xs.getD i .non) ps 0 xs)]) := by
  obtain ⟨pl, p2, p3⟩ := enum_pl hA
  rw [il_length] at p2
  have hI : itemsD st (.ref n) = some xs := by unfold itemsD; dsimp only; rw [hn]
  obtain ⟨a, b, h⟩ := sets_loop (C := cfg T.F k) (n := 2) (e := .ix (.var 0) (.var 3)) (env0 := [some (.ref n), some A, some (.ref st.length), none, none]) (st0 := st) (acc0 := xs) (v := fun i => xs.getD i .non) (pl := pl) (i0 := 3) (i1 := 4) (ps := ps)
    hp p2 (fun g => (p3 _).2) (fun a b => rfl) (by decide) (Nat.lt_succ_self 4) (fun i p acc hi => (ev_ix (ev_var rfl) (ev_var rfl)).trans (ixD_items (items_app hI _) (by
      have q := (List.getElem?_eq_some_iff.mp hi).1
      rw [List.getD_eq_getElem?_getD, List.getElem?_eq_getElem (show i < xs.length by omega)]
      rfl)))
  exact run_ok (n := 5) (b := b_law_moved) rfl rfl ((exs_cons (ex_set ((ev_blt (evs_cons (ev_var rfl) evs_nil)).trans (list_items hI)))).trans ((exs_cons ((ex_for (evIt_enum (ev_var rfl) (p3 _).1)).trans h)).trans (exs_ret (ex_ret (ev_var rfl)))))
end LawK02
end
section
namespace LawK02
open PySem L2 PySem.Spec DI
open PyProof.Rows hiding St
variable {k : Nat} {st : Store} {A B : D} {ps qs : List Nat}
theorem ev_append {C : Cfg} {o a : IE} {env : Evr} {st0 g : Store} {acc : List D} {y : D} (ho : ev C o env (st0 ++ .lst true acc :: g) = .ret (.ref st0.length, st0 ++ .lst true acc :: g)) (ha : ev C a env (st0 ++ .lst true acc :: g) = .ret (y, st0 ++ .lst true acc :: g)) (hl : acc.length < 1000) :
    ev C (.meth .append o (.cons a .nil)) env (st0 ++ .lst true acc :: g) = .ret (.non, st0 ++ .lst true (acc ++ [y]) :: g) := by
  rw [ev, mbind, ho]
  show (mbind (evs C (.cons a .nil) env) fun xs => methD .append (.ref st0.length) xs) _ = _
  rw [mbind, evs_cons ha evs_nil]
  show methD .append (.ref st0.length) [y] _ = _
  unfold methD
  dsimp only
  rw [mid_get]
  dsimp only
  rw [fits_of (show acc.length + 1 ≤ 1000 by omega)]
  show DI.T.ret (D.non, (st0 ++ .lst true acc :: g).set st0.length (.lst true (acc ++ [y]))) = _
  rw [mid_set]
theorem ne_int {i j : Int} : cmpD .NotEq (.int i) (.int j) st = .ret (!decide (i = j), st) := by
  show mopt ((some (PyData.eqv (.int i) (.int j))).map (!·)) st = _
  show DI.T.ret (!(PyData.eqv (.int i) (.int j)), st) = _
  congr 3
theorem ev_cmp {C : Cfg} {op : CmpOp} {a b : IE} {env : Evr} {st st1 st2 : Store} {x y : D} (h : ev C a env st = .ret (x, st1)) (h2 : ev C b env st1 = .ret (y, st2)) {c : Bool} {st3 : Store} (h3 : cmpD op x y st2 = .ret (c, st3)) : ev C (.cmp op a b) env st = .ret (.bl c, st3) := by
  rw [ev, mbind, h]
  show (mbind (ev C b env) fun y => mbind (cmpD op x y) fun k => mret (D.bl k)) st1 = _
  rw [mbind, h2]
  show (mbind (cmpD op x y) fun k => mret (D.bl k)) st2 = _
  rw [mbind, h3]
  rfl
theorem while_stop {test : Evr → M Bool} {body : Evr → M (Fl × Evr)} {m : Nat} {env : Evr} {st st' : Store} (h : test env st = .ret (false, st')) : whileLoop test body (m + 1) env st = .ret ((.next, env), st') := by
  rw [whileLoop, doE, h]
  rfl
theorem while_step {test : Evr → M Bool} {body : Evr → M (Fl × Evr)} {m : Nat} {env env2 : Evr} {st st' st2 : Store} (h : test env st = .ret (true, st')) (h2 : body env st' = .ret ((.next, env2), st2)) : whileLoop test body (m + 1) env st = whileLoop test body m env2 st2 := by
  rw [whileLoop, doE, h]
  show T.bind (body env st') _ = _
  rw [h2]
  rfl
theorem ex_while {C : Cfg} {c : IE} {b : ISs} {env : Evr} {st : Store} : ex C (.while c b) env st = whileLoop (fun env => mbind (ev C c env) truthD) (exs C b) turns env st := by
  rw [ex]
/-- the walk from place to place, back to its start -/
def walk (ps : List Nat) (s : Nat) : Nat → Nat → List Nat → Option (List Nat)
  | 0, _, _ => none
  | f + 1, p, acc => if p = s then some acc else walk ps s f (ps.getD p 0) (acc ++ [p])
def cyc (ps : List Nat) (s : Nat) : Option (List Nat) := walk ps s 20 (ps.getD s 0) [s]
theorem getD_get {p : Nat} (h : p < ps.length) : ps[p]? = some (ps.getD p 0) := by
  rw [List.getD_eq_getElem?_getD, List.getElem?_eq_getElem h]
  rfl
theorem getD_lt (hp : ∀ p ∈ ps, p < ps.length) {p : Nat} (h : p < ps.length) : ps.getD p 0 < ps.length := hp _ (List.mem_of_getElem? (getD_get h))
theorem walk_len {s : Nat} : ∀ (f p : Nat) (acc c : List Nat), walk ps s f p acc = some c → acc.length ≤ c.length
  | 0, _, _, _, h => by cases h
  | f + 1, p, acc, c, h => by
    unfold walk at h
    split at h
    · cases h
      exact Nat.le_refl _
    · have q := walk_len f _ _ _ h
      rw [List.length_append] at q
      omega
theorem il_snoc (l : List Nat) (p : Nat) : il (l ++ [p]) = il l ++ [.int (p : Int)] := by
  unfold il
  rw [List.map_append]
  rfl
theorem cyc_loop {s : Nat} (hA : itemsD st A = some (il ps)) (hp : ∀ p ∈ ps, p < ps.length) : ∀ (f p m : Nat) (acc c : List Nat), walk ps s f p acc = some c → p < ps.length → f ≤ m → acc.length + f ≤ 900 →
    ∃ p', whileLoop (fun env => mbind (ev (cfg T.F k) (.cmp .NotEq (.var 3) (.var 1)) env) truthD) (exs (cfg T.F k) (.cons (.expr (.meth .append (.var 2) (.cons (.var 3) .nil))) (.cons (.set 3 (.ix (.var 0) (.var 3))) .nil))) m
      [some A, some (.int (s : Int)), some (.ref st.length), some (.int (p : Int))] (st ++ [.lst true (il acc)]) = .ret ((.next, [some A, some (.int (s : Int)), some (.ref st.length), some (.int (p' : Int))]), st ++ [.lst true (il c)])
  | 0, _, _, _, _, h, _, _, _ => by cases h
  | f + 1, p, 0, _, _, _, _, h, _ => by omega
  | f + 1, p, m + 1, acc, c, h, hpl, hm, hl => by
    unfold walk at h
    have e1 : (mbind (ev (cfg T.F k) (.cmp .NotEq (.var 3) (.var 1)) [some A, some (.int (s : Int)), some (.ref st.length), some (.int (p : Int))]) truthD) (st ++ [.lst true (il acc)]) = .ret (!decide ((p : Int) = s), st ++ [.lst true (il acc)]) := by
      rw [mbind, ev_cmp (ev_var rfl) (ev_var rfl) ne_int]
      rfl
    split at h
    · rename_i e
      cases h
      refine ⟨p, while_stop ?_⟩
      rw [e1, e, decide_eq_true rfl]
      rfl
    · rename_i e
      obtain ⟨p', h2⟩ := cyc_loop hA hp f (ps.getD p 0) m (acc ++ [p]) c h (getD_lt hp hpl) (by omega) (by rw [List.length_append]; show acc.length + 1 + f ≤ 900; omega)
      rw [decide_eq_false (show ¬ ((p : Int) = s) by omega)] at e1
      refine ⟨p', (while_step e1 ((exs_cons (ex_expr (ev_append (ev_var rfl) (ev_var rfl) (by rw [il_length]; omega)))).trans (exs_cons (ss := .nil) (ex_set ((ev_ix (ev_var rfl) (ev_var rfl)).trans (ixD_items (items_app hA _) (il_get (getD_get hpl)))))))).trans ?_⟩
      rw [← il_snoc]
      exact h2
theorem sp_cycle {s : Nat} {c : List Nat} (hA : itemsD st A = some (il ps)) (hp : ∀ p ∈ ps, p < ps.length) (hs : s < ps.length) (hc : cyc ps s = some c) : DI.run T.F (k + 1) "cycle_from" [A, .int (s : Int)] st = .ret (.ref st.length, st ++ [.lst true (il c)]) := by
  obtain ⟨p', h⟩ := cyc_loop (k := k) hA hp 20 (ps.getD s 0) turns [s] c hc (getD_lt hp hs) (by decide) (by show 1 + 20 ≤ 900; decide)
  have h2 : exs (cfg T.F k) b_cycle_from [some A, some (.int (s : Int)), none, none] st = .ret ((.ret (.ref st.length), [some A, some (.int (s : Int)), some (.ref st.length), some (.int (p' : Int))]), st ++ [.lst true (il c)]) :=
    (exs_cons (ex_set (ev_lst (evs_cons (ev_var rfl) evs_nil) (by show 1 ≤ 1000; decide)))).trans ((exs_cons (ex_set ((ev_ix (ev_var rfl) (ev_var rfl)).trans (ixD_items (items_app hA _) (il_get (getD_get hs)))))).trans
      ((exs_cons (env' := [some A, some (.int (s : Int)), some (.ref st.length), some (.int (p' : Int))]) (st' := st ++ [.lst true (il c)]) (ex_while.trans h)).trans (exs_ret (ex_ret (ev_var rfl)))))
  exact run_ok (n := 4) (b := b_cycle_from) rfl rfl h2
end LawK02
end
section
namespace LawK02
open PySem L2 PySem.Spec DI
open PyProof.Rows hiding St
variable {k : Nat} {st : Store} {A B : D} {ps qs : List Nat}
theorem rgA {n : Nat} (hn : n ≤ 1000) : decide (-(2 ^ 62) ≤ (n : Int)) = true := decide_eq_true (by omega)
theorem rgB {n : Nat} (hn : n ≤ 1000) : decide ((n : Int) < 2 ^ 62) = true := decide_eq_true (by omega)
theorem evIt_range1 {C : Cfg} {a : IE} {env : Evr} {st st1 : Store} {n : Nat} (h : ev C a env st = .ret (.int (n : Int), st1)) (hn : n ≤ 1000) : evIt C (.range1 a) env st = .ret (.rng 0 n, st1) := by
  have e : evIt C (.range1 a) env st = T.bind (ev C a env st) (fun p => (match p.1 with
    | .int j => mif (decide (-(2 ^ 62) ≤ j) && decide (j < 2 ^ 62)) (mret (Pl.rng 0 j.toNat))
    | _ => mstuck) p.2) := by
    rw [evIt]
    rfl
  rw [e, h, T.bind]
  dsimp only
  rw [rgA hn, rgB hn, Int.toNat_natCast, Bool.and_true]
  exact Eq.refl (DI.T.ret (Pl.rng 0 n, st1))
theorem rng_item {n i : Nat} {st : Store} : plItem st (.rng 0 n) i = (il (List.range n))[i]? := by
  show (if i < n then some (D.int (0 + (i : Int))) else none) = _
  by_cases h : i < n
  · rw [if_pos h, il_get (p := i) (by rw [List.getElem?_range h]), Int.zero_add]
  · rw [if_neg h, List.getElem?_eq_none (by rw [il_length, List.length_range]; omega)]
theorem rng_get {n i : Nat} {x : D} (h : (il (List.range n))[i]? = some x) : i < n ∧ x = .int (i : Int) := by
  have h1 := (List.getElem?_eq_some_iff.mp h).1
  rw [il_length, List.length_range] at h1
  rw [il_get (p := i) (by rw [List.getElem?_range h1])] at h
  cases h
  exact ⟨h1, rfl⟩
theorem range_drop {n i : Nat} (h : i < n) : (List.range n).drop i = i :: (List.range n).drop (i + 1) := by
  rw [List.drop_eq_getElem_cons (by rw [List.length_range]; exact h), List.getElem_range]
/-- the least common multiple of the cycles' lengths -/
def lcms (ps : List Nat) : List Nat → Nat → Option Nat
  | [], t => some t
  | s :: r, t => match cyc ps s with
    | some c => if t < 100000 ∧ c.length < 100000 then lcms ps r (Nat.lcm t c.length) else none
    | none => none
theorem sp_order {t : Nat} (hA : itemsD st A = some (il ps)) (hl : ps.length ≤ 1000) (hp : ∀ p ∈ ps, p < ps.length) (ht : lcms ps (List.range ps.length) 1 = some t) : Ev (DI.run T.F (k + 1 + 1) "order" [A] st) st (.int (t : Int)) := by
  have key := for_ev (body := exs (cfg T.F (k + 1)) (.cons (.set 1 (.blt .lcm (.cons (.var 1) (.cons (.blt .len (.cons (.call "cycle_from" (.cons (.var 0) (.cons (.var 2) .nil))) .nil)) .nil)))) .nil)) (tg := .name 2) (pl := .rng 0 ps.length) (xs := il (List.range ps.length))
    (fun i env st' => ∃ (x : Option D) (g : Store) (u : Nat), env = [some A, some (.int (u : Int)), x] ∧ st' = st ++ g ∧ lcms ps ((List.range ps.length).drop i) u = some t)
    (fun i env st h => ⟨rng_item, rfl⟩)
    (fun i x env st' hx h => by
      obtain ⟨y, g, u, rfl, rfl, hu⟩ := h
      obtain ⟨hi, rfl⟩ := rng_get hx
      rw [range_drop hi] at hu
      unfold lcms at hu
      split at hu
      · rename_i c hc
        split at hu
        · rename_i hb
          have hcy := sp_cycle (k := k) (items_app hA g) hp hi hc
          have hI := items_mid (st ++ g) (il c) []
          rw [List.append_assoc] at hcy hI
          refine ⟨_, _, st ++ (g ++ [.lst true (il c)]), rfl, exs_cons (ss := .nil) (ex_set ((ev_blt (evs_cons (ev_var rfl) (evs_cons ((ev_blt (evs_cons ((ev_call (evs_cons (ev_var rfl) (evs_cons (ev_var rfl) evs_nil))).trans hcy) evs_nil)).trans (len_items hI)) evs_nil))).trans ?_)), some (.int (i : Int)), g ++ [.lst true (il c)], Nat.lcm u c.length, rfl, rfl, hu⟩
          show mif (decide ((u : Int).natAbs < 2 ^ 64) && decide (((il c).length : Int).natAbs < 2 ^ 64)) (mret (D.int (Nat.lcm (u : Int).natAbs ((il c).length : Int).natAbs : Nat))) _ = _
          rw [il_length, decide_eq_true (show (u : Int).natAbs < 2 ^ 64 by omega), decide_eq_true (show (c.length : Int).natAbs < 2 ^ 64 by omega)]
          rfl
        · cases hu
      · cases hu)
    ps.length 0 [some A, some (.int 1), none] st (by rw [il_length, List.length_range, Nat.zero_add]) ⟨none, [], 1, rfl, by rw [List.append_nil], ht⟩
  obtain ⟨env', st', h1, x, g, u, rfl, rfl, hu⟩ := key
  rw [il_length, List.length_range, List.drop_of_length_le (by rw [List.length_range]; exact Nat.le_refl _)] at hu
  cases hu
  have h2 : evIt (cfg T.F (k + 1)) (.range1 (.blt .len (.cons (.var 0) .nil))) [some A, some (.int 1), none] st = .ret (.rng 0 ps.length, st) := by
    refine evIt_range1 ((ev_blt (evs_cons (ev_var rfl) evs_nil)).trans ?_) hl
    rw [len_items hA, il_length]
  have h3 : exs (cfg T.F (k + 1)) b_order [some A, none, none] st = .ret ((.ret (.int (t : Int)), [some A, some (.int (t : Int)), x]), st ++ g) :=
    (exs_cons (env' := [some A, some (.int 1), none]) (ex_set rfl)).trans ((exs_cons ((ex_for h2).trans h1)).trans (exs_ret (ex_ret (ev_var rfl))))
  exact ⟨g, run_ok (n := 3) (b := b_order) rfl rfl h3⟩
def pows (ps : List Nat) (e : Int) : List Nat → List Nat → Option (List Nat)
  | [], acc => some acc
  | s :: r, acc => match cyc ps s with
    | some c => pows ps e r (acc ++ [c.getD (e.fmod (c.length : Int)).toNat 0])
    | none => none
theorem cyc_pos {s : Nat} {c : List Nat} (h : cyc ps s = some c) : 0 < c.length := walk_len 20 _ [s] c h
theorem sp_power {e : Int} {out : List Nat} (hA : itemsD st A = some (il ps)) (hl : ps.length ≤ 900) (hp : ∀ p ∈ ps, p < ps.length) (ho : pows ps e (List.range ps.length) [] = some out) : Ev (DI.run T.F (k + 1 + 1) "power" [A, .int e] st) st (.tup (il out)) := by
  have key := for_ev (body := exs (cfg T.F (k + 1)) (.cons (.set 4 (.call "cycle_from" (.cons (.var 0) (.cons (.var 3) .nil))))
    (.cons (.expr (.meth .append (.var 2) (.cons (.ix (.var 4) (.bin .Mod (.var 1) (.blt .len (.cons (.var 4) .nil)))) .nil))) .nil))) (tg := .name 3) (pl := .rng 0 ps.length) (xs := il (List.range ps.length))
    (fun i env st' => ∃ (x y : Option D) (g : Store) (acc : List Nat), env = [some A, some (.int e), some (.ref st.length), x, y] ∧ st' = st ++ .lst true (il acc) :: g ∧ acc.length = i ∧ pows ps e ((List.range ps.length).drop i) acc = some out)
    (fun i env st h => ⟨rng_item, rfl⟩)
    (fun i x env st' hx h => by
      obtain ⟨x0, y0, g, acc, rfl, rfl, ha, hu⟩ := h
      obtain ⟨hi, rfl⟩ := rng_get hx
      rw [range_drop hi] at hu
      unfold pows at hu
      split at hu
      · rename_i c hc
        have hc0 := cyc_pos hc
        have hf := fmod_in (i := e) (j := (c.length : Int)) (by omega)
        have hm : ∀ (g' : Store) (env : Evr), env[1]? = some (some (.int e)) → env[4]? = some (some (.ref (st ++ .lst true (il acc) :: g).length)) → ev (cfg T.F (k + 1)) (.ix (.var 4) (.bin .Mod (.var 1) (.blt .len (.cons (.var 4) .nil)))) env (st ++ .lst true (il acc) :: (g ++ [.lst true (il c)])) = .ret (.int ((c.getD (e.fmod (c.length : Int)).toNat 0 : Nat) : Int), st ++ .lst true (il acc) :: (g ++ [.lst true (il c)])) := by
          intro g' env e1 e4
          have hI : itemsD (st ++ .lst true (il acc) :: (g ++ [.lst true (il c)])) (.ref (st ++ .lst true (il acc) :: g).length) = some (il c) := by
            have := items_mid (st ++ .lst true (il acc) :: g) (il c) []
            rwa [List.append_assoc] at this
          rw [ev_ix (ev_var e4) ((ev_bin (ev_var e1) ((ev_blt (evs_cons (ev_var e4) evs_nil)).trans (len_items hI))).trans (show binD .Mod (.int e) (.int ((il c).length : Int)) _ = .ret (.int (((e.fmod (c.length : Int)).toNat : Nat) : Int), _) by
            show mif (decide (((il c).length : Int) ≠ 0)) (mret (D.int (e.fmod ((il c).length : Int)))) _ = _
            rw [il_length, decide_eq_true (show (c.length : Int) ≠ 0 by omega), show (((e.fmod (c.length : Int)).toNat : Nat) : Int) = e.fmod (c.length : Int) by omega]
            rfl))]
          exact ixD_items hI (il_get (getD_get (by omega)))
        refine ⟨_, _, _, rfl, (exs_cons (ex_set ((ev_call (evs_cons (ev_var rfl) (evs_cons (ev_var rfl) evs_nil))).trans (sp_cycle (items_app hA _) hp hi hc)))).trans (exs_cons (ss := .nil) (st' := st ++ .lst true (il (acc ++ [c.getD (e.fmod (c.length : Int)).toNat 0])) :: (g ++ [.lst true (il c)])) (ex_expr (x := .non) ?_)), some (.int (i : Int)), some (.ref (st ++ .lst true (il acc) :: g).length), g ++ [.lst true (il c)], acc ++ [c.getD (e.fmod (c.length : Int)).toNat 0], rfl, rfl, by rw [List.length_append, ha]; rfl, hu⟩
        rw [List.append_assoc, il_snoc]
        exact ev_append (ev_var rfl) (hm [] _ rfl rfl) (by rw [il_length]; omega)
      · cases hu)
    ps.length 0 [some A, some (.int e), some (.ref st.length), none, none] (st ++ [.lst true []]) (by rw [il_length, List.length_range, Nat.zero_add]) ⟨none, none, [], [], rfl, rfl, rfl, ho⟩
  obtain ⟨env', st', h1, x, y, g, acc, rfl, rfl, _, hu⟩ := key
  rw [il_length, List.length_range, List.drop_of_length_le (by rw [List.length_range]; exact Nat.le_refl _)] at hu
  cases hu
  have h2 : evIt (cfg T.F (k + 1)) (.range1 (.blt .len (.cons (.var 0) .nil))) [some A, some (.int e), some (.ref st.length), none, none] (st ++ [.lst true []]) = .ret (.rng 0 ps.length, st ++ [.lst true []]) := by
    refine evIt_range1 ((ev_blt (evs_cons (ev_var rfl) evs_nil)).trans ?_) (by omega)
    rw [len_items (items_app hA _), il_length]
  have h3 : exs (cfg T.F (k + 1)) b_power [some A, some (.int e), none, none, none] st = .ret ((.ret (.tup (il out)), [some A, some (.int e), some (.ref st.length), x, y]), st ++ .lst true (il out) :: g) :=
    (exs_cons (ex_set (ev_lst evs_nil (Nat.zero_le _)))).trans ((exs_cons ((ex_for h2).trans h1)).trans (exs_ret (ex_ret ((ev_blt (evs_cons (ev_var rfl) evs_nil)).trans (tuple_items (items_mid _ _ _))))))
  exact ⟨_, run_ok (n := 5) (b := b_power) rfl rfl h3⟩
/-- the items moved -/
def mv (ps : List Nat) (xs : List D) : List D := sets (fun i => xs.getD i .non) ps 0 xs
def mvs (ps : List Nat) : Nat → List D → List D
  | 0, xs => xs
  | n + 1, xs => mv ps (mvs ps n xs)
theorem mvs_length (xs : List D) : ∀ n, (mvs ps n xs).length = xs.length
  | 0 => rfl
  | n + 1 => by
    show (mv ps (mvs ps n xs)).length = _
    unfold mv
    rw [sets_length, mvs_length xs n]
theorem sp_repeat {n m : Nat} {xs : List D} (hn : st[n]? = some (.lst true xs)) (hA : itemsD st A = some (il ps)) (hl : ps.length ≤ xs.length) (hp : ∀ p ∈ ps, p < xs.length) (hm : m ≤ 1000) : EvL (DI.run T.F (k + 1 + 1) "_law_repeat" [.ref n, A, .int (m : Int)] st) st (mvs ps m xs) := by
  have key := for_ev (body := exs (cfg T.F (k + 1)) (.cons (.set 0 (.call "_law_moved" (.cons (.var 0) (.cons (.var 1) .nil)))) .nil)) (tg := .name 3) (pl := .rng 0 m) (xs := il (List.range m))
    (fun i env st' => ∃ (x : Option D) (g : Store) (n' : Nat), env = [some (.ref n'), some A, some (.int (m : Int)), x] ∧ st' = st ++ g ∧ (st ++ g)[n']? = some (.lst true (mvs ps i xs)))
    (fun i env st h => ⟨rng_item, rfl⟩)
    (fun i x env st' hx h => by
      obtain ⟨x0, g, n', rfl, rfl, hg⟩ := h
      obtain ⟨hi, rfl⟩ := rng_get hx
      have hml := mvs_length (ps := ps) xs i
      refine ⟨_, _, _, rfl, exs_cons (ss := .nil) (ex_set ((ev_call (evs_cons (ev_var rfl) (evs_cons (ev_var rfl) evs_nil))).trans (sp_moved hg (items_app hA g) (by rw [hml]; exact hl) (by rw [hml]; exact hp)))), some (.int (i : Int)), g ++ [.lst true (mv ps (mvs ps i xs))], (st ++ g).length, rfl, by rw [List.append_assoc]; rfl, ?_⟩
      have := mid_get (st ++ g) (.lst true (mv ps (mvs ps i xs))) []
      rwa [List.append_assoc] at this)
    m 0 [some (.ref n), some A, some (.int (m : Int)), none] st (by rw [il_length, List.length_range, Nat.zero_add]) ⟨none, [], n, rfl, by rw [List.append_nil], by rw [List.append_nil]; exact hn⟩
  obtain ⟨env', st', h1, x, g, n', rfl, rfl, hg⟩ := key
  rw [il_length, List.length_range] at hg
  have h3 : exs (cfg T.F (k + 1)) b_law_repeat [some (.ref n), some A, some (.int (m : Int)), none] st = .ret ((.ret (.ref n'), [some (.ref n'), some A, some (.int (m : Int)), x]), st ++ g) :=
    (exs_cons ((ex_for (evIt_range1 (ev_var rfl) hm)).trans h1)).trans (exs_ret (ex_ret (ev_var rfl)))
  exact ⟨g, n', run_ok (n := 4) (b := b_law_repeat) rfl rfl h3, hg⟩
end LawK02
end
section
namespace LawK02
open PySem L2 PySem.Spec DI
open PyProof.Rows hiding St
variable {k : Nat} {st : Store} {A B : D} {ps qs : List Nat}
section
variable {C : Cfg} {a b c : IE} {env : Evr} {st1 st2 : Store} {x y : D}
theorem ev_isi {tys : List String} {t : String} (h : ev C a env st = .ret (x, st1)) (ht : tyD st1 x = some t) : ev C (.isi a tys) env st = .ret (.bl (tys.any (isTy t)), st1) := by
  rw [ev, mbind, h]
  show isiD x tys st1 = _
  unfold isiD
  rw [ht]
  rfl
theorem ev_orT (h : ev C a env st = .ret (.bl true, st1)) : ev C (.or a b) env st = .ret (.bl true, st1) := by
  rw [ev, mbind, h]
  rfl
theorem ev_orF (h : ev C a env st = .ret (.bl false, st1)) : ev C (.or a b) env st = ev C b env st1 := by
  rw [ev, mbind, h]
  rfl
theorem ev_andT (h : ev C a env st = .ret (.bl true, st1)) : ev C (.and a b) env st = ev C b env st1 := by
  rw [ev, mbind, h]
  rfl
theorem ev_not {q : Bool} (h : ev C a env st = .ret (.bl q, st1)) : ev C (.not a) env st = .ret (.bl (!q), st1) := by
  rw [ev, mbind, h]
  rfl
theorem ex_iteF {p q : ISs} (h : ev C c env st = .ret (.bl false, st1)) : ex C (.ite c p q) env st = exs C q env st1 := by
  rw [ex, doE, mbind, h]
  rfl
theorem ex_iteT {p q : ISs} (h : ev C c env st = .ret (.bl true, st1)) : ex C (.ite c p q) env st = exs C p env st1 := by
  rw [ex, doE, mbind, h]
  rfl
theorem ne_bl {p q : Bool} : cmpD .NotEq (.bl p) (.bl q) st = .ret (!(p == q), st) := rfl
theorem eq_bl {p q : Bool} : cmpD .Eq (.bl p) (.bl q) st = .ret (p == q, st) := rfl
theorem eq_int {i j : Int} : cmpD .Eq (.int i) (.int j) st = .ret (decide (i = j), st) := rfl
theorem is_non {x : D} (h : x ≠ .non) : cmpD .Is x .non st = .ret (false, st) := by
  cases x <;> first | rfl | exact absurd rfl h
end
theorem same_int {i : Int} : DI.run T.F (k + 1) "_law_same" [.int i, .int i] st = .ret (.bl true, st) := by
  refine run_ok (n := 4) (b := b_law_same) rfl rfl (env' := [some (.int i), some (.int i), none, none]) ((exs_cons (ex_iteF (st1 := st) (ev_isi (t := "int") (ev_var rfl) rfl))).trans ((exs_cons (ex_iteF (st1 := st) ((ev_orF (ev_cmp (ev_var rfl) rfl (is_non (by intro z; cases z)))).trans (ev_isi (t := "int") (ev_var rfl) rfl)))).trans
    (exs_ret (ex_ret ((ev_andT (ev_isi (t := "int") (ev_var rfl) rfl)).trans ((ev_andT (ev_not (ev_isi (t := "int") (ev_var rfl) rfl))).trans ((ev_cmp (ev_var rfl) (ev_var rfl) eq_int).trans ?_)))))))
  rw [decide_eq_true rfl]
def zipD : List D → List D → List D
  | x :: xs, y :: ys => .tup [x, y] :: zipD xs ys
  | _, _ => []
theorem zipD_get : ∀ (xs ys : List D) (i : Nat), xs.length = ys.length → (zipD xs ys)[i]? = (xs[i]?).bind fun x => (ys[i]?).map fun y => .tup [x, y]
  | [], [], i, _ => by simp [zipD]
  | x :: xs, y :: ys, 0, _ => by simp [zipD]
  | x :: xs, y :: ys, i + 1, h => by
    rw [zipD, List.getElem?_cons_succ, List.getElem?_cons_succ, List.getElem?_cons_succ]
    exact zipD_get xs ys i (by simpa using h)
  | [], _ :: _, _, h => by cases h
  | _ :: _, [], _, h => by cases h
theorem zipD_length : ∀ (xs ys : List D), xs.length = ys.length → (zipD xs ys).length = xs.length
  | [], [], _ => rfl
  | x :: xs, y :: ys, h => by
    show (zipD xs ys).length + 1 = xs.length + 1
    rw [zipD_length xs ys (by simpa using h)]
  | [], _ :: _, h => by cases h
  | _ :: _, [], h => by cases h
theorem zipD_mem : ∀ {xs ys : List D} {z : D}, z ∈ zipD xs ys → ∃ (i : Nat) (x y : D), z = .tup [x, y] ∧ xs[i]? = some x ∧ ys[i]? = some y
  | x :: xs, y :: ys, z, h => by
    rcases List.mem_cons.mp (show z ∈ .tup [x, y] :: zipD xs ys from h) with rfl | h
    · exact ⟨0, x, y, rfl, rfl, rfl⟩
    · obtain ⟨i, a, b, h1, h2, h3⟩ := zipD_mem h
      exact ⟨i + 1, a, b, h1, h2, h3⟩
  | [], _, _, h => by cases h
  | _ :: _, [], _, h => by cases h
/-- two sequences of one kind -/
inductive Two (st : Store) : D → D → List D → List D → String → Prop
  | tup (xs ys : List D) : Two st (.tup xs) (.tup ys) xs ys "tuple"
  | lst {n m : Nat} {w v : Bool} {xs ys : List D} : st[n]? = some (.lst w xs) → st[m]? = some (.lst v ys) → Two st (.ref n) (.ref m) xs ys "list"
theorem lstAt_app {n : Nat} {w : Bool} {xs : List D} (h : st[n]? = some (.lst w xs)) (g : Store) : lstAt (st ++ g) n xs.length = some xs := by
  unfold lstAt
  rw [app_get h]
  dsimp only
  rw [if_pos rfl]
theorem two_zip {C : Cfg} {a b : IE} {env : Evr} {x y : D} {xs ys : List D} {t : String} (h : Two st x y xs ys t) (hl : xs.length = ys.length) (ha : ev C a env st = .ret (x, st)) (hb : ev C b env st = .ret (y, st)) :
    ∃ pl, evIt C (.zip a b) env st = .ret (pl, st) ∧ plLen pl = (zipD xs ys).length ∧ ∀ g, (∀ i, plItem (st ++ g) pl i = (zipD xs ys)[i]?) ∧ plEnd (st ++ g) pl = true := by
  cases h with
  | tup xs ys =>
    refine ⟨.zipT xs ys, ?_, ?_, fun g => ⟨fun i => (zipD_get xs ys i hl).symm, rfl⟩⟩
    · rw [evIt, mbind, ha]
      dsimp only [DI.T.bind]
      rw [mbind, hb]
      rfl
    · show min xs.length ys.length = _
      rw [zipD_length xs ys hl, ← hl, Nat.min_self]
  | @lst n m w v xs ys h1 h2 =>
    refine ⟨.zipL n m xs.length ys.length, ?_, ?_, fun g => ⟨fun i => ?_, ?_⟩⟩
    · rw [evIt, mbind, ha]
      dsimp only [DI.T.bind]
      rw [mbind, hb]
      show (match st[n]?, st[m]? with
        | some (.lst _ xs), some (.lst _ ys) => DI.T.ret (Pl.zipL n m xs.length ys.length, st)
        | _, _ => .stuck) = _
      rw [h1, h2]
    · show min xs.length ys.length = _
      rw [zipD_length xs ys hl, ← hl, Nat.min_self]
    · rw [zipD_get xs ys i hl]
      show (lstAt (st ++ g) n xs.length).bind _ = _
      rw [lstAt_app h1]
      show (lstAt (st ++ g) m ys.length).bind _ = _
      rw [lstAt_app h2]
      rfl
    · show ((lstAt (st ++ g) n xs.length).isSome && (lstAt (st ++ g) m ys.length).isSome) = true
      rw [lstAt_app h1, lstAt_app h2]
      rfl
theorem two_items {x y : D} {xs ys : List D} {t : String} (h : Two st x y xs ys t) : itemsD st x = some xs ∧ itemsD st y = some ys ∧ tyD st x = some t ∧ tyD st y = some t ∧ (t = "tuple" ∨ t = "list") := by
  cases h with
  | tup xs ys => exact ⟨rfl, rfl, rfl, rfl, .inl rfl⟩
  | lst h1 h2 =>
    refine ⟨?_, ?_, ?_, ?_, .inr rfl⟩
    · unfold itemsD; dsimp only; rw [h1]
    · unfold itemsD; dsimp only; rw [h2]
    · unfold tyD; dsimp only; rw [h1]
    · unfold tyD; dsimp only; rw [h2]
theorem bls_true : ∀ xs : List D, blsD (xs.map fun _ => D.bl true) = some (xs.map fun _ => true)
  | [] => rfl
  | x :: xs => by
    show (blsD (xs.map fun _ => D.bl true)).map (true :: ·) = _
    rw [bls_true xs]
    rfl
theorem all_true (xs : List D) : (xs.map fun _ => true).all id = true := by
  induction xs with
  | nil => rfl
  | cons x xs ih => simpa using ih
/-- sequences that are the same, item by item -/
theorem same_seq {x y : D} {xs ys : List D} {t : String} (h : Two st x y xs ys t) (hl : xs.length = ys.length) (hl2 : xs.length ≤ 900) (hi : ∀ (i : Nat) (a b : D), xs[i]? = some a → ys[i]? = some b → ∀ g, Ev (DI.run T.F (k + 1) "_law_same" [a, b] (st ++ g)) (st ++ g) (.bl true)) :
    Ev (DI.run T.F (k + 1 + 1) "_law_same" [x, y] st) st (.bl true) := by
  obtain ⟨i1, i2, t1, t2, ht⟩ := two_items h
  obtain ⟨pl, p1, p2, p3⟩ := two_zip (C := cfg T.F (k + 1)) (a := .var 0) (b := .var 1) (env := [some x, some y, none, none]) h hl (ev_var rfl) (ev_var rfl)
  obtain ⟨g, e⟩ := ev_lc (C := cfg T.F (k + 1)) (own := [("_law_mine", 2), ("_law_other", 3)]) (tg := .tup [2, 3]) (it := .zip (.var 0) (.var 1)) (e := .call "_law_same" (.cons (.var 2) (.cons (.var 3) .nil))) (env := [some x, some y, none, none]) (st := st) (st1 := st) (pl := pl) (xs := zipD xs ys)
    (f := fun _ => .bl true) p1 p2 (by rw [zipD_length xs ys hl]; omega) p3 (fun z hz g => by
      obtain ⟨i, a, b, rfl, h1, h2⟩ := zipD_mem hz
      obtain ⟨g', e'⟩ := hi i a b h1 h2 g
      exact ⟨_, g', rfl, (ev_call (evs_cons (ev_var rfl) (evs_cons (ev_var rfl) evs_nil))).trans e'⟩)
  have hx : ∀ q : Bool, (if t = "tuple" then "tuple" else "list") = t := by
    intro q
    rcases ht with rfl | rfl <;> decide
  have e0 : ev (cfg T.F (k + 1)) (.isi (.var 1) ["list", "tuple"]) [some x, some y, none, none] st = .ret (.bl true, st) := by
    rw [ev_isi (ev_var rfl) t2]
    rcases ht with rfl | rfl <;> rfl
  have e1 : ev (cfg T.F (k + 1)) (.or (.cmp .NotEq (.isi (.var 0) ["list"]) (.isi (.var 1) ["list"])) (.cmp .NotEq (.isi (.var 0) ["tuple"]) (.isi (.var 1) ["tuple"]))) [some x, some y, none, none] st = .ret (.bl false, st) := by
    have c1 : ∀ ty : String, ev (cfg T.F (k + 1)) (.cmp .NotEq (.isi (.var 0) [ty]) (.isi (.var 1) [ty])) [some x, some y, none, none] st = .ret (.bl false, st) := by
      intro ty
      rw [ev_cmp (ev_isi (ev_var rfl) t1) (ev_isi (ev_var rfl) t2) ne_bl, beq_self_eq_true]
      rfl
    rw [ev_orF (c1 _)]
    exact c1 _
  have e2 : ev (cfg T.F (k + 1)) (.blt .all (.cons (.lc [("_law_mine", 2), ("_law_other", 3)] (.tup [2, 3]) (.zip (.var 0) (.var 1)) .none (.call "_law_same" (.cons (.var 2) (.cons (.var 3) .nil)))) .nil)) [some x, some y, none, none] st = .ret (.bl true, st ++ .lst true ((zipD xs ys).map fun _ => .bl true) :: g) := by
    rw [ev_blt (evs_cons e evs_nil)]
    unfold bltD
    dsimp only
    rw [mid_get]
    dsimp only
    rw [bls_true]
    dsimp only
    rw [all_true]
  have e3 : ev (cfg T.F (k + 1)) (.cmp .Eq (.blt .len (.cons (.var 0) .nil)) (.blt .len (.cons (.var 1) .nil))) [some x, some y, none, none] st = .ret (.bl true, st) := by
    rw [ev_cmp ((ev_blt (evs_cons (ev_var rfl) evs_nil)).trans (len_items i1)) ((ev_blt (evs_cons (ev_var rfl) evs_nil)).trans (len_items i2)) eq_int, hl, decide_eq_true rfl]
  exact ⟨_, run_ok (n := 4) (b := b_law_same) rfl rfl (env' := [some x, some y, none, none]) (exs_ret ((ex_iteT e0).trans ((exs_cons (ex_iteF e1)).trans (exs_ret (ex_ret ((ev_andT e3).trans e2))))))⟩
end LawK02
end
section
namespace LawK02
open PySem L2 PySem.Spec DI
open PyProof.Rows hiding St
variable {k : Nat} {st : Store} {A B : D} {ps qs : List Nat}
section
variable {C : Cfg} {env : Evr} {b : Nat} {P : Nat → ((Fl × Evr) × Store) → Prop}
theorem consT {s : IS} {ss : ISs} (h : Tri (ex C s env st) b (fun b' p => p.1.1 = .next ∧ Tri (exs C ss p.1.2 p.2) b' P NX) NX) : Tri (exs C (.cons s ss) env st) b P NX := by
  rw [exs, mbind]
  refine tri_bind.mpr (tri_mono h (fun b' p _ q => ?_) fun _ _ _ _ z => z)
  obtain ⟨⟨fl, env'⟩, st'⟩ := p
  obtain ⟨rfl, q⟩ := q
  exact q
theorem retT {s : IS} {ss : ISs} {Q : Nat → (D × Store) → Prop} (h : Tri (ex C s env st) b (fun b' p => ∃ v, p.1.1 = .ret v ∧ Q b' (v, p.2)) NX) : Tri (exs C (.cons s ss) env st) b (fun b' p => ∃ v, p.1.1 = .ret v ∧ Q b' (v, p.2)) NX := by
  rw [exs, mbind]
  refine tri_bind.mpr (tri_mono h (fun b' p _ q => ?_) fun _ _ _ _ z => z)
  obtain ⟨⟨fl, env'⟩, st'⟩ := p
  obtain ⟨v, rfl, q⟩ := q
  exact ⟨v, rfl, q⟩
theorem setT {i : Nat} {e : IE} (h : Tri (ev C e env st) b (fun b' p => P b' ((.next, env.set i (some p.1)), p.2)) NX) : Tri (ex C (.set i e) env st) b P NX := by
  rw [ex, doE]
  exact tri_resc.mpr (tri_mono h (fun _ _ _ q => q) fun _ _ _ _ z => z.elim)
theorem exprT {e : IE} (h : Tri (ev C e env st) b (fun b' p => P b' ((.next, env), p.2)) NX) : Tri (ex C (.expr e) env st) b P NX := by
  rw [ex, doE]
  exact tri_resc.mpr (tri_mono h (fun _ _ _ q => q) fun _ _ _ _ z => z.elim)
theorem of_eqT {β : Type} {t : DI.T β} {x : β} {P : Nat → β → Prop} (h : t = .ret x) (hp : P b x) : Tri t b P NX := by
  rw [h]
  exact hp
theorem run_tri {F : Tab} {f : Str} {pp : List Str} {n : Nat} {bd : ISs} {vs : List D} {Q : Nat → (D × Store) → Prop} (h : F.lookup f = some (.code pp n bd)) (hl : vs.length = pp.length)
    (he : Tri (exs (cfg F k) bd (vs.map some ++ List.replicate (n - vs.length) none) st) b (fun b' p => ∃ v, p.1.1 = .ret v ∧ Q b' (v, p.2)) NX) : Tri (DI.run F (k + 1) f vs st) b Q NX := by
  rw [DI.run, h]
  dsimp only
  rw [decide_eq_true hl]
  refine tri_bind.mpr (tri_to_nox (tri_mono he (fun b' p _ q => ?_) fun _ _ _ _ z => z))
  obtain ⟨⟨fl, env'⟩, st'⟩ := p
  obtain ⟨v, rfl, q⟩ := q
  exact q
theorem run_draw {r : Nat} {n : Int} (hr : st[r]? = some .rng) (h0 : 0 < n) (h1 : n < 1073741824) : DI.run T.F (k + 1) "_law_draw" [.ref r, .int n] st = .draw n fun v => .ret (.int v, st) := by
  rw [DI.run, show T.F.lookup ("_law_draw" : Str) = some .draw from rfl]
  dsimp only
  rw [hr]
  dsimp only
  rw [decide_eq_true h0, decide_eq_true h1]
  rfl
theorem for_tri {body : Evr → M (Fl × Evr)} {tg : ITg} {pl : Pl} {xs : List D} (I : Nat → Nat → Evr → Store → Prop) (hit : ∀ i b env st, I i b env st → plItem st pl i = xs[i]? ∧ plEnd st pl = true)
    (step : ∀ i x b env st, xs[i]? = some x → I i b env st → ∃ env1, bindTg tg x env = some env1 ∧ Tri (body env1 st) b (fun b' p => p.1.1 = .next ∧ I (i + 1) b' p.1.2 p.2) NX) :
    ∀ m i b env st, i + m = xs.length → I i b env st → Tri (forLoop body tg pl m i env st) b (fun b' p => p.1.1 = .next ∧ I xs.length b' p.1.2 p.2) NX
  | 0, i, b, env, st, hi, h => by
    unfold forLoop
    rw [(hit i b env st h).2]
    refine ⟨rfl, ?_⟩
    rw [show xs.length = i by omega]
    exact h
  | m + 1, i, b, env, st, hi, h => by
    have h1 : i < xs.length := by omega
    obtain ⟨env1, e1, h2⟩ := step i xs[i] b env st (List.getElem?_eq_getElem h1) h
    unfold forLoop
    rw [(hit i b env st h).1, List.getElem?_eq_getElem h1]
    dsimp only
    rw [e1]
    dsimp only
    refine tri_bind.mpr (tri_mono h2 (fun b' p _ q => ?_) fun _ _ _ _ z => z)
    obtain ⟨⟨fl, env'⟩, st'⟩ := p
    obtain ⟨rfl, q⟩ := q
    exact for_tri I hit step m (i + 1) b' env' st' (by omega) q
end
/-- every order of the first numbers, as the law makes it -/
def perms : Nat → List (List Nat)
  | 0 => [[]]
  | n + 1 => (perms n).flatMap fun q => (List.range (n + 1)).map fun v => q.take v ++ [n] ++ q.drop v
theorem perms_step {n v : Nat} {q : List Nat} (hq : q ∈ perms n) (hv : v < n + 1) : q.take v ++ [n] ++ q.drop v ∈ perms (n + 1) :=
  List.mem_flatMap.mpr ⟨q, hq, List.mem_map.mpr ⟨v, List.mem_range.mpr hv, rfl⟩⟩
theorem perms_len : ∀ {n : Nat} {q : List Nat}, q ∈ perms n → q.length = n
  | 0, q, h => by
    cases h with
    | head => rfl
    | tail _ h => cases h
  | n + 1, q, h => by
    obtain ⟨p, hp, h⟩ := List.mem_flatMap.mp h
    obtain ⟨v, _, rfl⟩ := List.mem_map.mp h
    have := perms_len hp
    simp only [List.length_append, List.length_take, List.length_drop, List.length_singleton]
    omega
theorem ins_il (q : List Nat) (v n : Nat) : (il q).take v ++ [.int (n : Int)] ++ (il q).drop v = il (q.take v ++ [n] ++ q.drop v) := by
  unfold il
  rw [List.map_append, List.map_append, List.map_take, List.map_drop]
  rfl
def ShQ (st : Store) (b d : Nat) : Nat → (D × Store) → Prop := fun b' p => b ≤ b' + d ∧ ∃ g q, p = (.ref st.length, st ++ .lst true (il q) :: g) ∧ q ∈ perms d
theorem sp_shuffle {r n d b : Nat} {w : Bool} (hr : st[r]? = some .rng) (hn : st[n]? = some (.lst w (il (List.range d)))) (hd : d ≤ 100) (hb : d ≤ b) :
    Tri (DI.run T.F (k + 1 + 1) "_law_shuffle" [.ref r, .ref n] st) b (ShQ st b d) NX := by
  have key := for_tri (body := exs (cfg T.F (k + 1)) (.cons (.expr (.meth .insert (.var 2) (.cons (.call "_law_draw" (.cons (.var 0) (.cons (.bin .Add (.blt .len (.cons (.var 2) .nil)) (.cint 1)) .nil))) (.cons (.var 3) .nil)))) .nil)) (tg := .name 3) (pl := .lst n d) (xs := il (List.range d))
    (fun i b' env st' => ∃ (x : Option D) (q : List Nat), env = [some (.ref r), some (.ref n), some (.ref st.length), x] ∧ st' = st ++ [.lst true (il q)] ∧ q ∈ perms i ∧ b ≤ b' + i ∧ i ≤ d)
    (fun i b' env st' h => by
      obtain ⟨x, q, rfl, rfl, _⟩ := h
      have q1 : lstAt (st ++ [.lst true (il q)]) n d = some (il (List.range d)) := by
        have := lstAt_app hn [.lst true (il q)]
        rwa [il_length, List.length_range] at this
      exact ⟨by show (lstAt _ n d).bind _ = _; rw [q1]; rfl, by show (lstAt _ n d).isSome = true; rw [q1]; rfl⟩)
    (fun i x b' env st' hx h => by
      obtain ⟨x0, q, rfl, rfl, hq, hb1, hi⟩ := h
      obtain ⟨hi2, rfl⟩ := rng_get hx
      have hql := perms_len hq
      refine ⟨[some (.ref r), some (.ref n), some (.ref st.length), some (.int (i : Int))], rfl, consT (exprT ?_)⟩
      have hdr : ev (cfg T.F (k + 1)) (.call "_law_draw" (.cons (.var 0) (.cons (.bin .Add (.blt .len (.cons (.var 2) .nil)) (.cint 1)) .nil))) [some (.ref r), some (.ref n), some (.ref st.length), some (.int (i : Int))] (st ++ [.lst true (il q)]) = .draw (((il q).length : Int) + 1) fun v => .ret (.int v, st ++ [.lst true (il q)]) := by
        have hln : ev (cfg T.F (k + 1)) (.bin .Add (.blt .len (.cons (.var 2) .nil)) (.cint 1)) [some (.ref r), some (.ref n), some (.ref st.length), some (.int (i : Int))] (st ++ [.lst true (il q)]) = .ret (.int (((il q).length : Int) + 1), st ++ [.lst true (il q)]) :=
          (ev_bin ((ev_blt (evs_cons (ev_var rfl) evs_nil)).trans (len_items (items_mid _ _ _))) (k := .int 1) (st2 := st ++ [.lst true (il q)]) rfl).trans rfl
        rw [ev_call (evs_cons (ev_var rfl) (evs_cons hln evs_nil))]
        exact run_draw (k := k) (app_get hr _) (by omega) (by rw [il_length]; omega)
      rw [ev, mbind, ev_var rfl]
      show Tri ((mbind (evs (cfg T.F (k + 1)) _ _) fun xs => methD .insert (.ref st.length) xs) (st ++ [.lst true (il q)])) _ _ _
      rw [mbind, evs, mbind, hdr]
      refine ⟨b' - 1, by omega, fun v v0 v1 => ?_⟩
      show Tri (methD .insert (.ref st.length) [.int v, .int (i : Int)] (st ++ [.lst true (il q)])) _ _ _
      unfold methD
      dsimp only
      rw [mid_get]
      dsimp only
      rw [il_length] at v1
      rw [fits_of (show (il q).length + 1 ≤ 1000 by rw [il_length]; omega), decide_eq_true v0, decide_eq_true (show v < 2 ^ 62 by omega)]
      refine ⟨rfl, rfl, ⟨some (.int (i : Int)), q.take v.toNat ++ [i] ++ q.drop v.toNat, rfl, ?_, perms_step hq (by omega), by omega, by omega⟩⟩
      rw [← ins_il]
      exact mid_set _ _ _ _)
    d 0 b [some (.ref r), some (.ref n), some (.ref st.length), none] (st ++ [.lst true []]) (by rw [il_length, List.length_range, Nat.zero_add]) ⟨none, [], rfl, rfl, List.mem_singleton.mpr rfl, Nat.le_refl _, Nat.zero_le _⟩
  refine run_tri (vs := [.ref r, .ref n]) (pp := ["_law_rng", "_law_some"]) (n := 4) (bd := b_law_shuffle) rfl rfl (consT ?_)
  refine of_eqT (ex_set (ev_lst evs_nil (Nat.zero_le _))) ⟨rfl, consT ?_⟩
  have h2 : evIt (cfg T.F (k + 1)) (.seq (.var 1)) [some (.ref r), some (.ref n), some (.ref st.length), none] (st ++ [.lst true []]) = .ret (.lst n d, st ++ [.lst true []]) := by
    refine evIt_seq (ev_var rfl) ?_
    unfold seqPl
    dsimp only
    rw [app_get hn]
    dsimp only
    rw [il_length, List.length_range]
  show Tri (ex _ _ [some (.ref r), some (.ref n), some (.ref st.length), none] (st ++ [.lst true []])) _ _ _
  rw [ex_for h2]
  refine tri_mono key (fun b' p _ h => ?_) fun _ _ _ _ z => z
  obtain ⟨⟨fl, env'⟩, st'⟩ := p
  obtain ⟨rfl, x, q, rfl, rfl, hq, hb1, hi⟩ := h
  rw [il_length, List.length_range] at hq hb1
  refine ⟨rfl, retT (Q := ShQ st b d) ?_⟩
  exact of_eqT (ex_ret (ev_var rfl)) ⟨_, rfl, hb1, [], q, rfl, hq⟩
end LawK02
end
section
namespace LawK02
open PySem L2 PySem.Spec DI
open PyProof.Rows hiding St
variable {k : Nat} {st : Store} {A B : D} {ps qs : List Nat}
theorem last_get (st : Store) (s : SO) : (st ++ [s])[st.length]? = some s := mid_get st s []
section
variable {C : Cfg} {env : Evr} {a b : IE} {lo hi : IO} {st1 st2 : Store} {x y : D} {l h : Option Int} {n m : Nat} {xs ys : List D}
theorem ev_slice (h1 : ev C a env st = .ret (x, st1)) (h2 : evO C lo env st1 = .ret (l, st1)) (h3 : evO C hi env st1 = .ret (h, st1)) : ev C (.slice a lo hi) env st = sliceD x l h st1 := by
  rw [ev, mbind, h1]
  dsimp only [DI.T.bind]
  rw [mbind, h2]
  dsimp only [DI.T.bind]
  rw [mbind, h3]
  rfl
theorem evO_some {i : Int} (h : ev C a env st = .ret (.int i, st1)) : evO C (.some a) env st = .ret (some i, st1) := by
  rw [evO, mbind, h]
  rfl
theorem slice_lst {w : Bool} (e : st[n]? = some (.lst w xs)) : sliceD (.ref n) l h st = .ret (.ref st.length, st ++ [SO.lst true (DI.cutD xs l h)]) := by
  unfold sliceD
  dsimp only
  rw [e]
  rfl
theorem add_lst (e1 : st[n]? = some (.lst true xs)) (e2 : st[m]? = some (.lst true ys)) (hl : xs.length + ys.length ≤ 1000) : binD .Add (.ref n) (.ref m) st = .ret (.ref st.length, st ++ [SO.lst true (xs ++ ys)]) := by
  unfold binD
  dsimp only
  rw [e1, e2]
  dsimp only
  rw [fits_of hl]
  rfl
theorem ev_rev (h1 : ev C a env st = .ret (.ref n, st1)) (e : st1[n]? = some (.lst true xs)) : ev C (.rev a) env st = .ret (.ref st1.length, st1 ++ [SO.lst true xs.reverse]) := by
  rw [ev, mbind, h1]
  show revD (.ref n) st1 = _
  unfold revD
  dsimp only
  rw [e]
  rfl
theorem ev_lr {d : Nat} (h1 : ev C a env st = .ret (.int (d : Int), st1)) (hd : d ≤ 1000) : ev C (.lr a) env st = .ret (.ref st1.length, st1 ++ [SO.lst true (il (List.range d))]) := by
  rw [ev, mbind, h1]
  show rgD true (.int (d : Int)) st1 = _
  unfold rgD
  dsimp only
  rw [decide_eq_true (show (-100000 : Int) < d by omega), decide_eq_true (show (d : Int) ≤ 100000 by omega)]
  rfl
end
def cutN (xs : List Nat) (lo hi : Option Int) : List Nat := (xs.drop (HT.sIx xs.length 0 lo)).take (HT.sIx xs.length xs.length hi - HT.sIx xs.length 0 lo)
theorem cut_il (xs : List Nat) (lo hi : Option Int) : DI.cutD (il xs) lo hi = il (cutN xs lo hi) := by
  unfold DI.cutD cutN
  rw [il_length]
  unfold il
  rw [List.map_take, List.map_drop]
theorem cut_le (xs : List Nat) (lo hi : Option Int) : (cutN xs lo hi).length ≤ xs.length := by
  unfold cutN
  rw [List.length_take, List.length_drop]
  omega
theorem il_app (l m : List Nat) : il l ++ il m = il (l ++ m) := by
  unfold il
  rw [List.map_append]
theorem il_rev (l : List Nat) : (il l).reverse = il l.reverse := by
  unfold il
  rw [List.map_reverse]
theorem swap_in : ∀ d < 7, ∀ a < d, (cutN (List.range d) none (some (a : Int)) ++ (cutN (List.range d) (some (a : Int)) (some ((a : Int) + 2))).reverse ++ cutN (List.range d) (some ((a : Int) + 2)) none) ∈ perms d := by decide +kernel
theorem rot_in : ∀ d < 7, (cutN (List.range d) (some 1) none ++ cutN (List.range d) none (some 1)) ∈ perms d := by decide +kernel
theorem id_in : ∀ d < 7, List.range d ∈ perms d := by decide +kernel
def PmQ (st : Store) (b d : Nat) : Nat → (D × Store) → Prop := fun b' p => b ≤ b' + d + 2 ∧ ∃ g q, p = (.tup (il q), st ++ g) ∧ q ∈ perms d
theorem pm_end {C : Cfg} {b b' d n : Nat} {q : List Nat} {g : Store} {x0 x1 x2 x4 : Option D} (hb : b ≤ b' + d + 2) (hn : (st ++ g)[n]? = some (.lst true (il q))) (hq : q ∈ perms d) :
    Tri (exs C (.cons (.ret (.blt .tuple (.cons (.var 3) .nil))) .nil) [x0, x1, x2, some (.ref n), x4] (st ++ g)) b' (fun b' p => ∃ v, p.1.1 = .ret v ∧ PmQ st b d b' (v, p.2)) NX := by
  refine retT (Q := PmQ st b d) (of_eqT (ex_ret ((ev_blt (evs_cons (ev_var rfl) evs_nil)).trans (tuple_items (xs := il q) ?_))) ⟨_, rfl, hb, g, q, rfl, hq⟩)
  unfold itemsD
  dsimp only
  rw [hn]
theorem sp_permutation {r d b : Nat} (hr : st[r]? = some .rng) (hd0 : 0 < d) (hd : d < 7) (hb : d + 2 ≤ b) :
    Tri (DI.run T.F (k + 1 + 1 + 1) "_law_permutation" [.ref r, .int (d : Int)] st) b (PmQ st b d) NX := by
  refine run_tri (vs := [.ref r, .int (d : Int)]) (pp := ["_law_rng", "_law_degree"]) (n := 5) (bd := b_law_permutation) rfl rfl (consT (setT ?_))
  rw [ev_call (evs_cons (ev_var rfl) (evs_cons (x := .int 5) rfl evs_nil)), show (cfg T.F (k + 1 + 1)).call = DI.run T.F (k + 1 + 1) from rfl, run_draw hr (by decide) (by decide)]
  refine ⟨b - 1, by omega, fun v v0 v5 => ⟨rfl, consT (of_eqT (ex_set (ev_lr (d := d) (ev_var rfl) (by omega))) ⟨rfl, consT ?_⟩)⟩⟩
  have hX : (st ++ [SO.lst true (il (List.range d))])[st.length]? = some (.lst true (il (List.range d))) := last_get _ _
  have hlen : (List.range d).length = d := List.length_range
  show Tri (ex _ _ [some (.ref r), some (.int (d : Int)), some (.int v), some (.ref st.length), none] (st ++ [SO.lst true (il (List.range d))])) _ _ _
  by_cases h1 : v = 1
  · rw [ex_iteT (st1 := st ++ [SO.lst true (il (List.range d))]) ((ev_cmp (ev_var rfl) (y := .int 1) rfl eq_int).trans (by rw [decide_eq_true h1]))]
    refine consT (setT ?_)
    rw [ev_call (evs_cons (ev_var rfl) (evs_cons (ev_var rfl) evs_nil)), show (cfg T.F (k + 1 + 1)).call = DI.run T.F (k + 1 + 1) from rfl, run_draw (app_get hr _) (by omega) (by omega)]
    refine ⟨b - 2, by omega, fun a a0 ad => ⟨rfl, ?_⟩⟩
    obtain ⟨an, rfl⟩ : ∃ an : Nat, a = (an : Int) := ⟨a.toNat, by omega⟩
    obtain ⟨s0, hs0⟩ : ∃ s0 : Store, s0 = st ++ [SO.lst true (il (List.range d))] := ⟨_, rfl⟩
    show Tri (exs _ _ [some (.ref r), some (.int (d : Int)), some (.int v), some (.ref st.length), some (.int (an : Int))] (st ++ [SO.lst true (il (List.range d))])) _ _ _
    rw [← hs0] at hX ⊢
    have e1 : ∀ S : Store, S[st.length]? = some (.lst true (il (List.range d))) → ∀ (lo hi : IO) (l h : Option Int), evO (cfg T.F (k + 1 + 1)) lo [some (.ref r), some (.int (d : Int)), some (.int v), some (.ref st.length), some (.int (an : Int))] S = .ret (l, S) → evO (cfg T.F (k + 1 + 1)) hi [some (.ref r), some (.int (d : Int)), some (.int v), some (.ref st.length), some (.int (an : Int))] S = .ret (h, S) →
        ev (cfg T.F (k + 1 + 1)) (.slice (.var 3) lo hi) [some (.ref r), some (.int (d : Int)), some (.int v), some (.ref st.length), some (.int (an : Int))] S = .ret (.ref S.length, S ++ [SO.lst true (il (cutN (List.range d) l h))]) := by
      intro S hS lo hi l h q1 q2
      rw [ev_slice (ev_var rfl) q1 q2, slice_lst hS, cut_il]
    have l1 := cut_le (List.range d) none (some (an : Int))
    have l2 := cut_le (List.range d) (some (an : Int)) (some ((an : Int) + 2))
    have l3 := cut_le (List.range d) (some ((an : Int) + 2)) none
    have c1 := e1 s0 hX .none (.some (.var 4)) _ _ rfl (evO_some (ev_var rfl))
    have c2 := e1 (s0 ++ [SO.lst true (il (cutN (List.range d) none (some (an : Int))))]) (app_get hX _) (.some (.var 4)) (.some (.bin .Add (.var 4) (.cint 2))) _ _ (evO_some (ev_var rfl)) (evO_some (i := (an : Int) + 2) rfl)
    have c3 := ev_rev c2 (last_get _ _)
    rw [il_rev] at c3
    have c4 := (ev_bin (op := .Add) c1 c3).trans (add_lst (app_get (app_get (last_get _ _) _) _) (last_get _ _) (by rw [il_length, il_length, List.length_reverse]; omega))
    rw [il_app] at c4
    have c5 := e1 (s0 ++ [SO.lst true (il (cutN (List.range d) none (some (an : Int))))] ++ [SO.lst true (il (cutN (List.range d) (some (an : Int)) (some ((an : Int) + 2))))] ++ [SO.lst true (il (cutN (List.range d) (some (an : Int)) (some ((an : Int) + 2))).reverse)] ++ [SO.lst true (il (cutN (List.range d) none (some (an : Int)) ++ (cutN (List.range d) (some (an : Int)) (some ((an : Int) + 2))).reverse))]) (app_get (app_get (app_get (app_get hX _) _) _) _) (.some (.bin .Add (.var 4) (.cint 2))) .none _ _ (evO_some (i := (an : Int) + 2) rfl) rfl
    have c6 := (ev_bin (op := .Add) c4 c5).trans (add_lst (app_get (last_get _ _) _) (last_get _ _) (by rw [il_length, il_length, List.length_append, List.length_reverse]; omega))
    rw [il_app] at c6
    refine consT (of_eqT (ex_set c6) ⟨rfl, ⟨rfl, ?_⟩⟩)
    have hq := swap_in d hd an (by omega)
    rw [hs0]
    simp only [List.append_assoc]
    refine pm_end (by omega) ?_ hq
    have := last_get (s0 ++ [SO.lst true (il (cutN (List.range d) none (some (an : Int))))] ++ [SO.lst true (il (cutN (List.range d) (some (an : Int)) (some ((an : Int) + 2))))] ++ [SO.lst true (il (cutN (List.range d) (some (an : Int)) (some ((an : Int) + 2))).reverse)] ++ [SO.lst true (il (cutN (List.range d) none (some (an : Int)) ++ (cutN (List.range d) (some (an : Int)) (some ((an : Int) + 2))).reverse))] ++ [SO.lst true (il (cutN (List.range d) (some ((an : Int) + 2)) none))]) (.lst true (il (cutN (List.range d) none (some (an : Int)) ++ (cutN (List.range d) (some (an : Int)) (some ((an : Int) + 2))).reverse ++ cutN (List.range d) (some ((an : Int) + 2)) none)))
    rw [hs0] at this
    simpa only [List.append_assoc] using this
  · rw [ex_iteF (st1 := st ++ [SO.lst true (il (List.range d))]) ((ev_cmp (ev_var rfl) (y := .int 1) rfl eq_int).trans (by rw [decide_eq_false h1]))]
    refine consT ?_
    by_cases h2 : v = 2
    · rw [ex_iteT (st1 := st ++ [SO.lst true (il (List.range d))]) ((ev_cmp (ev_var rfl) (y := .int 2) rfl eq_int).trans (by rw [decide_eq_true h2]))]
      have d1 : ev (cfg T.F (k + 1 + 1)) (.slice (.var 3) (.some (.cint 1)) .none) [some (.ref r), some (.int (d : Int)), some (.int v), some (.ref st.length), none] (st ++ [SO.lst true (il (List.range d))]) = .ret (.ref (st ++ [SO.lst true (il (List.range d))]).length, st ++ [SO.lst true (il (List.range d))] ++ [SO.lst true (il (cutN (List.range d) (some 1) none))]) := by
        rw [ev_slice (l := some 1) (h := none) (ev_var rfl) rfl rfl, slice_lst hX, cut_il]
      have d2 : ev (cfg T.F (k + 1 + 1)) (.slice (.var 3) .none (.some (.cint 1))) [some (.ref r), some (.int (d : Int)), some (.int v), some (.ref st.length), none] (st ++ [SO.lst true (il (List.range d))] ++ [SO.lst true (il (cutN (List.range d) (some 1) none))]) = .ret (.ref (st ++ [SO.lst true (il (List.range d))] ++ [SO.lst true (il (cutN (List.range d) (some 1) none))]).length, st ++ [SO.lst true (il (List.range d))] ++ [SO.lst true (il (cutN (List.range d) (some 1) none))] ++ [SO.lst true (il (cutN (List.range d) none (some 1)))]) := by
        rw [ev_slice (l := none) (h := some 1) (ev_var rfl) rfl rfl, slice_lst (app_get hX _), cut_il]
      have l1 := cut_le (List.range d) (some 1) none
      have l2 := cut_le (List.range d) none (some 1)
      have d3 := (ev_bin (op := .Add) d1 d2).trans (add_lst (app_get (last_get _ _) _) (last_get _ _) (by rw [il_length, il_length]; omega))
      rw [il_app] at d3
      refine consT (of_eqT (ex_set d3) ⟨rfl, ⟨rfl, ?_⟩⟩)
      have this := last_get (st ++ [SO.lst true (il (List.range d))] ++ [SO.lst true (il (cutN (List.range d) (some 1) none))] ++ [SO.lst true (il (cutN (List.range d) none (some 1)))]) (.lst true (il (cutN (List.range d) (some 1) none ++ cutN (List.range d) none (some 1))))
      refine ⟨rfl, ?_⟩
      simp only [List.append_assoc] at this ⊢
      exact pm_end (by omega) this (rot_in d hd)
    · rw [ex_iteF (st1 := st ++ [SO.lst true (il (List.range d))]) ((ev_cmp (ev_var rfl) (y := .int 2) rfl eq_int).trans (by rw [decide_eq_false h2]))]
      refine consT ?_
      have hgt : ev (cfg T.F (k + 1 + 1)) (.cmp .Gt (.var 2) (.cint 2)) [some (.ref r), some (.int (d : Int)), some (.int v), some (.ref st.length), none] (st ++ [SO.lst true (il (List.range d))]) = .ret (.bl (decide (2 < v)), st ++ [SO.lst true (il (List.range d))]) := ev_cmp (ev_var rfl) (y := .int 2) rfl rfl
      by_cases h3 : 2 < v
      · rw [decide_eq_true h3] at hgt
        rw [ex_iteT hgt]
        refine consT (setT ?_)
        rw [ev_call (evs_cons (ev_var rfl) (evs_cons (ev_var rfl) evs_nil))]
        refine tri_mono (sp_shuffle (k := k) (d := d) (app_get hr _) hX (by omega) (by omega)) (fun b' p _ q => ?_) fun _ _ _ _ z => z
        obtain ⟨hb', g, q, rfl, hq⟩ := q
        refine ⟨rfl, rfl, rfl, rfl, ?_⟩
        have this := mid_get (st ++ [SO.lst true (il (List.range d))]) (.lst true (il q)) g
        simp only [List.append_assoc] at this ⊢
        exact pm_end (by omega) this hq
      · rw [decide_eq_false h3] at hgt
        rw [ex_iteF hgt]
        refine ⟨rfl, rfl, rfl, ?_⟩
        exact pm_end (by omega) hX (id_in d hd)
end LawK02
end
section
namespace LawK02
open PySem L2 PySem.Spec DI
open PyProof.Rows hiding St
variable {k : Nat} {st : Store} {A B : D} {ps qs : List Nat}
/-! ### facts about the permutations -/
def movN (ps idx : List Nat) : List Nat := sets (fun i => idx.getD i 0) ps 0 idx
def movsN (ps : List Nat) : Nat → List Nat → List Nat
  | 0, xs => xs
  | n + 1, xs => movN ps (movsN ps n xs)
def invN (ps : List Nat) : List Nat := sets (fun i => i) ps 0 (List.replicate ps.length 0)
/-- the first return of the moved items: at i, no later than at the end -/
def ordN (ps id : List Nat) : Nat → Nat → List Nat → Option Nat
  | 0, _, _ => none
  | f + 1, i, cur => if cur = id then some i else ordN ps id f (i + 1) (movN ps cur)
def goodP (d : Nat) (q : List Nat) : Bool :=
  decide q.Nodup && q.all (· < d) && (List.range d).all (fun j => q.contains j) && decide (movN (invN q) (movN q (List.range d)) = List.range d) && (invN q).all (· < d) && decide ((invN q).length = d) && decide (compL q (invN q) = List.range d) &&
    (match ordN q (List.range d) 40 1 (movN q (List.range d)) with
    | some t => decide (lcms q (List.range d) 1 = some t) && decide (0 < t) && decide (t < 40) && (List.range t).all (fun e => match pows q (e : Int) (List.range d) [] with
      | some out => decide (movN out (List.range d) = movsN q e (List.range d)) && decide (out.length = d) && out.all (· < d)
      | none => false) && (List.range d).all (fun s => match cyc q s with
        | some c => decide (t % c.length = 0)
        | none => false)
    | none => false)
def ch (i : Nat) : List (List Nat) := ((perms 6).drop (60 * i)).take 60
theorem ch_mem {q : List Nat} (h : q ∈ perms 6) : ∃ i, i < 12 ∧ q ∈ ch i := by
  obtain ⟨n, hn, rfl⟩ := List.mem_iff_getElem.mp h
  have hl : (perms 6).length = 720 := by decide +kernel
  refine ⟨n / 60, by omega, ?_⟩
  unfold ch
  refine List.mem_iff_getElem.mpr ⟨n % 60, ?_, ?_⟩
  · rw [List.length_take, List.length_drop]
    omega
  · rw [List.getElem_take, List.getElem_drop]
    congr 1
    omega
theorem of_ch {p : Nat → List Nat → Bool} (h6 : ∀ d < 6, ∀ q ∈ perms d, p d q = true) (h : ∀ i < 12, ∀ q ∈ ch i, p 6 q = true) : ∀ d < 7, ∀ q ∈ perms d, p d q = true := by
  intro d hd q hq
  by_cases e : d = 6
  · subst e
    obtain ⟨i, hi, hm⟩ := ch_mem hq
    exact h i hi q hm
  · exact h6 d (by omega) q hq
theorem good_s : ∀ d < 6, ∀ q ∈ perms d, goodP d q = true := by decide +kernel
theorem good_0 : (ch 0).all (goodP 6) = true := by decide +kernel
theorem good_1 : (ch 1).all (goodP 6) = true := by decide +kernel
theorem good_2 : (ch 2).all (goodP 6) = true := by decide +kernel
theorem good_3 : (ch 3).all (goodP 6) = true := by decide +kernel
theorem good_4 : (ch 4).all (goodP 6) = true := by decide +kernel
theorem good_5 : (ch 5).all (goodP 6) = true := by decide +kernel
theorem good_6 : (ch 6).all (goodP 6) = true := by decide +kernel
theorem good_7 : (ch 7).all (goodP 6) = true := by decide +kernel
theorem good_8 : (ch 8).all (goodP 6) = true := by decide +kernel
theorem good_9 : (ch 9).all (goodP 6) = true := by decide +kernel
theorem good_10 : (ch 10).all (goodP 6) = true := by decide +kernel
theorem good_11 : (ch 11).all (goodP 6) = true := by decide +kernel
theorem good_all : ∀ d < 7, ∀ q ∈ perms d, goodP d q = true := of_ch good_s fun i hi q hq => by
  have e : (ch i).all (goodP 6) = true := by
    match i, hi with
    | 0, _ => exact good_0
    | 1, _ => exact good_1
    | 2, _ => exact good_2
    | 3, _ => exact good_3
    | 4, _ => exact good_4
    | 5, _ => exact good_5
    | 6, _ => exact good_6
    | 7, _ => exact good_7
    | 8, _ => exact good_8
    | 9, _ => exact good_9
    | 10, _ => exact good_10
    | 11, _ => exact good_11
  exact List.all_eq_true.mp e q hq
def tupP (q : List Nat) : PyData := .tuple (q.map fun (n : Nat) => PyData.int (n : Int))
def shP (q : List Nat) : Bool := (tupP q).showable && Nat.ble (tupP q).shown.length 200 && strOkB (tupP q).shown
theorem sh_s : ∀ d < 6, ∀ q ∈ perms d, shP q = true := by decide +kernel
theorem sh_0 : (ch 0).all shP = true := by decide +kernel
theorem sh_1 : (ch 1).all shP = true := by decide +kernel
theorem sh_2 : (ch 2).all shP = true := by decide +kernel
theorem sh_3 : (ch 3).all shP = true := by decide +kernel
theorem sh_4 : (ch 4).all shP = true := by decide +kernel
theorem sh_5 : (ch 5).all shP = true := by decide +kernel
theorem sh_6 : (ch 6).all shP = true := by decide +kernel
theorem sh_7 : (ch 7).all shP = true := by decide +kernel
theorem sh_8 : (ch 8).all shP = true := by decide +kernel
theorem sh_9 : (ch 9).all shP = true := by decide +kernel
theorem sh_10 : (ch 10).all shP = true := by decide +kernel
theorem sh_11 : (ch 11).all shP = true := by decide +kernel
theorem sh_all : ∀ d < 7, ∀ q ∈ perms d, shP q = true := of_ch (p := fun _ => shP) sh_s fun i hi q hq => by
  have e : (ch i).all shP = true := by
    match i, hi with
    | 0, _ => exact sh_0
    | 1, _ => exact sh_1
    | 2, _ => exact sh_2
    | 3, _ => exact sh_3
    | 4, _ => exact sh_4
    | 5, _ => exact sh_5
    | 6, _ => exact sh_6
    | 7, _ => exact sh_7
    | 8, _ => exact sh_8
    | 9, _ => exact sh_9
    | 10, _ => exact sh_10
    | 11, _ => exact sh_11
  exact List.all_eq_true.mp e q hq
theorem shown_all (d : Nat) (hd : d < 7) (q : List Nat) (hq : q ∈ perms d) : ((tupP q).showable && Nat.ble (tupP q).shown.length 200) = true := (Bool.and_eq_true_iff.mp (sh_all d hd q hq)).1
theorem shown_ok2 (d : Nat) (hd : d < 7) (q : List Nat) (hq : q ∈ perms d) : strOkB (tupP q).shown = true := (Bool.and_eq_true_iff.mp (sh_all d hd q hq)).2
def itemS (i : Nat) : Str := ("thing " : Str) ++ (toString (i : Int) : Str)
theorem item_len : ∀ i < 7, (itemS i).length ≤ 100 := by decide +kernel
theorem item_ok : ∀ i < 7, strOkB (itemS i) = true := by decide +kernel
theorem item_eq : ∀ i < 7, ∀ j < 7, (itemS i == itemS j) = decide (i = j) := by decide +kernel
end LawK02
end
section
namespace LawK02
open PySem L2 PySem.Spec DI
open PyProof.Rows hiding St
variable {k : Nat} {st : Store} {A B : D} {ps qs : List Nat}
theorem len_app (x y : Str) : (x ++ y).length = x.length + y.length := by
  show (x ++ y).cps.size = x.cps.size + y.cps.size
  rw [PySem.Str.cps_append, Array.size_append]
theorem ok_app (x y : Str) : strOkB (x ++ y) = (strOkB x && strOkB y) := by
  show (x ++ y).cps.all (· < 0x110000) = (x.cps.all (· < 0x110000) && y.cps.all (· < 0x110000))
  rw [PySem.Str.cps_append, Array.all_append]
def itemD (i : Nat) : D := .str (itemS i)
def its (L : List Nat) : List D := L.map itemD
theorem its_length (L : List Nat) : (its L).length = L.length := List.length_map ..
theorem pys_its {n : Nat} : ∀ {L : List Nat}, (∀ i ∈ L, i < 7) → pys (py (n + 1) st) (its L) = some (L.map fun i => PyData.str (itemS i))
  | [], _ => rfl
  | i :: L, h => by
    show (match (if strOkB (itemS i) = true then some (PyData.str (itemS i)) else none), pys (py (n + 1) st) (its L) with
      | some d, some ds => some (d :: ds)
      | _, _ => none) = _
    rw [if_pos (item_ok i (h i List.mem_cons_self)), pys_its fun j hj => h j (List.mem_cons_of_mem _ hj)]
    rfl
theorem eqv_its : ∀ {L M : List Nat}, (∀ i ∈ L, i < 7) → (∀ i ∈ M, i < 7) → PyData.eqvAll (L.map fun i => PyData.str (itemS i)) (M.map fun i => PyData.str (itemS i)) = decide (L = M)
  | [], [], _, _ => rfl
  | [], _ :: _, _, _ => by
    rw [decide_eq_false (by intro z; cases z)]
    rfl
  | _ :: _, [], _, _ => by
    rw [decide_eq_false (by intro z; cases z)]
    rfl
  | i :: L, j :: M, h1, h2 => by
    show ((itemS i == itemS j) && PyData.eqvAll (L.map fun i => PyData.str (itemS i)) (M.map fun i => PyData.str (itemS i))) = _
    rw [item_eq i (h1 i List.mem_cons_self) j (h2 j List.mem_cons_self), eqv_its (fun x hx => h1 x (List.mem_cons_of_mem _ hx)) (fun x hx => h2 x (List.mem_cons_of_mem _ hx))]
    by_cases e1 : i = j
    · by_cases e2 : L = M
      · rw [e1, e2]
        simp
      · rw [decide_eq_false e2, decide_eq_false (p := i :: L = j :: M) (fun z => e2 (List.cons.inj z).2), Bool.and_false]
    · rw [decide_eq_false e1, decide_eq_false (p := i :: L = j :: M) (fun z => e1 (List.cons.inj z).1), Bool.false_and]
theorem ne_its {n m : Nat} {w v : Bool} {L M : List Nat} (h1 : st[n]? = some (.lst w (its L))) (h2 : st[m]? = some (.lst v (its M))) (l1 : ∀ i ∈ L, i < 7) (l2 : ∀ i ∈ M, i < 7) : cmpD .NotEq (.ref n) (.ref m) st = .ret (!decide (L = M), st) := by
  have e1 : py deep st (.ref n) = some (.list (L.map fun i => PyData.str (itemS i))) := by
    show (match st[n]? with
      | some (.lst _ xs) => (match pys (py 23 st) xs with
        | some ds => some (PyData.list ds)
        | none => none)
      | _ => none) = _
    rw [h1]
    dsimp only
    rw [pys_its l1]
  have e2 : py deep st (.ref m) = some (.list (M.map fun i => PyData.str (itemS i))) := by
    show (match st[m]? with
      | some (.lst _ xs) => (match pys (py 23 st) xs with
        | some ds => some (PyData.list ds)
        | none => none)
      | _ => none) = _
    rw [h2]
    dsimp only
    rw [pys_its l2]
  show mopt ((eqD (.ref n) (.ref m) st).map (!·)) st = _
  unfold eqD
  rw [e1, e2]
  show DI.T.ret (!PyData.eqvAll (L.map fun i => PyData.str (itemS i)) (M.map fun i => PyData.str (itemS i)), st) = _
  rw [eqv_its l1 l2]
theorem sets_congr {α : Type} {v v' : Nat → α} : ∀ (l : List Nat) (j : Nat) (acc : List α), (∀ i, i < j + l.length → v i = v' i) → sets v l j acc = sets v' l j acc
  | [], _, _, _ => rfl
  | p :: r, j, acc, h => by
    show sets v r (j + 1) (acc.set p (v j)) = sets v' r (j + 1) (acc.set p (v' j))
    rw [h j (by show j < j + (r.length + 1); omega), sets_congr r (j + 1) _ (fun i hi => h i (by show i < j + (r.length + 1); omega))]
theorem its_getD {L : List Nat} {i : Nat} (h : i < L.length) : (its L).getD i .non = itemD (L.getD i 0) := by
  unfold its
  rw [List.getD_eq_getElem?_getD, List.getElem?_map, getD_get h]
  rfl
theorem mv_its {L : List Nat} (h : ps.length ≤ L.length) : mv ps (its L) = its (movN ps L) := by
  unfold mv movN
  rw [sets_congr (v' := fun i => itemD (L.getD i 0)) ps 0 (its L) (fun i hi => its_getD (by omega))]
  exact (sets_map itemD ps 0 L).symm
theorem movN_length (L : List Nat) : (movN ps L).length = L.length := sets_length _ _ _
theorem movsN_length (L : List Nat) : ∀ n, (movsN ps n L).length = L.length
  | 0 => rfl
  | n + 1 => by
    show (movN ps (movsN ps n L)).length = _
    rw [movN_length, movsN_length L n]
theorem mvs_its {L : List Nat} (h : ps.length ≤ L.length) : ∀ n, mvs ps n (its L) = its (movsN ps n L)
  | 0 => rfl
  | n + 1 => by
    show mv ps (mvs ps n (its L)) = _
    rw [mvs_its h n, mv_its (by rw [movsN_length]; exact h)]
    rfl
theorem sets_mem {α : Type} {v : Nat → α} {Q : α → Prop} : ∀ (l : List Nat) (j : Nat) (acc : List α), (∀ x ∈ acc, Q x) → (∀ i, i < j + l.length → Q (v i)) → ∀ x ∈ sets v l j acc, Q x
  | [], _, acc, h, _ => h
  | p :: r, j, acc, h, hv => by
    refine sets_mem r (j + 1) (acc.set p (v j)) (fun x hx => ?_) fun i hi => hv i (by show i < j + (r.length + 1); omega)
    rcases List.mem_or_eq_of_mem_set hx with z | z
    · exact h x z
    · rw [z]
      exact hv j (by show j < j + (r.length + 1); omega)
theorem movN_lt {L : List Nat} {m : Nat} (h : ∀ x ∈ L, x < m) (hm : 0 < m) : ∀ x ∈ movN ps L, x < m := by
  refine sets_mem ps 0 L h fun i _ => ?_
  by_cases hi : i < L.length
  · exact h _ (List.mem_of_getElem? (getD_get hi))
  · rw [List.getD_eq_getElem?_getD, List.getElem?_eq_none (by omega)]
    exact hm
theorem movsN_lt {L : List Nat} {m : Nat} (h : ∀ x ∈ L, x < m) (hm : 0 < m) : ∀ n, ∀ x ∈ movsN ps n L, x < m
  | 0 => h
  | n + 1 => movN_lt (movsN_lt h hm n) hm
/-- moving by the composition, or one after the other -/
theorem compose_ok {d : Nat} {l r : List Nat} (hl : l.length = d) (hr : r.length = d) (l1 : l.Nodup) (r1 : r.Nodup) (l2 : ∀ x ∈ l, x < d) (r2 : ∀ x ∈ r, x < d) (l3 : ∀ j < d, j ∈ l) (r3 : ∀ j < d, j ∈ r) : movN (compL l r) (List.range d) = movN r (movN l (List.range d)) := by
  have hrd : (List.range d).length = d := List.length_range
  have cg : ∀ i, i < d → (compL l r)[i]? = some (r.getD (l.getD i 0) 0) := by
    intro i hi
    unfold compL
    rw [List.getElem?_map, getD_get (by omega)]
    rfl
  have lg : ∀ i, i < d → l.getD i 0 < d := fun i hi => l2 _ (List.mem_of_getElem? (getD_get (by omega)))
  have rg : ∀ i, i < d → r.getD i 0 < d := fun i hi => r2 _ (List.mem_of_getElem? (getD_get (by omega)))
  have inj : ∀ {xs : List Nat}, xs.Nodup → ∀ i j, i < xs.length → j < xs.length → xs.getD i 0 = xs.getD j 0 → i = j := by
    intro xs hn i j hi hj e
    have e1 : xs[i] = xs[j] := by
      have q1 := getD_get hi
      have q2 := getD_get hj
      rw [List.getElem?_eq_getElem hi] at q1
      rw [List.getElem?_eq_getElem hj] at q2
      rw [Option.some.inj q1, Option.some.inj q2, e]
    have q := List.pairwise_iff_getElem.mp hn
    rcases Nat.lt_trichotomy i j with z | z | z
    · exact absurd e1 (q i j hi hj z)
    · exact z
    · exact absurd e1.symm (q j i hj hi z)
  have cn : (compL l r).Nodup := by
    unfold compL
    refine List.pairwise_map.mpr (List.Pairwise.imp_of_mem (fun {x y} hx hy hne e => ?_) l1)
    exact hne (inj r1 x y (by rw [hr]; exact l2 x hx) (by rw [hr]; exact l2 y hy) e)
  refine List.ext_getElem? fun j => ?_
  by_cases hj : j < d
  · obtain ⟨i, hi⟩ := List.getElem?_of_mem (r3 j hj)
    have hi1 : i < d := by have := (List.getElem?_eq_some_iff.mp hi).1; omega
    obtain ⟨h, hh⟩ := List.getElem?_of_mem (l3 i hi1)
    have hh1 : h < d := by have := (List.getElem?_eq_some_iff.mp hh).1; omega
    have el : l.getD h 0 = i := by
      have := getD_get (ps := l) (p := h) (by omega)
      rw [hh] at this
      exact (Option.some.inj this).symm
    have er : r.getD i 0 = j := by
      have := getD_get (ps := r) (p := i) (by omega)
      rw [hi] at this
      exact (Option.some.inj this).symm
    have c1 : (compL l r)[h]? = some j := by rw [cg h hh1, el, er]
    have q1 := sets_at (v := fun i => (List.range d).getD i 0) (compL l r) 0 h j (List.range d) cn c1 (by rw [hrd]; exact hj)
    have q2 := sets_at (v := fun i => (movN l (List.range d)).getD i 0) r 0 i j (movN l (List.range d)) r1 hi (by rw [movN_length, hrd]; exact hj)
    have q3 := sets_at (v := fun i => (List.range d).getD i 0) l 0 h i (List.range d) l1 hh (by rw [hrd]; exact hi1)
    have q4 := getD_get (ps := movN l (List.range d)) (p := i) (by rw [movN_length, hrd]; exact hi1)
    have q3' : (movN l (List.range d))[i]? = some ((List.range d).getD (0 + h) 0) := q3
    rw [q3'] at q4
    show (sets (fun i => (List.range d).getD i 0) (compL l r) 0 (List.range d))[j]? = (sets (fun i => (movN l (List.range d)).getD i 0) r 0 (movN l (List.range d)))[j]?
    rw [q1, q2, Nat.zero_add, Nat.zero_add, ← Option.some.inj q4, Nat.zero_add]
  · rw [List.getElem?_eq_none (by rw [movN_length, hrd]; omega), List.getElem?_eq_none (by rw [movN_length, movN_length, hrd]; omega)]
end LawK02
end
section
namespace LawK02
open PySem L2 PySem.Spec DI
open PyProof.Rows hiding St
variable {k : Nat} {st : Store} {A B : D} {ps qs : List Nat}
/-- what a permutation of the law is good for -/
structure Good (d : Nat) (q : List Nat) : Prop where
  d7 : d < 7
  mem : q ∈ perms d
  len : q.length = d
  nd : q.Nodup
  lt : ∀ x ∈ q, x < d
  onto : ∀ j < d, j ∈ q
  inv : movN (invN q) (movN q (List.range d)) = List.range d
  ilt : ∀ x ∈ invN q, x < d
  ilen : (invN q).length = d
  cinv : compL q (invN q) = List.range d
  ord : ∃ t, ordN q (List.range d) 40 1 (movN q (List.range d)) = some t ∧ lcms q (List.range d) 1 = some t ∧ 0 < t ∧ t < 40 ∧
    (∀ e < t, ∃ out, pows q (e : Int) (List.range d) [] = some out ∧ movN out (List.range d) = movsN q e (List.range d) ∧ out.length = d ∧ ∀ x ∈ out, x < d) ∧ ∀ s < d, ∃ c, cyc q s = some c ∧ t % c.length = 0
  show_ : (tupP q).showable = true
  shlen : (tupP q).shown.length ≤ 200
  shok : strOkB (tupP q).shown = true
theorem good_of {d : Nat} {q : List Nat} (hd : d < 7) (hq : q ∈ perms d) : Good d q := by
  have h := good_all d hd q hq
  unfold goodP at h
  obtain ⟨h, h8⟩ := and2 h
  obtain ⟨h, h7⟩ := and2 h
  obtain ⟨h, h6⟩ := and2 h
  obtain ⟨h, h5⟩ := and2 h
  obtain ⟨h, h4⟩ := and2 h
  obtain ⟨h, h3⟩ := and2 h
  obtain ⟨h1, h2⟩ := and2 h
  obtain ⟨s1, s2⟩ := and2 (shown_all d hd q hq)
  refine ⟨hd, hq, perms_len hq, of_decide_eq_true h1, fun x hx => of_decide_eq_true (List.all_eq_true.mp h2 x hx), fun j hj => List.contains_iff_mem.mp (List.all_eq_true.mp h3 j (List.mem_range.mpr hj)), of_decide_eq_true h4, fun x hx => of_decide_eq_true (List.all_eq_true.mp h5 x hx), of_decide_eq_true h6, of_decide_eq_true h7, ?_, s1, Nat.le_of_ble_eq_true s2, shown_ok2 d hd q hq⟩
  split at h8
  · rename_i t e
    obtain ⟨h8, g5⟩ := and2 h8
    obtain ⟨h8, g4⟩ := and2 h8
    obtain ⟨h8, g3⟩ := and2 h8
    obtain ⟨g1, g2⟩ := and2 h8
    refine ⟨t, e, of_decide_eq_true g1, of_decide_eq_true g2, of_decide_eq_true g3, fun i hi => ?_, fun s hs => ?_⟩
    · have q1 := List.all_eq_true.mp g4 i (List.mem_range.mpr hi)
      split at q1
      · rename_i out eo
        obtain ⟨q1, q4⟩ := and2 q1
        obtain ⟨q2, q3⟩ := and2 q1
        exact ⟨out, eo, of_decide_eq_true q2, of_decide_eq_true q3, fun x hx => of_decide_eq_true (List.all_eq_true.mp q4 x hx)⟩
      · cases q1
    · have q1 := List.all_eq_true.mp g5 s (List.mem_range.mpr hs)
      split at q1
      · rename_i c ec
        exact ⟨c, ec, of_decide_eq_true q1⟩
      · cases q1
  · cases h8
section
variable {env : Evr} {a b : IE} {st1 st2 : Store} {n d : Nat} {L l : List Nat}
theorem ev_mv {b' : IE} (h1 : ev (cfg T.F (k + 1)) a env st = .ret (.ref n, st1)) (h2 : ev (cfg T.F (k + 1)) b env st1 = .ret (.tup (il ps), st2)) (hn : st2[n]? = some (.lst true (its L))) (hl : ps.length = d) (hL : L.length = d) (hp : ∀ p ∈ ps, p < d) :
    ev (cfg T.F (k + 1)) (.call "_law_moved" (.cons a (.cons b .nil))) env st = .ret (.ref st2.length, st2 ++ [SO.lst true (its (movN ps L))]) := by
  rw [ev_call (evs_cons h1 (evs_cons h2 evs_nil))]
  have q := sp_moved (k := k) (A := .tup (il ps)) hn rfl (by rw [its_length]; omega) (fun p hx => by rw [its_length, hL]; exact hp p hx)
  have e : sets (fun i => (its L).getD i .non) ps 0 (its L) = its (movN ps L) := mv_its (by omega)
  rw [e] at q
  exact q
theorem ev_inv (h1 : ev (cfg T.F (k + 1)) a env st = .ret (A, st1)) (hA : itemsD st1 A = some (il l)) (G : Good d l) : ∃ g, ev (cfg T.F (k + 1)) (.call "inverse" (.cons a .nil)) env st = .ret (.tup (il (invN l)), st1 ++ g) := by
  have hl := G.len
  obtain ⟨g, e⟩ := sp_inverse (k := k) hA (by have := G.d7; omega) (fun p hp => by rw [hl]; exact G.lt p hp)
  refine ⟨g, ?_⟩
  rw [ev_call (evs_cons h1 evs_nil)]
  have q : sets (fun i => D.int (i : Int)) l 0 (List.replicate l.length (.int 0)) = il (invN l) := by
    unfold invN il
    rw [sets_map, List.map_replicate]
    rfl
  rw [q] at e
  exact e
theorem same_ints (hl : l.length ≤ 900) : ∀ g, Ev (DI.run T.F (k + 1 + 1) "_law_same" [.tup (il l), .tup (il l)] (st ++ g)) (st ++ g) (.bl true) := fun g =>
  same_seq (.tup _ _) rfl (by rw [il_length]; exact hl) fun i x y h1 h2 g' => by
    rw [h1] at h2
    cases h2
    obtain ⟨p, _, rfl⟩ := List.mem_map.mp (List.mem_of_getElem? h1)
    exact ⟨[], by rw [same_int, List.append_nil]⟩
/-- two lists of two of these -/
theorem same_two {n m : Nat} {x y : D} (h1 : st[n]? = some (.lst true [x, y])) (h2 : st[m]? = some (.lst true [x, y])) (hx : ∀ g, Ev (DI.run T.F (k + 1) "_law_same" [x, x] (st ++ g)) (st ++ g) (.bl true)) (hy : ∀ g, Ev (DI.run T.F (k + 1) "_law_same" [y, y] (st ++ g)) (st ++ g) (.bl true)) :
    Ev (DI.run T.F (k + 1 + 1) "_law_same" [.ref n, .ref m] st) st (.bl true) := by
  refine same_seq (.lst h1 h2) rfl (by show 2 ≤ 900; decide) fun i a b e1 e2 g => ?_
  rw [e1] at e2
  cases e2
  match i, e1 with
  | 0, e1 =>
    cases e1
    exact hx g
  | 1, e1 =>
    cases e1
    exact hy g
theorem callK_ok {C : Cfg} {f : Str} {ks : List Str} {ws : IEs} {ys zs : List D} {o : List Nat} (h : evs C ws env st = .ret (ys, st1)) (ho : C.kord f 0 ks = some o) (hp : pickD ys o = some zs) : ev C (.callK f .nil ks ws) env st = C.call f zs st1 := by
  rw [ev, mbind, evs_nil]
  dsimp only [DI.T.bind]
  rw [mbind, h]
  dsimp only [DI.T.bind]
  rw [show ([] : List D).length = 0 from rfl, ho]
  dsimp only
  rw [List.nil_append, hp]
end
/-- the text of the two -/
def txt (l r : List Nat) : Str := (PyData.list [tupP l, tupP r]).shown
theorem txt_parts (l r : List Nat) : txt l r = (((("[" : Str) ++ ("" : Str)) ++ (tupP l).shown) ++ (", " : Str) ++ (tupP r).shown) ++ ("]" : Str) := rfl
theorem py_il {n : Nat} : ∀ l : List Nat, pys (py (n + 1) st) (il l) = some (l.map fun (n : Nat) => PyData.int (n : Int))
  | [] => rfl
  | i :: l => by
    show (match (some (PyData.int (i : Int)) : Option PyData), pys (py (n + 1) st) (il l) with
      | some d, some ds => some (d :: ds)
      | _, _ => none) = _
    rw [py_il l]
    rfl
theorem repr_two {n d : Nat} {l r : List Nat} (h : st[n]? = some (.lst true [.tup (il l), .tup (il r)])) (G1 : Good d l) (G2 : Good d r) : bltD .repr [.ref n] st = .ret (.str (txt l r), st) := by
  have ht : ∀ q : List Nat, py 23 st (.tup (il q)) = some (tupP q) := by
    intro q
    show (match pys (py 22 st) (il q) with
      | some ds => some (PyData.tuple ds)
      | none => none) = _
    rw [py_il]
    rfl
  have hp : py deep st (.ref n) = some (.list [tupP l, tupP r]) := by
    show (match st[n]? with
      | some (.lst _ xs) => (match pys (py 23 st) xs with
        | some ds => some (PyData.list ds)
        | none => none)
      | _ => none) = _
    rw [h]
    show (match (match py 23 st (.tup (il l)), (match py 23 st (.tup (il r)), (some [] : Option (List PyData)) with
        | some d, some ds => some (d :: ds)
        | _, _ => none) with
        | some d, some ds => some (d :: ds)
        | _, _ => none) with
        | some ds => some (PyData.list ds)
        | none => none) = _
    rw [ht, ht]
  unfold bltD
  dsimp only
  rw [hp]
  dsimp only
  have hs : (PyData.list [tupP l, tupP r]).showable = true := by
    show ((tupP l).showable && ((tupP r).showable && true)) = true
    rw [G1.show_, G2.show_]
    rfl
  have hz : (txt l r).length ≤ 1000 := by
    rw [txt_parts, len_app, len_app, len_app, len_app, len_app]
    have a := G1.shlen
    have b := G2.shlen
    have c1 : ("[" : Str).length = 1 := by decide +kernel
    have c2 : ("" : Str).length = 0 := by decide +kernel
    have c3 : (", " : Str).length = 2 := by decide +kernel
    have c4 : ("]" : Str).length = 1 := by decide +kernel
    omega
  have hz2 : fits (PyData.list [tupP l, tupP r]).shown.length = true := fits_of hz
  rw [hs, hz2]
  rfl
theorem txt_eq {d : Nat} {l r : List Nat} (G1 : Good d l) (G2 : Good d r) : cmpD .Eq (.str (txt l r)) (.str (txt l r)) st = .ret (true, st) := by
  have ok : strOkB (txt l r) = true := by
    rw [txt_parts, ok_app, ok_app, ok_app, ok_app, ok_app, G1.shok, G2.shok]
    decide +kernel
  have e : py deep st (.str (txt l r)) = some (.str (txt l r)) := by
    show (if strOkB (txt l r) = true then some (PyData.str (txt l r)) else none) = _
    rw [if_pos ok]
  show mopt (eqD (.str (txt l r)) (.str (txt l r)) st) st = _
  unfold eqD
  rw [e]
  show DI.T.ret ((txt l r == txt l r), st) = _
  rw [beq_self_eq_true]
/-- power, by the rest -/
theorem pows_mod {e : Int} {t : Nat} (ht : 0 < t) : ∀ (ss acc : List Nat), (∀ s ∈ ss, ∃ c, cyc ps s = some c ∧ t % c.length = 0) → pows ps e ss acc = pows ps (((e.fmod (t : Int)).toNat : Nat) : Int) ss acc
  | [], _, _ => rfl
  | s :: ss, acc, h => by
    obtain ⟨c, hc, hm⟩ := h s List.mem_cons_self
    have c0 := cyc_pos hc
    unfold pows
    rw [hc]
    dsimp only
    have f := fmod_in (i := e) (j := (t : Int)) (by omega)
    have e1 : e.fmod (c.length : Int) = ((((e.fmod (t : Int)).toNat : Nat) : Int)).fmod (c.length : Int) := by
      rw [show (((e.fmod (t : Int)).toNat : Nat) : Int) = e.fmod (t : Int) by omega]
      rw [Int.fmod_eq_emod_of_nonneg _ (by omega), Int.fmod_eq_emod_of_nonneg _ (by omega), Int.fmod_eq_emod_of_nonneg _ (by omega)]
      rw [Int.emod_emod_of_dvd]
      exact Int.natCast_dvd_natCast.mpr (Nat.dvd_of_mod_eq_zero hm)
    rw [← e1]
    exact pows_mod ht ss _ fun s hs => h s (List.mem_cons_of_mem _ hs)
end LawK02
end
section
namespace LawK02
open PySem L2 PySem.Spec DI
open PyProof.Rows hiding St
variable {k : Nat} {st : Store} {A B : D} {ps qs : List Nat}
theorem str_fits : ∀ i : Nat, i < 7 → (("thing " : Str).length + (toString (i : Int) : Str).length) ≤ 1000 := by decide +kernel
theorem str_log : ∀ i : Nat, i < 7 → decide ((i : Int).natAbs.log2 < 1920) = true := by decide +kernel
def itf : D → D
  | .int i => .str (("thing " : Str) ++ (toString i : Str))
  | _ => .non
theorem itf_il (L : List Nat) : (il L).map itf = its L := by
  unfold il its
  rw [List.map_map]
  rfl
/-- the items' names -/
theorem ev_items {C : Cfg} {env : Evr} {d : Nat} (hd : d < 7) (h1 : env[1]? = some (some (.int (d : Int)))) (h6 : env.length = 13) :
    ∃ g, ev C (.lc [("_law_peg", 6)] (.name 6) (.range1 (.var 1)) .none (.bin .Add (.cstr "thing ") (.blt .str (.cons (.var 6) .nil)))) env st = .ret (.ref st.length, st ++ .lst true (its (List.range d)) :: g) := by
  rw [← itf_il]
  refine ev_lc (st1 := st) (pl := .rng 0 d) (xs := il (List.range d)) (f := itf) (evIt_range1 (ev_var h1) (by omega)) (by rw [il_length, List.length_range]; rfl) (by rw [il_length, List.length_range]; omega) (fun g => ⟨fun i => rng_item, rfl⟩) fun x hx g => ?_
  obtain ⟨i, hi, rfl⟩ := List.mem_map.mp hx
  have hi7 : i < 7 := by
    have := List.mem_range.mp hi
    omega
  refine ⟨_, [], rfl, ?_⟩
  have hw : (wipeE env [6]).length = 13 := by
    show (env.set 6 none).length = 13
    rw [List.length_set, h6]
  rw [List.append_nil]
  have e6 : (((wipeE env [6]).set 6 (some (.int (i : Int)))))[6]? = some (some (.int (i : Int))) := List.getElem?_set_self (by rw [hw]; decide)
  refine (ev_bin (x := .str "thing ") rfl ((ev_blt (evs_cons (ev_var e6) evs_nil)).trans (show bltD .str [.int (i : Int)] (st ++ g) = .ret (.str (toString (i : Int)), st ++ g) by
    show mif (decide ((i : Int).natAbs.log2 < 1920)) (mret (D.str (toString (i : Int)))) (st ++ g) = _
    rw [str_log i hi7]
    rfl))).trans ?_
  show mif (fits (("thing " : Str).length + (toString (i : Int) : Str).length)) (mret (D.str (("thing " : Str) ++ (toString (i : Int) : Str)))) (st ++ g) = _
  rw [fits_of (str_fits i hi7)]
  rfl
theorem par2 {C : Cfg} {i j : Nat} {a b : IE} {env env' : Evr} {st1 st2 : Store} {x y : D} (h1 : ev C a env st = .ret (x, st1)) (h2 : ev C b env st1 = .ret (y, st2)) (he : setEnvs [i, j] [x, y] env = some env') : ex C (.par [i, j] (.cons a (.cons b .nil))) env st = .ret ((.next, env'), st2) := by
  rw [ex, doE, evs_cons h1 (evs_cons h2 evs_nil)]
  show (match setEnvs [i, j] [x, y] env with
    | some env' => (mret (Fl.next, env') : M (Fl × Evr))
    | none => mstuck) st2 = _
  rw [he]
  rfl
/-- the law's while: up to the first return -/
theorem ord_loop {d rg n : Nat} {l : List Nat} {x5 x6 x7 x8 x11 x12 : Option D} {x1 x3 : D} (G : Good d l) (hn : st[n]? = some (.lst true (its (List.range d)))) : ∀ (f i m : Nat) (cur : List Nat) (t nf : Nat) (g : Store), ordN l (List.range d) f i cur = some t → f ≤ m → cur.length = d → (∀ x ∈ cur, x < d) → (st ++ g)[nf]? = some (.lst true (its cur)) →
    ∃ nf' g', whileLoop (fun env => mbind (ev (cfg T.F (k + 1)) (.cmp .NotEq (.var 10) (.var 4)) env) truthD) (exs (cfg T.F (k + 1)) (.cons (.par [9, 10] (.cons (.bin .Add (.var 9) (.cint 1)) (.cons (.call "_law_moved" (.cons (.var 10) (.cons (.var 2) .nil))) .nil))) .nil)) m
      [some (.ref rg), some x1, some (.tup (il l)), some x3, some (.ref n), x5, x6, x7, x8, some (.int (i : Int)), some (.ref nf), x11, x12] (st ++ g) = .ret ((.next, [some (.ref rg), some x1, some (.tup (il l)), some x3, some (.ref n), x5, x6, x7, x8, some (.int (t : Int)), some (.ref nf'), x11, x12]), st ++ g')
  | 0, _, _, _, _, _, _, h, _, _, _, _ => by cases h
  | f + 1, i, 0, _, _, _, _, _, h, _, _, _ => by omega
  | f + 1, i, m + 1, cur, t, nf, g, h, hm, hc, hc2, hnf => by
    have d7 := G.d7
    unfold ordN at h
    have e1 : (mbind (ev (cfg T.F (k + 1)) (.cmp .NotEq (.var 10) (.var 4)) [some (.ref rg), some x1, some (.tup (il l)), some x3, some (.ref n), x5, x6, x7, x8, some (.int (i : Int)), some (.ref nf), x11, x12]) truthD) (st ++ g) = .ret (!decide (cur = List.range d), st ++ g) := by
      rw [mbind, ev_cmp (ev_var rfl) (ev_var rfl) (ne_its hnf (app_get hn g) (fun x hx => by have := hc2 x hx; omega) (fun x hx => by have := List.mem_range.mp hx; omega))]
      rfl
    split at h
    · rename_i e
      cases h
      refine ⟨nf, g, while_stop ?_⟩
      rw [e1, decide_eq_true e]
      rfl
    · rename_i e
      rw [decide_eq_false e] at e1
      have hd0 : 0 < d := by
        cases d with
        | zero =>
          exfalso
          apply e
          rw [List.length_eq_zero_iff.mp hc]
          rfl
        | succ d => omega
      have hmv := ev_mv (k := k) (a := .var 10) (b := .var 2) (d := d) (ps := l) (L := cur) (st := st ++ g) (st1 := st ++ g) (st2 := st ++ g) (env := [some (.ref rg), some x1, some (.tup (il l)), some x3, some (.ref n), x5, x6, x7, x8, some (.int (i : Int)), some (.ref nf), x11, x12]) (b' := .cnon) (ev_var rfl) (ev_var rfl) hnf G.len hc G.lt
      have hg := last_get (st ++ g) (.lst true (its (movN l cur)))
      obtain ⟨nf', g', h2⟩ := ord_loop G hn f (i + 1) m (movN l cur) t (st ++ g).length (g ++ [.lst true (its (movN l cur))]) h (by omega) (by rw [movN_length, hc]) (movN_lt hc2 hd0) (by rw [← List.append_assoc]; exact hg)
      refine ⟨nf', g', (while_step e1 (exs_cons (ss := .nil) (par2 (x := .int ((i : Int) + 1)) (env' := [some (.ref rg), some x1, some (.tup (il l)), some x3, some (.ref n), x5, x6, x7, x8, some (.int ((i : Int) + 1)), some (.ref (st ++ g).length), x11, x12]) rfl hmv rfl))).trans ?_⟩
      rw [List.append_assoc]
      exact h2
end LawK02
end
section
namespace LawK02
open PySem L2 PySem.Spec DI
open PyProof.Rows hiding St
variable {k : Nat} {st : Store} {A B : D} {ps qs : List Nat}
def Gr (S S' : Store) : Prop := ∃ g, S' = S ++ g
theorem Gr.get {S S' : Store} (h : Gr S S') {n : Nat} {x : SO} (e : S[n]? = some x) : S'[n]? = some x := by
  obtain ⟨g, rfl⟩ := h
  exact app_get e g
theorem Gr.add (S g : Store) : Gr S (S ++ g) := ⟨g, rfl⟩
theorem Gr.trans {S S1 S2 : Store} (a : Gr S S1) (b : Gr S1 S2) : Gr S S2 := by
  obtain ⟨g, rfl⟩ := a
  obtain ⟨h, rfl⟩ := b
  exact ⟨g ++ h, by rw [List.append_assoc]⟩
theorem inv_run {d : Nat} {l : List Nat} (hA : itemsD st A = some (il l)) (G : Good d l) : ∃ g, DI.run T.F (k + 1) "inverse" [A] st = .ret (.tup (il (invN l)), st ++ g) := by
  obtain ⟨g, e⟩ := ev_inv (k := k) (env := [some A]) (a := .var 0) (st := st) (ev_var rfl) hA G
  rw [ev_call (evs_cons (ev_var rfl) evs_nil)] at e
  exact ⟨g, e⟩
theorem comp_run {d : Nat} {l r : List Nat} (hA : itemsD st A = some (il l)) (hB : itemsD st B = some (il r)) (d7 : d < 7) (hl : l.length = d) (hr : r.length = d) (hlt : ∀ x ∈ l, x < d) : ∃ g, DI.run T.F (k + 1) "compose" [A, B] st = .ret (.tup (il (compL l r)), st ++ g) :=
  sp_compose hA hB (by omega) (fun p hp => by rw [hr]; exact hlt p hp)
theorem id_run {d : Nat} (d7 : d < 7) : DI.run T.F (k + 1) "identity" [.int (d : Int)] st = .ret (.tup (il (List.range d)), st) := sp_identity d (by omega)
theorem ev_tr {C : Cfg} {a : IE} {env : Evr} {st1 : Store} {d : Nat} (h1 : ev C a env st = .ret (.int (d : Int), st1)) (hd : d ≤ 1000) : ev C (.tr a) env st = .ret (.tup (il (List.range d)), st1) := by
  rw [ev, mbind, h1]
  show rgD false (.int (d : Int)) st1 = _
  unfold rgD
  dsimp only
  rw [decide_eq_true (show (-100000 : Int) < d by omega), decide_eq_true (show (d : Int) ≤ 100000 by omega)]
  rfl
theorem items3 {d rg : Nat} {l r : List Nat} (d7 : d < 7) : ∃ g, ev (cfg T.F (k + 1 + 1 + 1)) (.lc [("_law_peg", 6)] (.name 6) (.range1 (.var 1)) .none (.bin .Add (.cstr "thing ") (.blt .str (.cons (.var 6) .nil)))) [some (.ref rg), some (.int (d : Int)), some (.tup (il l)), some (.tup (il r)), none, none, none, none, none, none, none, none, none] st = .ret (.ref st.length, st ++ .lst true (its (List.range d)) :: g) :=
  ev_items d7 rfl rfl
def rest2 : ISs := match b_law_check with
  | .cons _ (.cons _ t) => t
  | _ => .nil
def rest14 : ISs := match rest2 with
  | .cons _ (.cons _ (.cons _ (.cons _ (.cons _ (.cons _ (.cons _ (.cons _ (.cons _ (.cons _ (.cons _ t)))))))))) => t
  | _ => .nil
theorem consE {C : Cfg} {s : IS} {ss : ISs} {env env' : Evr} {st st' : Store} {b : Nat} {P : Nat → ((Fl × Evr) × Store) → Prop} (h : ex C s env st = .ret ((.next, env'), st')) (h2 : Tri (exs C ss env' st') b P NX) : Tri (exs C (.cons s ss) env st) b P NX := by
  rw [exs_cons h]
  exact h2
theorem iteE {C : Cfg} {c : IE} {p : ISs} {env : Evr} {st st1 : Store} (h : ev C c env st = .ret (.bl false, st1)) : ex C (.ite c p .nil) env st = .ret ((.next, env), st1) := (ex_iteF h).trans rfl
/-- the middle of the check: nothing is drawn -/
theorem check_mid {d rg : Nat} {l r : List Nat} {Z : DI.T ((Fl × Evr) × Store) → Prop} (G1 : Good d l) (G2 : Good d r)
    (fin : ∀ S n nf t, Gr st S → S[n]? = some (.lst true (its (List.range d))) → ordN l (List.range d) 40 1 (movN l (List.range d)) = some t → ∀ x6 x8 got, Z (exs (cfg T.F (k + 1 + 1 + 1)) rest14 [some (.ref rg), some (.int (d : Int)), some (.tup (il l)), some (.tup (il r)), some (.ref n), some (.str (txt l r)), x6, some got, x8, some (.int (t : Int)), some (.ref nf), none, none] S)) :
    Z (exs (cfg T.F (k + 1 + 1 + 1)) rest2 [some (.ref rg), some (.int (d : Int)), some (.tup (il l)), some (.tup (il r)), none, none, none, none, none, none, none, none, none] st) := by
  have d7 := G1.d7
  have hR : ∀ x ∈ List.range d, x < 7 := fun x hx => by have := List.mem_range.mp hx; omega
  have hRl : (List.range d).length = d := List.length_range
  have hRd : ∀ x ∈ List.range d, x < d := fun x hx => List.mem_range.mp hx
  have lt7 : ∀ {L : List Nat}, (∀ x ∈ L, x < d) → ∀ x ∈ L, x < 7 := fun h x hx => by have := h x hx; omega
  have mvl : ∀ {q L : List Nat}, (∀ x ∈ L, x < d) → ∀ x ∈ movN q L, x < d := by
    intro q L h
    cases d with
    | zero =>
      have : L = [] := by
        cases L with
        | nil => rfl
        | cons a t => exact absurd (h a List.mem_cons_self) (Nat.not_lt_zero _)
      subst this
      intro x hx
      have hl0 : movN q [] = [] := List.length_eq_zero_iff.mp (movN_length [])
      rw [hl0] at hx
      cases hx
    | succ d => exact movN_lt h (Nat.succ_pos _)
  have clen : (compL l r).length = d := by unfold compL; rw [List.length_map]; exact G1.len
  have clt : ∀ x ∈ compL l r, x < d := by
    intro x hx
    obtain ⟨p, hp, rfl⟩ := List.mem_map.mp hx
    exact G2.lt _ (List.mem_of_getElem? (getD_get (by rw [G2.len]; exact G1.lt p hp)))
  -- the items, the text
  have ee := items3 (k := k) (st := st) (rg := rg) (l := l) (r := r) d7
  cases ee with | intro g3 e3 =>
  have hn3 := mid_get st (.lst true (its (List.range d))) g3
  unfold rest2 b_law_check
  dsimp only
  have h3 := par2 (i := 4) (j := 5) (env' := [some (.ref rg), some (.int (d : Int)), some (.tup (il l)), some (.tup (il r)), some (.ref st.length), some (.str (txt l r)), none, none, none, none, none, none, none]) e3 ((ev_blt (evs_cons (ev_lst (evs_cons (ev_var (i := 2) rfl) (evs_cons (ev_var (i := 3) rfl) evs_nil)) (by show 2 ≤ 1000; decide)) evs_nil)).trans (repr_two (last_get _ _) G1 G2)) rfl
  rw [exs_cons h3]
  obtain ⟨S3, hS3⟩ : ∃ S : Store, S = st ++ .lst true (its (List.range d)) :: g3 ++ [SO.lst true [.tup (il l), .tup (il r)]] := ⟨_, rfl⟩
  have r3 : Gr st S3 := ⟨_, by rw [hS3, List.append_assoc]⟩
  have n3 : S3[st.length]? = some (.lst true (its (List.range d))) := by rw [hS3]; exact app_get hn3 _
  rw [← hS3]
  clear hS3 h3 e3
  -- got
  cases comp_run (k := k + 1 + 1) (st := S3) (A := .tup (il l)) (B := .tup (il r)) rfl rfl d7 G1.len G2.len G1.lt with | intro g4 e4 =>
  have h4 : ex (cfg T.F (k + 1 + 1 + 1)) (.set 7 (.call "compose" (.cons (.var 2) (.cons (.var 3) .nil)))) [some (.ref rg), some (.int (d : Int)), some (.tup (il l)), some (.tup (il r)), some (.ref st.length), some (.str (txt l r)), none, none, none, none, none, none, none] S3 = .ret ((.next, [some (.ref rg), some (.int (d : Int)), some (.tup (il l)), some (.tup (il r)), some (.ref st.length), some (.str (txt l r)), none, some (.tup (il (compL l r))), none, none, none, none, none]), S3 ++ g4) := ex_set ((ev_call (evs_cons (ev_var rfl) (evs_cons (ev_var rfl) evs_nil))).trans e4)
  rw [exs_cons h4]
  have n4 := app_get n3 g4
  have r4 := r3.trans (Gr.add S3 g4)
  obtain ⟨S4, hS4⟩ : ∃ S : Store, S = S3 ++ g4 := ⟨_, rfl⟩
  rw [← hS4] at n4 r4 ⊢
  clear h4 e4
  -- the composition's test
  have hcomp := compose_ok G1.len G2.len G1.nd G2.nd G1.lt G2.lt G1.onto G2.onto
  have m1 := ev_mv (k := k + 1 + 1) (d := d) (b' := .cnon) (a := .var 4) (b := .var 7) (env := [some (.ref rg), some (.int (d : Int)), some (.tup (il l)), some (.tup (il r)), some (.ref st.length), some (.str (txt l r)), none, some (.tup (il (compL l r))), none, none, none, none, none]) (st := S4) (st1 := S4) (st2 := S4) (n := st.length) (ps := compL l r) (L := (List.range d)) (ev_var rfl) (ev_var rfl) n4 clen hRl clt
  have m2 := ev_mv (k := k + 1 + 1) (d := d) (b' := .cnon) (a := .var 4) (b := .var 2) (env := [some (.ref rg), some (.int (d : Int)), some (.tup (il l)), some (.tup (il r)), some (.ref st.length), some (.str (txt l r)), none, some (.tup (il (compL l r))), none, none, none, none, none]) (st := S4 ++ [SO.lst true (its (movN (compL l r) (List.range d)))]) (st1 := S4 ++ [SO.lst true (its (movN (compL l r) (List.range d)))]) (st2 := S4 ++ [SO.lst true (its (movN (compL l r) (List.range d)))]) (n := st.length) (ps := l) (L := (List.range d)) (ev_var rfl) (ev_var rfl) (app_get n4 _) G1.len hRl G1.lt
  have m3 := ev_mv (k := k + 1 + 1) (d := d) (b' := .cnon) (b := .var 3) (ps := r) (L := movN l (List.range d)) m2 (ev_var rfl) (last_get _ _) G2.len (by rw [movN_length, hRl]) G2.lt
  have m4 := ev_cmp m1 m3 ((ne_its (app_get (app_get (last_get _ _) _) _) (last_get _ _) (lt7 (mvl hRd)) (lt7 (mvl (mvl hRd)))).trans (by rw [decide_eq_true hcomp, Bool.not_true]))
  have m5 : ev (cfg T.F (k + 1 + 1 + 1)) (.not (.isi (.var 7) ["tuple"])) [some (.ref rg), some (.int (d : Int)), some (.tup (il l)), some (.tup (il r)), some (.ref st.length), some (.str (txt l r)), none, some (.tup (il (compL l r))), none, none, none, none, none] (S4 ++ [SO.lst true (its (movN (compL l r) (List.range d)))] ++ [SO.lst true (its (movN l (List.range d)))] ++ [SO.lst true (its (movN r (movN l (List.range d))))]) = .ret (.bl false, S4 ++ [SO.lst true (its (movN (compL l r) (List.range d)))] ++ [SO.lst true (its (movN l (List.range d)))] ++ [SO.lst true (its (movN r (movN l (List.range d))))]) := ev_not (ev_isi (t := "tuple") (ev_var rfl) rfl)
  rw [exs_cons (iteE ((ev_orF m4).trans m5))]
  obtain ⟨S5, hS5⟩ : ∃ S : Store, S = S4 ++ [SO.lst true (its (movN (compL l r) (List.range d)))] ++ [SO.lst true (its (movN l (List.range d)))] ++ [SO.lst true (its (movN r (movN l (List.range d))))] := ⟨_, rfl⟩
  have n5 : S5[st.length]? = some (.lst true (its (List.range d))) := by rw [hS5]; exact app_get (app_get (app_get n4 _) _) _
  have r5 : Gr st S5 := r4.trans ⟨_, by rw [hS5, List.append_assoc, List.append_assoc]⟩
  rw [← hS5]
  clear m1 m2 m3 m4 m5
  -- named
  have w1 : evs (cfg T.F (k + 1 + 1 + 1)) (.cons (.blt .list (.cons (.var 3) .nil)) (.cons (.blt .list (.cons (.var 2) .nil)) .nil)) [some (.ref rg), some (.int (d : Int)), some (.tup (il l)), some (.tup (il r)), some (.ref st.length), some (.str (txt l r)), none, some (.tup (il (compL l r))), none, none, none, none, none] S5 = .ret ([.ref S5.length, .ref (S5 ++ [SO.lst true (il r)]).length], S5 ++ [SO.lst true (il r)] ++ [SO.lst true (il l)]) :=
    evs_cons ((ev_blt (evs_cons (ev_var rfl) evs_nil)).trans (list_items rfl)) (evs_cons ((ev_blt (evs_cons (ev_var rfl) evs_nil)).trans (list_items rfl)) evs_nil)
  cases comp_run (k := k + 1 + 1) (st := S5 ++ [SO.lst true (il r)] ++ [SO.lst true (il l)]) (A := .ref (S5 ++ [SO.lst true (il r)]).length) (B := .ref S5.length) (items_mid (S5 ++ [SO.lst true (il r)]) (il l) []) (items_app (items_mid S5 (il r) []) _) d7 G1.len G2.len G1.lt with | intro g6 e6 =>
  have c1 : ev (cfg T.F (k + 1 + 1 + 1)) (.callK "compose" .nil ["second", "first"] (.cons (.blt .list (.cons (.var 3) .nil)) (.cons (.blt .list (.cons (.var 2) .nil)) .nil))) [some (.ref rg), some (.int (d : Int)), some (.tup (il l)), some (.tup (il r)), some (.ref st.length), some (.str (txt l r)), none, some (.tup (il (compL l r))), none, none, none, none, none] S5 = .ret (.tup (il (compL l r)), S5 ++ [SO.lst true (il r)] ++ [SO.lst true (il l)] ++ g6) := (callK_ok w1 (o := [1, 0]) (by show kordT T.F "compose" 0 ["second", "first"] = some [1, 0]; decide +kernel) rfl).trans e6
  obtain ⟨S6a, hS6a⟩ : ∃ S : Store, S = S5 ++ [SO.lst true (il r)] ++ [SO.lst true (il l)] ++ g6 := ⟨_, rfl⟩
  have r6a : Gr S5 S6a := ⟨_, by rw [hS6a, List.append_assoc, List.append_assoc]⟩
  rw [← hS6a] at c1
  have w2 : evs (cfg T.F (k + 1 + 1 + 1)) (.cons (.blt .list (.cons (.var 2) .nil)) .nil) [some (.ref rg), some (.int (d : Int)), some (.tup (il l)), some (.tup (il r)), some (.ref st.length), some (.str (txt l r)), none, some (.tup (il (compL l r))), none, none, none, none, none] S6a = .ret ([.ref S6a.length], S6a ++ [SO.lst true (il l)]) := evs_cons ((ev_blt (evs_cons (ev_var rfl) evs_nil)).trans (list_items rfl)) evs_nil
  cases inv_run (k := k + 1 + 1) (st := S6a ++ [SO.lst true (il l)]) (A := .ref S6a.length) (items_mid S6a (il l) []) G1 with | intro g7 e7 =>
  have c2 : ev (cfg T.F (k + 1 + 1 + 1)) (.callK "inverse" .nil ["permutation"] (.cons (.blt .list (.cons (.var 2) .nil)) .nil)) [some (.ref rg), some (.int (d : Int)), some (.tup (il l)), some (.tup (il r)), some (.ref st.length), some (.str (txt l r)), none, some (.tup (il (compL l r))), none, none, none, none, none] S6a = .ret (.tup (il (invN l)), S6a ++ [SO.lst true (il l)] ++ g7) := (callK_ok w2 (o := [0]) (by show kordT T.F "inverse" 0 ["permutation"] = some [0]; decide +kernel) rfl).trans e7
  have h6 : ex (cfg T.F (k + 1 + 1 + 1)) (.set 8 (.lst (.cons (.callK "compose" .nil ["second", "first"] (.cons (.blt .list (.cons (.var 3) .nil)) (.cons (.blt .list (.cons (.var 2) .nil)) .nil))) (.cons (.callK "inverse" .nil ["permutation"] (.cons (.blt .list (.cons (.var 2) .nil)) .nil)) .nil)))) [some (.ref rg), some (.int (d : Int)), some (.tup (il l)), some (.tup (il r)), some (.ref st.length), some (.str (txt l r)), none, some (.tup (il (compL l r))), none, none, none, none, none] S5 = .ret ((.next, [some (.ref rg), some (.int (d : Int)), some (.tup (il l)), some (.tup (il r)), some (.ref st.length), some (.str (txt l r)), none, some (.tup (il (compL l r))), some (.ref (S6a ++ [SO.lst true (il l)] ++ g7).length), none, none, none, none]), S6a ++ [SO.lst true (il l)] ++ g7 ++ [SO.lst true [.tup (il (compL l r)), .tup (il (invN l))]]) :=
    ex_set (ev_lst (evs_cons c1 (evs_cons c2 evs_nil)) (by show 2 ≤ 1000; decide))
  rw [exs_cons h6]
  have n8 := last_get (S6a ++ [SO.lst true (il l)] ++ g7) (.lst true [.tup (il (compL l r)), .tup (il (invN l))])
  obtain ⟨n8n, hn8n⟩ : ∃ n : Nat, n = (S6a ++ [SO.lst true (il l)] ++ g7).length := ⟨_, rfl⟩
  rw [← hn8n] at n8 h6 ⊢
  obtain ⟨S6, hS6⟩ : ∃ S : Store, S = S6a ++ [SO.lst true (il l)] ++ g7 ++ [SO.lst true [.tup (il (compL l r)), .tup (il (invN l))]] := ⟨_, rfl⟩
  have r6 : Gr S5 S6 := r6a.trans ⟨_, by rw [hS6, List.append_assoc, List.append_assoc]⟩
  rw [← hS6] at n8 ⊢
  have n6 := r6.get n5
  clear h6 c1 c2 w1 w2 e6 e7
  -- the same as named
  cases inv_run (k := k + 1 + 1) (st := S6) (A := .tup (il l)) rfl G1 with | intro g7 e7 =>
  have c3 : ev (cfg T.F (k + 1 + 1 + 1)) (.lst (.cons (.var 7) (.cons (.call "inverse" (.cons (.var 2) .nil)) .nil))) [some (.ref rg), some (.int (d : Int)), some (.tup (il l)), some (.tup (il r)), some (.ref st.length), some (.str (txt l r)), none, some (.tup (il (compL l r))), some (.ref n8n), none, none, none, none] S6 = .ret (.ref (S6 ++ g7).length, S6 ++ g7 ++ [SO.lst true [.tup (il (compL l r)), .tup (il (invN l))]]) :=
    ev_lst (evs_cons (ev_var rfl) (evs_cons ((ev_call (evs_cons (ev_var rfl) evs_nil)).trans e7) evs_nil)) (by show 2 ≤ 1000; decide)
  cases same_two (k := k + 1) (n := n8n) (m := (S6 ++ g7).length) (st := S6 ++ g7 ++ [SO.lst true [.tup (il (compL l r)), .tup (il (invN l))]]) (app_get (app_get n8 _) _) (last_get _ _) (same_ints (k := k) (by omega)) (same_ints (k := k) (by rw [G1.ilen]; omega)) with | intro g8 e8 =>
  have h7 : ev (cfg T.F (k + 1 + 1 + 1)) (.call "_law_same" (.cons (.var 8) (.cons (.lst (.cons (.var 7) (.cons (.call "inverse" (.cons (.var 2) .nil)) .nil))) .nil))) [some (.ref rg), some (.int (d : Int)), some (.tup (il l)), some (.tup (il r)), some (.ref st.length), some (.str (txt l r)), none, some (.tup (il (compL l r))), some (.ref n8n), none, none, none, none] S6 = .ret (.bl true, S6 ++ g7 ++ [SO.lst true [.tup (il (compL l r)), .tup (il (invN l))]] ++ g8) := (ev_call (evs_cons (ev_var rfl) (evs_cons c3 evs_nil))).trans e8
  rw [exs_cons (iteE (ev_not h7))]
  obtain ⟨S7, hS7⟩ : ∃ S : Store, S = S6 ++ g7 ++ [SO.lst true [.tup (il (compL l r)), .tup (il (invN l))]] ++ g8 := ⟨_, rfl⟩
  have r7 : Gr S6 S7 := ⟨_, by rw [hS7, List.append_assoc, List.append_assoc]⟩
  rw [← hS7]
  have n7 := r7.get n6
  clear h7 c3 e7 e8
  -- back by the inverse
  have m1 := ev_mv (k := k + 1 + 1) (d := d) (b' := .cnon) (a := .var 4) (b := .var 2) (env := [some (.ref rg), some (.int (d : Int)), some (.tup (il l)), some (.tup (il r)), some (.ref st.length), some (.str (txt l r)), none, some (.tup (il (compL l r))), some (.ref n8n), none, none, none, none]) (st := S7) (st1 := S7) (st2 := S7) (n := st.length) (ps := l) (L := (List.range d)) (ev_var rfl) (ev_var rfl) n7 G1.len hRl G1.lt
  cases inv_run (k := k + 1 + 1) (st := S7 ++ [SO.lst true (its (movN l (List.range d)))]) (A := .tup (il l)) rfl G1 with | intro g9 e9 =>
  have m2 := ev_mv (k := k + 1 + 1) (d := d) (b' := .cnon) (b := .call "inverse" (.cons (.var 2) .nil)) (ps := invN l) (L := movN l (List.range d)) m1 ((ev_call (evs_cons (ev_var rfl) evs_nil)).trans e9) (app_get (last_get _ _) g9) G1.ilen (by rw [movN_length, hRl]) G1.ilt
  have m3 := ev_cmp m2 (ev_var (i := 4) rfl) ((ne_its (last_get _ _) (app_get (app_get (app_get n7 _) _) _) (lt7 (mvl (mvl hRd))) hR).trans (by rw [decide_eq_true G1.inv, Bool.not_true]))
  rw [exs_cons (iteE m3)]
  obtain ⟨S8, hS8⟩ : ∃ S : Store, S = S7 ++ [SO.lst true (its (movN l (List.range d)))] ++ g9 ++ [SO.lst true (its (movN (invN l) (movN l (List.range d))))] := ⟨_, rfl⟩
  have r8 : Gr S7 S8 := ⟨_, by rw [hS8, List.append_assoc, List.append_assoc]⟩
  rw [← hS8]
  clear m1 m2 m3 e9
  -- the identity
  have si := same_ints (k := k + 1) (st := S8) (l := (List.range d)) (by omega) []
  rw [List.append_nil] at si
  cases si with | intro g10 e10 =>
  have cc : ∀ S : Store, ev (cfg T.F (k + 1 + 1 + 1)) (.call "identity" (.cons (.var 1) .nil)) [some (.ref rg), some (.int (d : Int)), some (.tup (il l)), some (.tup (il r)), some (.ref st.length), some (.str (txt l r)), none, some (.tup (il (compL l r))), some (.ref n8n), none, none, none, none] S = .ret (.tup (il (List.range d)), S) := fun S => (ev_call (evs_cons (ev_var rfl) evs_nil)).trans (id_run (k := k + 1 + 1) d7)
  have cd : ev (cfg T.F (k + 1 + 1 + 1)) (.tr (.var 1)) [some (.ref rg), some (.int (d : Int)), some (.tup (il l)), some (.tup (il r)), some (.ref st.length), some (.str (txt l r)), none, some (.tup (il (compL l r))), some (.ref n8n), none, none, none, none] S8 = .ret (.tup (il (List.range d)), S8) := ev_tr (d := d) (ev_var rfl) (by omega)
  have h9 := ev_call (f := "_law_same") (evs_cons (cc S8) (evs_cons cd evs_nil))
  rw [show (cfg T.F (k + 1 + 1 + 1)).call = DI.run T.F (k + 1 + 1 + 1) from rfl, e10] at h9
  rw [exs_cons (iteE (ev_not h9))]
  obtain ⟨S9, hS9⟩ : ∃ S : Store, S = S8 ++ g10 := ⟨_, rfl⟩
  have r9 : Gr S8 S9 := ⟨_, hS9⟩
  rw [← hS9]
  clear h9 e10 cd
  -- the identity, by name; the composition with the inverse
  cases inv_run (k := k + 1 + 1) (st := S9) (A := .tup (il l)) rfl G1 with | intro g11 e11 =>
  cases comp_run (k := k + 1 + 1) (st := S9 ++ g11) (A := .tup (il l)) (B := .tup (il (invN l))) rfl rfl d7 G1.len G1.ilen G1.lt with | intro g12 e12 =>
  rw [G1.cinv] at e12
  have ca : ev (cfg T.F (k + 1 + 1 + 1)) (.callK "identity" .nil ["size"] (.cons (.var 1) .nil)) [some (.ref rg), some (.int (d : Int)), some (.tup (il l)), some (.tup (il r)), some (.ref st.length), some (.str (txt l r)), none, some (.tup (il (compL l r))), some (.ref n8n), none, none, none, none] S9 = .ret (.tup (il (List.range d)), S9) := (callK_ok (ys := [.int (d : Int)]) (zs := [.int (d : Int)]) (evs_cons (ev_var rfl) evs_nil) (o := [0]) (by show kordT T.F "identity" 0 ["size"] = some [0]; decide +kernel) rfl).trans (id_run (k := k + 1 + 1) d7)
  have cb0 : ev (cfg T.F (k + 1 + 1 + 1)) (.call "inverse" (.cons (.var 2) .nil)) [some (.ref rg), some (.int (d : Int)), some (.tup (il l)), some (.tup (il r)), some (.ref st.length), some (.str (txt l r)), none, some (.tup (il (compL l r))), some (.ref n8n), none, none, none, none] S9 = .ret (.tup (il (invN l)), S9 ++ g11) := (ev_call (evs_cons (ev_var rfl) evs_nil)).trans e11
  have cb : ev (cfg T.F (k + 1 + 1 + 1)) (.call "compose" (.cons (.var 2) (.cons (.call "inverse" (.cons (.var 2) .nil)) .nil))) [some (.ref rg), some (.int (d : Int)), some (.tup (il l)), some (.tup (il r)), some (.ref st.length), some (.str (txt l r)), none, some (.tup (il (compL l r))), some (.ref n8n), none, none, none, none] S9 = .ret (.tup (il (List.range d)), S9 ++ g11 ++ g12) := (ev_call (evs_cons (ev_var rfl) (evs_cons cb0 evs_nil))).trans e12
  have c4 := ev_lst (evs_cons ca (evs_cons cb evs_nil)) (by show 2 ≤ 1000; decide)
  have c5 := ev_lst (evs_cons (cc (S9 ++ g11 ++ g12 ++ [SO.lst true [.tup (il (List.range d)), .tup (il (List.range d))]])) (evs_cons (cc _) evs_nil)) (by show 2 ≤ 1000; decide)
  cases same_two (k := k + 1) (n := (S9 ++ g11 ++ g12).length) (m := (S9 ++ g11 ++ g12 ++ [SO.lst true [.tup (il (List.range d)), .tup (il (List.range d))]]).length) (st := S9 ++ g11 ++ g12 ++ [SO.lst true [.tup (il (List.range d)), .tup (il (List.range d))]] ++ [SO.lst true [.tup (il (List.range d)), .tup (il (List.range d))]]) (app_get (last_get _ _) _) (last_get _ _) (same_ints (k := k) (by omega)) (same_ints (k := k) (by omega)) with | intro g13 e13 =>
  have c6 := (ev_call (f := "_law_same") (evs_cons c4 (evs_cons c5 evs_nil))).trans e13
  have h10 := iteE (p := .cons (.ret (.cbl false)) .nil) (ev_not c6)
  rw [exs_cons h10]
  obtain ⟨S10, hS10⟩ : ∃ S : Store, S = S9 ++ g11 ++ g12 ++ [SO.lst true [.tup (il (List.range d)), .tup (il (List.range d))]] ++ [SO.lst true [.tup (il (List.range d)), .tup (il (List.range d))]] ++ g13 := ⟨_, rfl⟩
  have r10 : Gr S9 S10 := ⟨_, by rw [hS10, List.append_assoc, List.append_assoc, List.append_assoc, List.append_assoc]⟩
  rw [← hS10]
  clear h10 c6 c4 c5 ca cb0 cb e11 e12 e13
  have n10 := (r8.trans (r9.trans r10)).get n7
  -- the order, by moving
  have m1 := ev_mv (k := k + 1 + 1) (d := d) (b' := .cnon) (a := .var 4) (b := .var 2) (env := [some (.ref rg), some (.int (d : Int)), some (.tup (il l)), some (.tup (il r)), some (.ref st.length), some (.str (txt l r)), none, some (.tup (il (compL l r))), some (.ref n8n), none, none, none, none]) (st := S10) (st1 := S10) (st2 := S10) (n := st.length) (ps := l) (L := (List.range d)) (ev_var rfl) (ev_var rfl) n10 G1.len hRl G1.lt
  have h11 := par2 (a := .cint 1) (i := 9) (j := 10) (env' := [some (.ref rg), some (.int (d : Int)), some (.tup (il l)), some (.tup (il r)), some (.ref st.length), some (.str (txt l r)), none, some (.tup (il (compL l r))), some (.ref n8n), some (.int ((1 : Nat) : Int)), some (.ref S10.length), none, none]) (x := .int ((1 : Nat) : Int)) rfl m1 rfl
  rw [exs_cons h11]
  clear h11 m1
  obtain ⟨t, t1, t2, t3, t4, t5, t6⟩ := G1.ord
  cases ord_loop (k := k + 1 + 1) (rg := rg) (x1 := .int (d : Int)) (x3 := .tup (il r)) (x5 := some (.str (txt l r))) (x6 := none) (x7 := some (.tup (il (compL l r)))) (x8 := some (.ref n8n)) (x11 := none) (x12 := none) G1 n10 40 1 turns (movN l (List.range d)) t S10.length [SO.lst true (its (movN l (List.range d)))] t1 (by decide) (by rw [movN_length, hRl]) (mvl hRd) (last_get _ _) with | intro nf' q =>
  cases q with | intro g14 e14 =>
  rw [exs_cons (ex_while.trans e14)]
  obtain ⟨S12, hS12⟩ : ∃ S : Store, S = S10 ++ g14 := ⟨_, rfl⟩
  have r12 : Gr S10 S12 := ⟨_, hS12⟩
  rw [← hS12]
  clear e14
  have n12 := r12.get n10
  have r12b : Gr st S12 := r5.trans (r6.trans (r7.trans (r8.trans (r9.trans (r10.trans r12)))))
  -- the order
  have ll : l.length = d := G1.len
  have ht : lcms l (List.range l.length) 1 = some t := by rw [ll]; exact t2
  cases sp_order (k := k + 1) (st := S12) (A := .tup (il l)) (ps := l) rfl (by omega) (fun p hp => by rw [ll]; exact G1.lt p hp) ht with | intro g15 e15 =>
  have ca : ev (cfg T.F (k + 1 + 1 + 1)) (.call "order" (.cons (.var 2) .nil)) [some (.ref rg), some (.int (d : Int)), some (.tup (il l)), some (.tup (il r)), some (.ref st.length), some (.str (txt l r)), none, some (.tup (il (compL l r))), some (.ref n8n), some (.int (t : Int)), some (.ref nf'), none, none] S12 = .ret (.int (t : Int), S12 ++ g15) := by
    rw [ev_call (st1 := S12) (xs := [.tup (il l)]) (evs_cons (ev_var rfl) evs_nil), show (cfg T.F (k + 1 + 1 + 1)).call = DI.run T.F (k + 1 + 1 + 1) from rfl, e15]
  cases sp_order (k := k + 1) (st := S12 ++ g15 ++ [SO.lst true (il l)]) (A := .ref (S12 ++ g15).length) (ps := l) (items_mid (S12 ++ g15) (il l) []) (by omega) (fun p hp => by rw [ll]; exact G1.lt p hp) ht with | intro g16 e16 =>
  have w3 : evs (cfg T.F (k + 1 + 1 + 1)) (.cons (.blt .list (.cons (.var 2) .nil)) .nil) [some (.ref rg), some (.int (d : Int)), some (.tup (il l)), some (.tup (il r)), some (.ref st.length), some (.str (txt l r)), none, some (.tup (il (compL l r))), some (.ref n8n), some (.int (t : Int)), some (.ref nf'), none, none] (S12 ++ g15) = .ret ([.ref (S12 ++ g15).length], S12 ++ g15 ++ [SO.lst true (il l)]) := evs_cons ((ev_blt (evs_cons (ev_var rfl) evs_nil)).trans (list_items rfl)) evs_nil
  have cb : ev (cfg T.F (k + 1 + 1 + 1)) (.callK "order" .nil ["permutation"] (.cons (.blt .list (.cons (.var 2) .nil)) .nil)) [some (.ref rg), some (.int (d : Int)), some (.tup (il l)), some (.tup (il r)), some (.ref st.length), some (.str (txt l r)), none, some (.tup (il (compL l r))), some (.ref n8n), some (.int (t : Int)), some (.ref nf'), none, none] (S12 ++ g15) = .ret (.int (t : Int), S12 ++ g15 ++ [SO.lst true (il l)] ++ g16) := by
    rw [callK_ok w3 (o := [0]) (zs := [.ref (S12 ++ g15).length]) (by show kordT T.F "order" 0 ["permutation"] = some [0]; decide +kernel) rfl, show (cfg T.F (k + 1 + 1 + 1)).call = DI.run T.F (k + 1 + 1 + 1) from rfl, e16]
  have c7 := ev_lst (evs_cons ca (evs_cons cb evs_nil)) (by show 2 ≤ 1000; decide)
  obtain ⟨SA, hSA⟩ : ∃ S : Store, S = S12 ++ g15 ++ [SO.lst true (il l)] ++ g16 := ⟨_, rfl⟩
  have rA : Gr S12 SA := ⟨_, by rw [hSA, List.append_assoc, List.append_assoc]⟩
  rw [← hSA] at c7
  have c8 : ev (cfg T.F (k + 1 + 1 + 1)) (.lst (.cons (.var 9) (.cons (.var 9) .nil))) [some (.ref rg), some (.int (d : Int)), some (.tup (il l)), some (.tup (il r)), some (.ref st.length), some (.str (txt l r)), none, some (.tup (il (compL l r))), some (.ref n8n), some (.int (t : Int)), some (.ref nf'), none, none] (SA ++ [SO.lst true [.int (t : Int), .int (t : Int)]]) = .ret (.ref (SA ++ [SO.lst true [.int (t : Int), .int (t : Int)]]).length, SA ++ [SO.lst true [.int (t : Int), .int (t : Int)]] ++ [SO.lst true [.int (t : Int), .int (t : Int)]]) := ev_lst (evs_cons (ev_var rfl) (evs_cons (ev_var rfl) evs_nil)) (by show 2 ≤ 1000; decide)
  cases same_two (k := k + 1) (n := SA.length) (m := (SA ++ [SO.lst true [.int (t : Int), .int (t : Int)]]).length) (x := .int (t : Int)) (y := .int (t : Int)) (st := SA ++ [SO.lst true [.int (t : Int), .int (t : Int)]] ++ [SO.lst true [.int (t : Int), .int (t : Int)]]) (app_get (last_get _ _) _) (last_get _ _) (fun g => ⟨[], by rw [same_int, List.append_nil]⟩) (fun g => ⟨[], by rw [same_int, List.append_nil]⟩) with | intro g17 e17 =>
  have h13 := ev_call (f := "_law_same") (evs_cons c7 (evs_cons c8 evs_nil))
  rw [show (cfg T.F (k + 1 + 1 + 1)).call = DI.run T.F (k + 1 + 1 + 1) from rfl, e17] at h13
  rw [exs_cons (iteE (ev_not h13))]
  have rB : Gr SA (SA ++ [SO.lst true [.int (t : Int), .int (t : Int)]] ++ [SO.lst true [.int (t : Int), .int (t : Int)]] ++ g17) := ⟨_, by rw [List.append_assoc, List.append_assoc]⟩
  exact fin _ st.length nf' t (r12b.trans (rA.trans rB)) (rB.get (rA.get n12)) t1 none _ _
end LawK02
end
section
namespace LawK02
open PySem L2 PySem.Spec DI
open PyProof.Rows hiding St
variable {k : Nat} {st : Store} {A B : D} {ps qs : List Nat}
abbrev envL (rg d n nf t : Nat) (l r : List Nat) (x6 : Option D) (x7 : Option D) (x8 x11 x12 : Option D) : Evr := [some (.ref rg), some (.int (d : Int)), some (.tup (il l)), some (.tup (il r)), some (.ref n), some (.str (txt l r)), x6, x7, x8, some (.int (t : Int)), some (.ref nf), x11, x12]
def bodyL : ISs := match rest14 with
  | .cons (.for _ _ b) _ => b
  | _ => .nil
theorem ev_modN {C : Cfg} {a b : IE} {env : Evr} {st1 st2 : Store} {e : Int} {t : Nat} (ht : 0 < t) (h1 : ev C a env st = .ret (.int e, st1)) (h2 : ev C b env st1 = .ret (.int (t : Int), st2)) : ev C (.bin .Mod a b) env st = .ret (.int (((e.fmod (t : Int)).toNat : Nat) : Int), st2) := by
  have f := fmod_in (i := e) (j := (t : Int)) (by omega)
  rw [ev_bin h1 h2]
  show mif (decide ((t : Int) ≠ 0)) (mret (D.int (e.fmod (t : Int)))) st2 = _
  rw [decide_eq_true (show (t : Int) ≠ 0 by omega), show (((e.fmod (t : Int)).toNat : Nat) : Int) = e.fmod (t : Int) by omega]
  rfl
/-- one exponent -/
theorem body_ok {rg d n nf t : Nat} {l r : List Nat} {x6 x7 x8 x12 : Option D} {e : Int} (G1 : Good d l) (hn : st[n]? = some (.lst true (its (List.range d)))) (ht : ordN l (List.range d) 40 1 (movN l (List.range d)) = some t) :
    ∃ S x7' x12', Gr st S ∧ exs (cfg T.F (k + 1 + 1 + 1)) bodyL (envL rg d n nf t l r x6 x7 x8 (some (.int e)) x12) st = .ret ((.next, envL rg d n nf t l r x6 x7' x8 (some (.int e)) x12'), S) := by
  have d7 := G1.d7
  have ll := G1.len
  have hRl : (List.range d).length = d := List.length_range
  have hRd : ∀ x ∈ List.range d, x < d := fun x hx => List.mem_range.mp hx
  obtain ⟨t', t1, t2, t3, t4, t5, t6⟩ := G1.ord
  rw [ht] at t1
  cases t1
  have f := fmod_in (i := e) (j := (t : Int)) (by omega)
  obtain ⟨m, hm⟩ : ∃ m : Nat, m = (e.fmod (t : Int)).toNat := ⟨_, rfl⟩
  have hmt : m < t := by omega
  obtain ⟨out, o1, o2, o3, o4⟩ := t5 m hmt
  have ho : pows l e (List.range l.length) [] = some out := by
    rw [ll, pows_mod t3 (List.range d) [] (fun s hs => t6 s (List.mem_range.mp hs)), ← hm]
    exact o1
  -- want
  cases sp_repeat (k := k + 1) (st := st) (A := .tup (il l)) (ps := l) (n := n) (m := m) (xs := its (List.range d)) hn rfl (by rw [its_length]; omega) (fun p hp => by rw [its_length, hRl]; exact G1.lt p hp) (by omega) with | intro g1 q1 =>
  cases q1 with | intro nw q1 =>
  obtain ⟨e1, hw⟩ := q1
  rw [mvs_its (by omega)] at hw
  have hmod : ev (cfg T.F (k + 1 + 1 + 1)) (.bin .Mod (.var 11) (.var 9)) (envL rg d n nf t l r x6 x7 x8 (some (.int e)) x12) st = .ret (.int (m : Int), st) := by
    rw [hm]
    exact ev_modN t3 (ev_var (i := 11) rfl) (ev_var (i := 9) rfl)
  have c1 : ev (cfg T.F (k + 1 + 1 + 1)) (.call "_law_repeat" (.cons (.var 4) (.cons (.var 2) (.cons (.bin .Mod (.var 11) (.var 9)) .nil)))) (envL rg d n nf t l r x6 x7 x8 (some (.int e)) x12) st = .ret (.ref nw, st ++ g1) := by
    rw [ev_call (st1 := st) (xs := [.ref n, .tup (il l), .int (m : Int)]) (evs_cons (ev_var rfl) (evs_cons (ev_var rfl) (evs_cons hmod evs_nil))), show (cfg T.F (k + 1 + 1 + 1)).call = DI.run T.F (k + 1 + 1 + 1) from rfl, e1]
  -- got
  cases sp_power (k := k + 1) (st := st ++ g1) (A := .tup (il l)) (ps := l) (e := e) (out := out) rfl (by omega) (fun p hp => by rw [ll]; exact G1.lt p hp) ho with | intro g2 e2 =>
  have c2 : ev (cfg T.F (k + 1 + 1 + 1)) (.call "power" (.cons (.var 2) (.cons (.var 11) .nil))) (envL rg d n nf t l r x6 x7 x8 (some (.int e)) (some (.ref nw))) (st ++ g1) = .ret (.tup (il out), st ++ g1 ++ g2) := by
    rw [ev_call (st1 := st ++ g1) (xs := [.tup (il l), .int e]) (evs_cons (ev_var rfl) (evs_cons (ev_var rfl) evs_nil)), show (cfg T.F (k + 1 + 1 + 1)).call = DI.run T.F (k + 1 + 1 + 1) from rfl, e2]
  -- the tests
  have n2 := app_get (app_get hn g1) g2
  have w2 := app_get hw g2
  have hd0 : 0 < d ∨ d = 0 := by omega
  have mlt : ∀ x ∈ movN out (List.range d), x < 7 := by
    rcases hd0 with z | z
    · intro x hx
      have := movN_lt hRd z x hx
      omega
    · subst z
      intro x hx
      have : movN out (List.range 0) = [] := List.length_eq_zero_iff.mp (movN_length _)
      rw [this] at hx
      cases hx
  have c3 := ev_mv (k := k + 1 + 1) (d := d) (b' := .cnon) (a := .var 4) (b := .var 7) (env := envL rg d n nf t l r x6 (some (.tup (il out))) x8 (some (.int e)) (some (.ref nw))) (st := st ++ g1 ++ g2) (st1 := st ++ g1 ++ g2) (st2 := st ++ g1 ++ g2) (n := n) (ps := out) (L := List.range d) (ev_var rfl) (ev_var rfl) n2 o3 hRl o4
  have c4 := ev_cmp c3 (ev_var (i := 12) rfl) ((ne_its (last_get _ _) (app_get w2 _) mlt (by rw [← o2]; exact mlt)).trans (by rw [decide_eq_true o2, Bool.not_true]))
  obtain ⟨S, hS⟩ : ∃ S : Store, S = st ++ g1 ++ g2 ++ [SO.lst true (its (movN out (List.range d)))] := ⟨_, rfl⟩
  rw [← hS] at c4
  have w3 : evs (cfg T.F (k + 1 + 1 + 1)) (.cons (.var 11) (.cons (.blt .list (.cons (.var 2) .nil)) .nil)) (envL rg d n nf t l r x6 (some (.tup (il out))) x8 (some (.int e)) (some (.ref nw))) S = .ret ([.int e, .ref S.length], S ++ [SO.lst true (il l)]) := evs_cons (ev_var rfl) (evs_cons ((ev_blt (evs_cons (ev_var rfl) evs_nil)).trans (list_items rfl)) evs_nil)
  cases sp_power (k := k + 1) (st := S ++ [SO.lst true (il l)]) (A := .ref S.length) (ps := l) (e := e) (out := out) (items_mid S (il l) []) (by omega) (fun p hp => by rw [ll]; exact G1.lt p hp) ho with | intro g3 e3 =>
  have c5 : ev (cfg T.F (k + 1 + 1 + 1)) (.callK "power" .nil ["exponent", "permutation"] (.cons (.var 11) (.cons (.blt .list (.cons (.var 2) .nil)) .nil))) (envL rg d n nf t l r x6 (some (.tup (il out))) x8 (some (.int e)) (some (.ref nw))) S = .ret (.tup (il out), S ++ [SO.lst true (il l)] ++ g3) := by
    rw [callK_ok w3 (o := [1, 0]) (zs := [.ref S.length, .int e]) (by show kordT T.F "power" 0 ["exponent", "permutation"] = some [1, 0]; decide +kernel) rfl, show (cfg T.F (k + 1 + 1 + 1)).call = DI.run T.F (k + 1 + 1 + 1) from rfl, e3]
  have si := same_ints (k := k + 1) (st := S ++ [SO.lst true (il l)] ++ g3) (l := out) (by omega) []
  rw [List.append_nil] at si
  cases si with | intro g4 e4 =>
  have c6 := ev_call (f := "_law_same") (evs_cons c5 (evs_cons (ev_var (i := 7) rfl) evs_nil))
  rw [show (cfg T.F (k + 1 + 1 + 1)).call = DI.run T.F (k + 1 + 1 + 1) from rfl, e4] at c6
  have c7 := iteE (p := .cons (.ret (.cbl false)) .nil) ((ev_orF c4).trans (ev_not c6))
  refine ⟨S ++ [SO.lst true (il l)] ++ g3 ++ g4, some (.tup (il out)), some (.ref nw), ⟨g1 ++ (g2 ++ ([SO.lst true (its (movN out (List.range d)))] ++ ([SO.lst true (il l)] ++ (g3 ++ g4)))), by rw [hS]; simp only [List.append_assoc]⟩, ?_⟩
  have h1 : ex (cfg T.F (k + 1 + 1 + 1)) (.set 12 (.call "_law_repeat" (.cons (.var 4) (.cons (.var 2) (.cons (.bin .Mod (.var 11) (.var 9)) .nil))))) (envL rg d n nf t l r x6 x7 x8 (some (.int e)) x12) st = .ret ((.next, envL rg d n nf t l r x6 x7 x8 (some (.int e)) (some (.ref nw))), st ++ g1) := ex_set c1
  have h2 : ex (cfg T.F (k + 1 + 1 + 1)) (.set 7 (.call "power" (.cons (.var 2) (.cons (.var 11) .nil)))) (envL rg d n nf t l r x6 x7 x8 (some (.int e)) (some (.ref nw))) (st ++ g1) = .ret ((.next, envL rg d n nf t l r x6 (some (.tup (il out))) x8 (some (.int e)) (some (.ref nw))), st ++ g1 ++ g2) := ex_set c2
  unfold bodyL rest14 rest2 b_law_check
  dsimp only
  rw [exs_cons h1, exs_cons h2, exs_cons c7]
  rfl
end LawK02
end
section
namespace LawK02
open PySem L2 PySem.Spec DI
open PyProof.Rows hiding St
variable {k : Nat} {st : Store} {A B : D} {ps qs : List Nat}
section
variable {C : Cfg} {env : Evr} {b : Nat}
theorem forT {P : Nat → ((Fl × Evr) × Store) → Prop} {tg : ITg} {it : IIt} {bd : ISs} (h : Tri (evIt C it env st) b (fun b' p => Tri (forLoop (exs C bd) tg p.1 (plLen p.1) 0 env p.2) b' P NX) NX) : Tri (ex C (.for tg it bd) env st) b P NX := by
  rw [ex, doE]
  exact tri_resc.mpr (tri_mono h (fun _ _ _ q => q) fun _ _ _ _ z => z.elim)
theorem evsT {P : Nat → (List D × Store) → Prop} {e : IE} {es : IEs} (h : Tri (ev C e env st) b (fun b' p => Tri (evs C es env p.2) b' (fun b'' q => P b'' (p.1 :: q.1, q.2)) NX) NX) : Tri (evs C (.cons e es) env st) b P NX := by
  rw [evs, mbind]
  exact tri_bind.mpr (tri_mono h (fun _ p _ q => tri_bind.mpr q) fun _ _ _ _ z => z)
theorem evsE {P : Nat → (List D × Store) → Prop} {e : IE} {es : IEs} {x : D} {st1 : Store} (h1 : ev C e env st = .ret (x, st1)) (h : Tri (evs C es env st1) b (fun b'' q => P b'' (x :: q.1, q.2)) NX) : Tri (evs C (.cons e es) env st) b P NX :=
  evsT (of_eqT h1 h)
theorem binT {P : Nat → (D × Store) → Prop} {op : Operator} {a c : IE} (h : Tri (ev C a env st) b (fun b' p => Tri (ev C c env p.2) b' (fun b'' q => Tri (binD op p.1 q.1 q.2) b'' P NX) NX) NX) : Tri (ev C (.bin op a c) env st) b P NX := by
  rw [ev, mbind]
  refine tri_bind.mpr (tri_mono h (fun _ p _ q => ?_) fun _ _ _ _ z => z)
  rw [mbind]
  exact tri_bind.mpr q
theorem parT {P : Nat → ((Fl × Evr) × Store) → Prop} {ts : List Nat} {es : IEs} (h : Tri (evs C es env st) b (fun b' p => ∃ env', setEnvs ts p.1 env = some env' ∧ P b' ((.next, env'), p.2)) NX) : Tri (ex C (.par ts es) env st) b P NX := by
  rw [ex, doE]
  refine tri_resc.mpr (tri_mono h (fun _ p _ q => ?_) fun _ _ _ _ z => z.elim)
  obtain ⟨env', h1, h2⟩ := q
  rw [h1]
  exact h2
theorem bltT {P : Nat → (D × Store) → Prop} {f : Blt} {es : IEs} (h : Tri (evs C es env st) b (fun b' p => Tri (bltD f p.1 p.2) b' P NX) NX) : Tri (ev C (.blt f es) env st) b P NX := by
  rw [ev, mbind]
  exact tri_bind.mpr h
theorem drawT {P : Nat → (D × Store) → Prop} {a c : IE} {rg : Nat} {n : Int} (hr : st[rg]? = some .rng) (h0 : 0 < n) (h1 : n < 1073741824) (ha : ev (cfg T.F (k + 1)) a env st = .ret (.ref rg, st)) (hc : ev (cfg T.F (k + 1)) c env st = .ret (.int n, st)) (hb : 0 < b) (h : ∀ v : Int, 0 ≤ v → v < n → P (b - 1) (.int v, st)) :
    Tri (ev (cfg T.F (k + 1)) (.call "_law_draw" (.cons a (.cons c .nil))) env st) b P NX := by
  rw [ev_call (evs_cons ha (evs_cons hc evs_nil)), show (cfg T.F (k + 1)).call = DI.run T.F (k + 1) from rfl, run_draw hr h0 h1]
  exact ⟨b - 1, by omega, fun v v0 v1 => h v v0 v1⟩
end
structure TriZ {β : Type} (t : DI.T β) (b : Nat) (P : Nat → β → Prop) : Prop where
  ok : Tri t b P NX
def CkQ (st : Store) (b0 : Nat) : Nat → (D × Store) → Prop := fun b' p => b0 ≤ b' + 60 ∧ p.1 = .bl true ∧ Gr st p.2
set_option maxHeartbeats 4000000 in
theorem ints6 {rg d n nf t b : Nat} {l r : List Nat} {x6 x7 x8 : Option D} (hr : st[rg]? = some .rng) (hb : 3 ≤ b) :
    Tri (evs (cfg T.F (k + 1)) (.cons (.cint 0) (.cons (.cint 1) (.cons (.var 9) (.cons (.bin .Mult (.call "_law_draw" (.cons (.var 0) (.cons (.bin .Pow (.cint 10) (.cint 6)) .nil))) (.call "_law_draw" (.cons (.var 0) (.cons (.bin .Pow (.cint 10) (.cint 6)) .nil)))) (.cons (.bin .Pow (.cint 10) (.cint 12)) (.cons (.bin .Sub (.cint 0) (.call "_law_draw" (.cons (.var 0) (.cons (.cint 99) .nil)))) .nil))))))
      (envL rg d n nf t l r x6 x7 x8 none none) st) b (fun b' p => b ≤ b' + 3 ∧ p.2 = st ∧ ∃ es : List Int, p.1 = es.map D.int ∧ es.length = 6) NX := by
  have p6 : ∀ st : Store, ev (cfg T.F (k + 1)) (.bin .Pow (.cint 10) (.cint 6)) (envL rg d n nf t l r x6 x7 x8 none none) st = .ret (.int 1000000, st) := fun st => rfl
  have p12 : ev (cfg T.F (k + 1)) (.bin .Pow (.cint 10) (.cint 12)) (envL rg d n nf t l r x6 x7 x8 none none) st = .ret (.int (10 ^ 12), st) := rfl
  refine evsE (x := .int 0) (st1 := st) rfl (evsE (x := .int 1) (st1 := st) rfl (evsE (x := .int (t : Int)) (st1 := st) (ev_var rfl) (evsT (binT (drawT (n := 1000000) hr (by decide) (by decide) (ev_var rfl) (p6 st) (by omega) fun u u0 u1 => ?_)))))
  refine drawT (n := 1000000) hr (by decide) (by decide) (ev_var rfl) (p6 st) (by omega) fun v v0 v1 => ?_
  have hm : mulOk u v = true := by
    unfold mulOk
    rw [decide_eq_true (show -(2 ^ 64) < u by omega), decide_eq_true (show u < 2 ^ 64 by omega)]
    rfl
  show Tri (mif (mulOk u v) (mret (D.int (u * v))) st) _ _ _
  rw [hm]
  refine of_eqT (x := (D.int (u * v), st)) rfl ?_
  dsimp only
  refine evsE p12 (evsT (binT (of_eqT (x := (.int 0, st)) rfl (drawT (n := 99) hr (by decide) (by decide) (ev_var rfl) rfl (by omega) fun w w0 w1 => ?_))))
  refine of_eqT (x := (D.int (0 - w), st)) rfl (of_eqT (x := (([] : List D), st)) rfl ?_)
  exact ⟨by omega, rfl, [0, 1, (t : Int), u * v, 10 ^ 12, 0 - w], rfl, rfl⟩
set_option maxHeartbeats 4000000 in
theorem rest14_ok {rg d n nf t b b0 : Nat} {l r : List Nat} {x6 x7 x8 : Option D} {S : Store} (G1 : Good d l) (G2 : Good d r) (hr : st[rg]? = some .rng) (hG : Gr st S) (hn : S[n]? = some (.lst true (its (List.range d)))) (ht : ordN l (List.range d) 40 1 (movN l (List.range d)) = some t) (hb : 3 ≤ b) (hb0 : b0 ≤ b + 57) :
    TriZ (exs (cfg T.F (k + 1 + 1 + 1)) rest14 (envL rg d n nf t l r x6 x7 x8 none none) S) b (fun b' p => ∃ v, p.1.1 = .ret v ∧ CkQ st b0 b' (v, p.2)) := by
  refine TriZ.mk ?_
  unfold rest14 rest2 b_law_check
  dsimp only
  refine consT (forT ?_)
  rw [evIt, mbind, ev, mbind]
  refine tri_bind.mpr (tri_bind.mpr (tri_mono (ints6 (k := k + 1 + 1) (hG.get hr) hb) (fun b' p _ q => ?_) fun _ _ _ _ z => z))
  obtain ⟨xs, S'⟩ := p
  obtain ⟨q1, q2, es, q3, q4⟩ := q
  have q2 : S' = S := q2
  have q3 : xs = es.map D.int := q3
  subst q2 q3
  show Tri (mif (fits (es.map D.int).length) (mret (D.tup (es.map D.int))) S') _ _ _
  rw [fits_of (show (es.map D.int).length ≤ 1000 by rw [List.length_map]; omega)]
  refine of_eqT (x := (D.tup (es.map D.int), S')) rfl (of_eqT (x := (Pl.tup (es.map D.int), S')) rfl ?_)
  show Tri (forLoop (exs (cfg T.F (k + 1 + 1 + 1)) bodyL) (.name 11) (.tup (es.map D.int)) (es.map D.int).length 0 (envL rg d n nf t l r x6 x7 x8 none none) S') b' _ NX
  have key := for_ev (body := exs (cfg T.F (k + 1 + 1 + 1)) bodyL) (tg := .name 11) (pl := .tup (es.map D.int)) (xs := es.map D.int)
    (fun i env s => ∃ x7 x11 x12, env = envL rg d n nf t l r x6 x7 x8 x11 x12 ∧ Gr S' s)
    (fun i env s h => ⟨rfl, rfl⟩)
    (fun i x env s hx h => by
      obtain ⟨y7, y11, y12, rfl, hs⟩ := h
      obtain ⟨e, _, rfl⟩ := List.mem_map.mp (List.mem_of_getElem? hx)
      obtain ⟨S2, z7, z12, g1, g2⟩ := body_ok (k := k) (rg := rg) (nf := nf) (r := r) (x6 := x6) (x7 := y7) (x8 := x8) (x12 := y12) (e := e) G1 (hs.get hn) ht
      exact ⟨_, _, S2, rfl, g2, z7, _, z12, rfl, hs.trans g1⟩)
    (es.map D.int).length 0 (envL rg d n nf t l r x6 x7 x8 none none) S' (Nat.zero_add _) ⟨x7, none, none, rfl, ⟨[], by rw [List.append_nil]⟩⟩
  obtain ⟨env', s', h1, y7, y11, y12, rfl, hs⟩ := key
  rw [h1]
  refine of_eqT rfl ⟨rfl, retT (Q := CkQ st b0) (of_eqT (ex_ret (ev_cmp ((ev_blt (evs_cons (ev_lst (evs_cons (ev_var (i := 2) rfl) (evs_cons (ev_var (i := 3) rfl) evs_nil)) (by show 2 ≤ 1000; decide)) evs_nil)).trans (repr_two (last_get _ _) G1 G2)) (ev_var (i := 5) rfl) (txt_eq G1 G2))) ⟨_, rfl, by omega, rfl, hG.trans (hs.trans (Gr.add _ _))⟩)⟩
end LawK02
end
section
namespace LawK02
open PySem L2 PySem.Spec DI
open PyProof.Rows hiding St
variable {k : Nat} {st : Store}
theorem check2_ok {rg d b b0 : Nat} {l r : List Nat} (G1 : Good d l) (G2 : Good d r) {S : Store} (hr : st[rg]? = some .rng) (hG : Gr st S) (hb : 3 ≤ b) (hb0 : b0 ≤ b + 57) :
    TriZ (exs (cfg T.F (k + 1 + 1 + 1)) rest2 [some (.ref rg), some (.int (d : Int)), some (.tup (il l)), some (.tup (il r)), none, none, none, none, none, none, none, none, none] S) b (fun b' p => ∃ v, p.1.1 = .ret v ∧ CkQ st b0 b' (v, p.2)) :=
  check_mid (k := k) (st := S) (rg := rg) (Z := fun t => TriZ t b (fun b' p => ∃ v, p.1.1 = .ret v ∧ CkQ st b0 b' (v, p.2))) G1 G2
    (fun S' n nf t g1 hn ht x6 x8 got => rest14_ok G1 G2 hr (hG.trans g1) hn ht hb hb0)
set_option maxHeartbeats 4000000 in
theorem sp_check {rg b : Nat} (hr : st[rg]? = some .rng) (hb : 60 ≤ b) : Tri (DI.run T.F (k + 1 + 1 + 1 + 1) "_law_check" [.ref rg] st) b (CkQ st b) NX := by
  refine run_tri (vs := [.ref rg]) (pp := ["_law_rng"]) (n := 13) (bd := b_law_check) rfl rfl ?_
  show Tri (exs (cfg T.F (k + 1 + 1 + 1)) (.cons (.set 1 (.bin .Add (.cint 1) (.call "_law_draw" (.cons (.var 0) (.cons (.cint 6) .nil))))) (.cons (.par [2, 3] (.cons (.blt .tuple (.cons (.call "_law_shuffle" (.cons (.var 0) (.cons (.lr (.var 1)) .nil))) .nil)) (.cons (.call "_law_permutation" (.cons (.var 0) (.cons (.var 1) .nil))) .nil))) rest2))
    [some (.ref rg), none, none, none, none, none, none, none, none, none, none, none, none] st) b _ NX
  refine consT (setT (binT (of_eqT (x := (.int 1, st)) rfl (drawT (k := k + 1 + 1) (n := 6) hr (by decide) (by decide) (ev_var rfl) rfl (by omega) fun v v0 v1 => ?_))))
  obtain ⟨d, hd⟩ : ∃ d : Nat, (d : Int) = 1 + v := ⟨(1 + v).toNat, by omega⟩
  refine of_eqT (x := (D.int (d : Int), st)) (by rw [hd]; rfl) ⟨rfl, consT (parT ?_)⟩
  have d0 : 0 < d := by omega
  have d7 : d < 7 := by omega
  have c1 : ev (cfg T.F (k + 1 + 1 + 1)) (.lr (.var 1)) [some (.ref rg), some (.int (d : Int)), none, none, none, none, none, none, none, none, none, none, none] st = .ret (.ref st.length, st ++ [SO.lst true (il (List.range d))]) := ev_lr (d := d) (ev_var rfl) (by omega)
  have c2 := evs_cons (ev_var (C := cfg T.F (k + 1 + 1 + 1)) (i := 0) (x := .ref rg) (env := [some (.ref rg), some (.int (d : Int)), none, none, none, none, none, none, none, none, none, none, none]) (st := st) rfl) (evs_cons c1 evs_nil)
  refine evsT (bltT (evsT ?_))
  show Tri (ev (cfg T.F (k + 1 + 1 + 1)) (.call "_law_shuffle" (.cons (.var 0) (.cons (.lr (.var 1)) .nil))) [some (.ref rg), some (.int (d : Int)), none, none, none, none, none, none, none, none, none, none, none] st) _ _ _
  rw [ev_call c2]
  refine tri_mono (sp_shuffle (k := k + 1) (d := d) (app_get hr _) (last_get _ _) (by omega) (by omega)) (fun b1 p _ q => ?_) fun _ _ _ _ z => z
  obtain ⟨h1, g, l, rfl, hl⟩ := q
  refine of_eqT (x := ([], _)) rfl ?_
  refine of_eqT (x := (.tup (il l), st ++ [SO.lst true (il (List.range d))] ++ .lst true (il l) :: g)) (tuple_items (items_mid _ _ _)) ?_
  refine evsT ?_
  show Tri (ev (cfg T.F (k + 1 + 1 + 1)) (.call "_law_permutation" (.cons (.var 0) (.cons (.var 1) .nil))) [some (.ref rg), some (.int (d : Int)), none, none, none, none, none, none, none, none, none, none, none] (st ++ [SO.lst true (il (List.range d))] ++ .lst true (il l) :: g)) _ _ _
  rw [ev_call (evs_cons (ev_var rfl) (evs_cons (ev_var rfl) evs_nil))]
  refine tri_mono (sp_permutation (k := k) (d := d) (app_get (app_get hr _) _) d0 d7 (by omega)) (fun b2 p _ q => ?_) fun _ _ _ _ z => z
  obtain ⟨h2, g2, r, rfl, hrr⟩ := q
  refine of_eqT (x := ([], _)) rfl ⟨[some (.ref rg), some (.int (d : Int)), some (.tup (il l)), some (.tup (il r)), none, none, none, none, none, none, none, none, none], rfl, rfl, ?_⟩
  dsimp only
  have h := (check2_ok (k := k) (b := b2) (b0 := b) (good_of d7 hl) (good_of d7 hrr) hr ((Gr.add st [SO.lst true (il (List.range d))]).trans ((Gr.add _ (.lst true (il l) :: g)).trans (Gr.add _ g2))) (by omega) (by omega))
  with_reducible exact @TriZ.ok _ _ _ _ h
end LawK02
end
section
namespace LawK02
open PySem L2 PySem.Spec DI
open PyProof.Rows hiding St
variable {k : Nat} {st : Store}
theorem lc_tri {turn : D → M (Option D)} {pl : Pl} {n : Nat} {xs : List D} (I : Nat → Nat → List D → Store → Prop) (hit : ∀ i b acc S, I i b acc S → plItem S pl i = xs[i]? ∧ plEnd S pl = true)
    (step : ∀ i x b acc S, xs[i]? = some x → I i b acc S → Tri (turn x S) b (fun b' p => ∃ y, p.1 = some y ∧ p.2[n]? = some (.lst true acc) ∧ acc.length < 1000 ∧ I (i + 1) b' (acc ++ [y]) (p.2.set n (.lst true (acc ++ [y])))) NX) :
    ∀ m i b acc S, i + m = xs.length → I i b acc S → Tri (lcLoop turn pl n m i S) b (fun b' p => ∃ acc, I xs.length b' acc p.2) NX
  | 0, i, b, acc, S, hi, h => by
    unfold lcLoop
    rw [(hit i b acc S h).2]
    refine ⟨acc, ?_⟩
    rw [show xs.length = i by omega]
    exact h
  | m + 1, i, b, acc, S, hi, h => by
    have h1 : i < xs.length := by omega
    have h2 := step i xs[i] b acc S (List.getElem?_eq_getElem h1) h
    unfold lcLoop
    rw [(hit i b acc S h).1, List.getElem?_eq_getElem h1]
    dsimp only
    refine tri_bind.mpr (tri_to_nox (tri_mono h2 (fun b' p _ q => ?_) fun _ _ _ _ z => z))
    obtain ⟨o, S'⟩ := p
    obtain ⟨y, e1, e2, e3, e4⟩ := q
    have e1 : o = some y := e1
    subst e1
    dsimp only at e2 e4 ⊢
    rw [e2]
    dsimp only
    rw [fits_of (show acc.length + 1 ≤ 1000 by omega)]
    exact lc_tri I hit step m (i + 1) b' _ _ (by omega) e4
theorem lcT {C : Cfg} {own : List (Str × Nat)} {tg : ITg} {it : IIt} {cn : DI.IO} {e : IE} {env : Evr} {b : Nat} {P : Nat → (D × Store) → Prop} {pl : Pl} {st1 : Store} (h : evIt C it env st = .ret (pl, st1))
    (h2 : Tri (lcLoop (lcTurn C tg cn e (own.map (·.2)) env) pl st1.length (plLen pl) 0 (st1 ++ [SO.lst true []])) b (fun b' p => P b' (.ref st1.length, p.2)) NX) : Tri (ev C (.lc own tg it cn e) env st) b P NX := by
  rw [ev, mbind, h]
  show Tri ((lcLoop (lcTurn C tg cn e (own.map (·.2)) env) pl st1.length (plLen pl) 0 (st1 ++ [SO.lst true []])).bind fun p => .ret (D.ref st1.length, p.2)) b P NX
  exact tri_bind.mpr h2
theorem retTT {C : Cfg} {e : IE} {env : Evr} {b : Nat} {Q : Nat → (D × Store) → Prop} (h : Tri (ev C e env st) b Q NX) : Tri (ex C (.ret e) env st) b (fun b' p => ∃ v, p.1.1 = .ret v ∧ Q b' (v, p.2)) NX := by
  rw [ex, doE]
  exact tri_resc.mpr (tri_mono h (fun _ p _ q => ⟨p.1, rfl, q⟩) fun _ _ _ _ z => z.elim)
theorem run_box {s : Nat} {ns : List Int} {j : Nat} (hs : st[s]? = some (.lst false (ns.map D.int))) (hj : j < 1000) : DI.run T.F (k + 1) "_law_box" [.ref s, .int (j : Int)] st = .ret (.ref st.length, st ++ [.rng]) := by
  have e : ∀ ns : List Int, intsD (ns.map D.int) = some ns := by
    intro ns
    induction ns with
    | nil => rfl
    | cons i r ih =>
      show (intsD (r.map D.int)).map (i :: ·) = _
      rw [ih]
      rfl
  rw [DI.run, show T.F.lookup ("_law_box" : Str) = some .box from rfl]
  dsimp only
  rw [hs]
  dsimp only
  rw [e, decide_eq_true (show (0 : Int) ≤ j by omega), decide_eq_true (show (j : Int) < 1000 by omega)]
  rfl
theorem set_get {S : Store} {n q : Nat} {x s : SO} (h : S[q]? = some x) (hq : q ≠ n) : (S.set n s)[q]? = some x := by
  rw [List.getElem?_set_ne (Ne.symm hq)]
  exact h
theorem set_self {S : Store} {n : Nat} {x s : SO} (h : S[n]? = some x) : (S.set n s)[n]? = some s := List.getElem?_set_self (List.getElem?_eq_some_iff.mp h).1
theorem lt_of_get {S : Store} {n : Nat} {x : SO} (h : S[n]? = some x) : n < S.length := (List.getElem?_eq_some_iff.mp h).1
def bxI (n : Nat) (ns : List Int) (i b : Nat) (acc : List D) (S : Store) : Prop := b = 2 ^ 40 ∧ acc.length = i ∧ 0 < n ∧ S[n]? = some (.lst true acc) ∧ S[0]? = some (.lst false (ns.map D.int)) ∧ ∀ x ∈ acc, ∃ q, x = .ref q ∧ q ≠ n ∧ S[q]? = some .rng
def chkI (n n1 : Nat) (xs : List D) (i b : Nat) (acc : List D) (S : Store) : Prop := 2 ^ 40 ≤ b + 60 * i ∧ acc.length = i ∧ n1 ≠ n ∧ S[n]? = some (.lst true acc) ∧ S[n1]? = some (.lst true xs) ∧ (∀ y ∈ acc, y = .bl true) ∧ ∀ x ∈ xs, ∃ q, x = .ref q ∧ q ≠ n ∧ S[q]? = some .rng
theorem bls_all : ∀ {acc : List D}, (∀ y ∈ acc, y = .bl true) → ∃ bs, blsD acc = some bs ∧ bs.all id = true
  | [], _ => ⟨[], rfl, rfl⟩
  | y :: acc, h => by
    obtain ⟨bs, h1, h2⟩ := bls_all fun z hz => h z (List.mem_cons_of_mem _ hz)
    rw [h y List.mem_cons_self]
    refine ⟨true :: bs, ?_, ?_⟩
    · show (blsD acc).map (true :: ·) = _
      rw [h1]
      rfl
    · simpa using h2
set_option maxHeartbeats 4000000 in
theorem law_holds (ns : List Int) (hns : ns.length ≤ 63) : Tri (DI.run T.F (6 + 1) "law" [.ref 0] [.lst false (ns.map D.int)]) (2 ^ 40) (fun _ p => p.1 = .bl true) NX := by
  refine run_tri (vs := [.ref 0]) (pp := ["_law_script"]) (n := 4) (bd := b_law) rfl rfl ?_
  show Tri (exs (cfg T.F 6) b_law [some (.ref 0), none, none, none] [.lst false (ns.map D.int)]) _ _ _
  unfold b_law
  obtain ⟨m, hm⟩ : ∃ m : Nat, (m : Int) = 1 + (if (ns.length : Int) < 3 then (ns.length : Int) else 3) := ⟨(1 + (if (ns.length : Int) < 3 then (ns.length : Int) else 3)).toNat, by split <;> omega⟩
  have hm4 : m ≤ 4 := by
    have h := hm
    split at h <;> omega
  obtain ⟨st0, hst0⟩ : ∃ s : Store, s = [SO.lst false (ns.map D.int)] := ⟨_, rfl⟩
  have g0 : st0[0]? = some (.lst false (ns.map D.int)) := by rw [hst0]; rfl
  have l0 : st0.length = 1 := by rw [hst0]; rfl
  rw [← hst0]
  have cl : ev (cfg T.F 6) (.bin .Add (.cint 1) (.blt .min2 (.cons (.cint 3) (.cons (.blt .len (.cons (.var 0) .nil)) .nil)))) [some (.ref 0), none, none, none] st0 = .ret (.int (m : Int), st0) := by
    have c0 : ev (cfg T.F 6) (.blt .len (.cons (.var 0) .nil)) [some (.ref 0), none, none, none] st0 = .ret (.int (ns.length : Int), st0) := by
      rw [ev_blt (evs_cons (ev_var rfl) evs_nil), len_items (xs := ns.map D.int) (by unfold itemsD; dsimp only; rw [g0]), List.length_map]
    have c1 : ev (cfg T.F 6) (.blt .min2 (.cons (.cint 3) (.cons (.blt .len (.cons (.var 0) .nil)) .nil))) [some (.ref 0), none, none, none] st0 = .ret (.int (if (ns.length : Int) < 3 then (ns.length : Int) else 3), st0) := by
      rw [ev_blt (evs_cons (x := .int 3) (st1 := st0) rfl (evs_cons c0 evs_nil))]
      rfl
    rw [ev_bin (x := .int 1) (st1 := st0) rfl c1, hm]
    rfl
  refine consT (setT (lcT (pl := .rng 0 m) (st1 := st0) (evIt_range1 cl (by omega)) ?_))
  rw [l0]
  have k1 := lc_tri (turn := lcTurn (cfg T.F 6) (.name 2) .none (.call "_law_box" (.cons (.var 0) (.cons (.var 2) .nil))) [2] [some (.ref 0), none, none, none]) (pl := .rng 0 m) (n := 1) (xs := il (List.range m)) (bxI 1 ns) (fun i b acc S h => ⟨rng_item, rfl⟩)
    (fun i x b acc S hx h => by
      obtain ⟨hi, rfl⟩ := rng_get hx
      obtain ⟨h1, h2, h3, h4, h5, h6⟩ := h
      have hb : lcTurn (cfg T.F 6) (.name 2) .none (.call "_law_box" (.cons (.var 0) (.cons (.var 2) .nil))) [2] [some (.ref 0), none, none, none] (.int (i : Int)) S = .ret (some (.ref S.length), S ++ [.rng]) := by
        have q : ev (cfg T.F 6) (.call "_law_box" (.cons (.var 0) (.cons (.var 2) .nil))) [some (.ref 0), none, some (.int (i : Int)), none] S = .ret (.ref S.length, S ++ [.rng]) := by
          rw [ev_call (st1 := S) (xs := [.ref 0, .int (i : Int)]) (evs_cons (ev_var rfl) (evs_cons (ev_var rfl) evs_nil)), show (cfg T.F 6).call = DI.run T.F (5 + 1) from rfl, run_box h5 (by omega)]
        show (mbind (ev (cfg T.F 6) (.call "_law_box" (.cons (.var 0) (.cons (.var 2) .nil))) [some (.ref 0), none, some (.int (i : Int)), none]) fun y => mret (some y)) S = _
        rw [mbind, q]
        rfl
      refine of_eqT hb ⟨_, rfl, app_get h4 _, by omega, h1, by rw [List.length_append, h2]; rfl, h3, set_self (app_get h4 _), set_get (app_get h5 _) (by omega), fun x hx => ?_⟩
      have hlen := lt_of_get h4
      rcases List.mem_append.mp hx with z | z
      · obtain ⟨q, rfl, q2, q3⟩ := h6 x z
        exact ⟨q, rfl, q2, set_get (app_get q3 _) q2⟩
      · rw [List.mem_singleton.mp z]
        exact ⟨S.length, rfl, by omega, set_get (last_get _ _) (by omega)⟩)
    m 0 (2 ^ 40) [] (st0 ++ [SO.lst true []]) (by rw [il_length, List.length_range, Nat.zero_add]) ⟨rfl, rfl, by decide, by have := last_get st0 (.lst true []); rwa [l0] at this, app_get g0 _, fun x hx => by cases hx⟩
  refine tri_mono k1 (fun b1 p _ q => ?_) fun _ _ _ _ z => z
  obtain ⟨u, S⟩ := p
  obtain ⟨acc, h1, h2, h3, h4, h5, h6⟩ := q
  rw [il_length, List.length_range] at h2
  subst h1
  refine ⟨rfl, retT (Q := fun _ p => p.1 = .bl true) ?_⟩
  dsimp only
  have h4 : S[1]? = some (.lst true acc) := h4
  -- the checks
  have cm : ev (cfg T.F 6) (.bin .Mult (.var 1) (.cint 3)) [some (.ref 0), some (.ref 1), none, none] S = .ret (.ref S.length, S ++ [SO.lst true (List.replicate 3 acc).flatten]) := by
    rw [ev_bin (ev_var rfl) (k := .int 3) (st2 := S) rfl]
    unfold binD
    dsimp only
    rw [h4]
    dsimp only
    rw [show decide ((0 : Int) ≤ 3) = true from rfl, show decide ((3 : Int) < 100000) = true from rfl, fits_of (show acc.length * (3 : Int).toNat ≤ 1000 by show acc.length * 3 ≤ 1000; omega)]
    rfl
  obtain ⟨S1, hS1⟩ : ∃ s : Store, s = S ++ [SO.lst true (List.replicate 3 acc).flatten] := ⟨_, rfl⟩
  obtain ⟨xs, hxs⟩ : ∃ xs : List D, xs = (List.replicate 3 acc).flatten := ⟨_, rfl⟩
  rw [← hxs] at cm hS1
  rw [← hS1] at cm
  have hx1 : S1[S.length]? = some (.lst true xs) := by rw [hS1]; exact last_get _ _
  have hl1 := lt_of_get hx1
  have xl : xs.length = 3 * m := by
    rw [hxs]
    simp [List.length_flatten, h2]
    omega
  have hxr : ∀ x ∈ xs, ∃ q, x = .ref q ∧ q < S1.length ∧ S1[q]? = some .rng := by
    intro x hx
    rw [hxs] at hx
    obtain ⟨l, hl, hx⟩ := List.mem_flatten.mp hx
    rw [List.eq_of_mem_replicate hl] at hx
    obtain ⟨q, rfl, q2, q3⟩ := h6 x hx
    have e : S1[q]? = some .rng := by rw [hS1]; exact app_get q3 _
    exact ⟨q, rfl, lt_of_get e, e⟩
  have ci : evIt (cfg T.F 6) (.seq (.bin .Mult (.var 1) (.cint 3))) [some (.ref 0), some (.ref 1), none, none] S = .ret (.lst S.length xs.length, S1) := by
    refine evIt_seq cm ?_
    unfold seqPl
    dsimp only
    rw [hx1]
  have k2 : Tri (ev (cfg T.F 6) (.lc [("_law_rng", 3)] (.name 3) (.seq (.bin .Mult (.var 1) (.cint 3))) .none (.call "_law_check" (.cons (.var 3) .nil))) [some (.ref 0), some (.ref 1), none, none] S) (2 ^ 40) (fun b' p => ∃ acc, p.1 = .ref S1.length ∧ p.2[S1.length]? = some (.lst true acc) ∧ ∀ y ∈ acc, y = .bl true) NX := by
    refine lcT ci ?_
    refine tri_mono (lc_tri (xs := xs) (chkI S1.length S.length xs) (fun i b acc S' h => ?_) (fun i x b acc S' hx h => ?_) xs.length 0 (2 ^ 40) [] (S1 ++ [SO.lst true []]) (Nat.zero_add _) ⟨Nat.le_refl _, rfl, by omega, last_get _ _, app_get hx1 _, (fun y hy => by cases hy), fun x hx => ?_⟩) (fun b' p _ q => ?_) fun _ _ _ _ z => z
    · obtain ⟨_, _, _, _, h5, _, _⟩ := h
      have q : lstAt S' S.length xs.length = some xs := by
        unfold lstAt
        rw [h5]
        dsimp only
        rw [if_pos rfl]
      exact ⟨by show (lstAt S' S.length xs.length).bind _ = _; rw [q]; rfl, by show (lstAt S' S.length xs.length).isSome = true; rw [q]; rfl⟩
    · obtain ⟨h1, h2', h3', h4', h5', h6', h7'⟩ := h
      have hi : i < xs.length := (List.getElem?_eq_some_iff.mp hx).1
      obtain ⟨q, rfl, q2, q3⟩ := h7' x (List.mem_of_getElem? hx)
      show Tri ((mbind (ev (cfg T.F 6) (.call "_law_check" (.cons (.var 3) .nil)) [some (.ref 0), some (.ref 1), none, some (.ref q)]) fun y => mret (some y)) S') _ _ _
      rw [mbind, ev_call (evs_cons (ev_var (i := 3) (x := .ref q) rfl) evs_nil)]
      refine tri_bind.mpr (tri_mono (sp_check (k := 2) q3 (by omega)) (fun b' p _ hq => ?_) fun _ _ _ _ z => z)
      obtain ⟨y, S2⟩ := p
      obtain ⟨c1, c2, g, hg⟩ := hq
      have c2 : y = .bl true := c2
      have hg : S2 = S' ++ g := hg
      subst c2 hg
      refine of_eqT (x := (some (.bl true), S' ++ g)) rfl ⟨_, rfl, app_get h4' _, by omega, ?_, by rw [List.length_append, h2']; rfl, h3', set_self (app_get h4' _), set_get (app_get h5' _) h3', fun z hz => ?_, fun z hz => ?_⟩
      · omega
      · rcases List.mem_append.mp hz with w | w
        · exact h6' z w
        · exact List.mem_singleton.mp w
      · obtain ⟨q', rfl, q2', q3'⟩ := h7' z hz
        exact ⟨q', rfl, q2', set_get (app_get q3' _) q2'⟩
    · obtain ⟨q, rfl, q2, q3⟩ := hxr x hx
      exact ⟨q, rfl, by omega, app_get q3 _⟩
    · obtain ⟨acc', q⟩ := q
      obtain ⟨_, _, _, c4, _, c6, _⟩ := q
      exact ⟨acc', rfl, c4, c6⟩
  show Tri (ex (cfg T.F 6) (.ret (.blt .all (.cons (.lc [("_law_rng", 3)] (.name 3) (.seq (.bin .Mult (.var 1) (.cint 3))) .none (.call "_law_check" (.cons (.var 3) .nil))) .nil))) [some (.ref 0), some (.ref 1), none, none] S) _ _ _
  refine retTT (Q := fun _ p => p.1 = .bl true) (bltT (evsT (tri_mono k2 (fun b' p _ q => ?_) fun _ _ _ _ z => z)))
  obtain ⟨x, S2⟩ := p
  obtain ⟨acc', e1, e2, e3⟩ := q
  have e1 : x = .ref S1.length := e1
  subst e1
  obtain ⟨bs, w1, w2⟩ := bls_all e3
  refine of_eqT (x := (([] : List D), S2)) rfl (of_eqT (x := (D.bl true, S2)) ?_ rfl)
  dsimp only at e2
  unfold bltD
  dsimp only
  rw [e2]
  dsimp only
  rw [w1]
  dsimp only
  rw [w2]
end LawK02
end
open PySem PySem.W PyProof.Rows
set_option maxHeartbeats 0 in
theorem PySem.Challenge.cw_elderways_k02_operations_on_permutations_holds : PySem.Challenge.rw_elderways_k02_operations_on_permutations.Holds := by
  w_on; o_law; k_head; (case hw => w_witness2)
  k_fill
  refine DI.walkG (l := PySem.Challenge.rw_elderways_k02_operations_on_permutations) (n := 63) (k := 6 + 1) (x := "_law_script") (f := "law") (F := LawK02.T.F) (RX := fun _ _ _ _ => False) rfl (by decide) rfl ⟨rfl, by decide, by decide⟩ (fun w h Y => PySem.W.kIn_of Y) ?F LawK02.law_holds
  case F =>
    intro w mg fa h KX G hmg
    refine' LawK02.all_mk KX G hmg ?a0 ?l0 ?c0 ?k0 ?a1 ?l1 ?c1 ?k1 ?a2 ?l2 ?c2 ?k2 ?a3 ?l3 ?c3 ?k3 ?a4 ?l4 ?c4 ?k4 ?a5 ?l5 ?c5 ?k5 ?a6 ?l6 ?c6 ?k6 ?a7 ?l7 ?c7 ?k7 ?a8 ?l8 ?c8 ?k8 ?a9 ?l9 ?c9 ?k9 ?a10 ?l10 ?c10 ?k10 ?a11 ?l11 ?c11 ?k11 ?a12 ?l12 ?c12 ?k12 ?a13 ?l13 ?c13 ?k13 ?a14 ?l14 ?c14 ?k14 ?z_len ?z_list ?z_tuple ?z_all ?z_any ?z_abs ?z_int ?z_bool ?z_str ?z_repr ?z_min ?z_max ?z_sorted ?z_range ?z_enumerate ?z_zip ?z_isinstance ?m_lcm
    (case a0 => k_is); (case l0 => k_is); (case c0 => k_is); (case k0 => k_is); (case a1 => k_is); (case l1 => k_is); (case c1 => k_is); (case k1 => k_is); (case a2 => k_is); (case l2 => k_is); (case c2 => k_is); (case k2 => k_is); (case a3 => k_is); (case l3 => k_is); (case c3 => k_is); (case k3 => k_is); (case a4 => k_is); (case l4 => k_is); (case c4 => k_is); (case k4 => k_is); (case a5 => k_is); (case l5 => k_is); (case c5 => k_is); (case k5 => k_is); (case a6 => k_is); (case l6 => k_is); (case c6 => k_is); (case k6 => k_is); (case a7 => k_is); (case l7 => k_is); (case c7 => k_is); (case k7 => k_is); (case a8 => k_is); (case l8 => k_is); (case c8 => k_is); (case k8 => k_is); (case a9 => k_is); (case l9 => k_is); (case c9 => k_is); (case k9 => k_is); (case a10 => k_is); (case l10 => k_is); (case c10 => k_is); (case k10 => k_is); (case a11 => k_is); (case l11 => k_is); (case c11 => k_is); (case k11 => k_is); (case a12 => k_is); (case l12 => k_is); (case c12 => k_is); (case k12 => k_is); (case a13 => k_is); (case l13 => k_is); (case c13 => k_is); (case k13 => k_is); (case a14 => k_is); (case l14 => k_is); (case c14 => k_is); (case k14 => k_is); (case z_len => k_is); (case z_list => k_is); (case z_tuple => k_is); (case z_all => k_is); (case z_any => k_is); (case z_abs => k_is); (case z_int => k_is); (case z_bool => k_is); (case z_str => k_is); (case z_repr => k_is); (case z_min => k_is); (case z_max => k_is); (case z_sorted => k_is); (case z_range => k_is); (case z_enumerate => k_is); (case z_zip => k_is); (case z_isinstance => k_is); (case m_lcm => k_is)
