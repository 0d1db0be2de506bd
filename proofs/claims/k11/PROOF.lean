import PyProof.Rows.All
import Wide.All
import OpenK.AllK
import Wide.FinOn
import HandS.ForMost
import HandS.Flow
import HandS.Zip
import HandS.Walk
import HandS.TupAny
import HandS.IsInst
import HandS.Style
import HandS.Gcd
import HandS.Conv
import HandS.Exc
import HandS.TryOnly
import HandS.CallSlots
import HandS.WordsExc
import HandS.SortInts
import HandS.RaiseMore
import HandS.More
import HandS.TupMul
import HandS.Deep
import PyProof.Rows.IntBool
import HandS.Strs
import PyProof.TupleOfSeq
import KE.GoesEnum
import KE.GoesMore
import PyProof.StrLawsRepr
import PyProof.Rows.StrJoinMade
import PySem.Challenge.RW_elderways_k11_is_slide
set_option Elab.async false
set_option linter.all false
set_option maxRecDepth 100000
set_option maxHeartbeats 4000000
section
/-! # A small language of our own, run by a plain function: the part of Python that the program and its laws are written in -/
namespace DI
open PySem L2

/-- values: tuples by value, lists (and what else may change) by their number in the store -/
inductive D where
  | non | bl (b : Bool) | int (i : Int) | str (x : Str) | tup (xs : List D) | ref (n : Nat)
  /-- what enumerate and zip give: to be unpacked -/
  | pr (x y : D)
/-- what stands in the store: a list (w: it may be changed), a source of draws -/
inductive SO where
  | lst (w : Bool) (xs : List D)
  | rng
def bI (b : Bool) : Int := if b = true then 1 else 0
abbrev Store := List SO
structure Ex where
  name : Str
  fs : List (Str × D)
/-- a run: an answer, a draw (any number from 0 below n), an exception, nothing known -/
inductive T (α : Type) where
  | ret (a : α)
  | draw (n : Int) (k : Int → T α)
  | exc (x : Ex) (st : Store)
  | stuck
def T.bind {α β : Type} : T α → (α → T β) → T β
  | .ret a, f => f a
  | .draw n k, f => .draw n fun v => (k v).bind f
  | .exc x st, _ => .exc x st
  | .stuck, _ => .stuck
/-- no exception may leave -/
def T.nox {α : Type} : T α → T α
  | .ret a => .ret a
  | .draw n k => .draw n fun v => (k v).nox
  | .exc _ _ => .stuck
  | .stuck => .stuck
/-- at most b draws; every answer keeps P (told how many draws are left), every exception X -/
def Tri {α : Type} : T α → Nat → (Nat → α → Prop) → (Nat → Ex → Store → Prop) → Prop
  | .ret a, b, P, _ => P b a
  | .draw n k, b, P, X => ∃ b', b = b' + 1 ∧ ∀ v, 0 ≤ v → v < n → Tri (k v) b' P X
  | .exc x st, b, _, X => X b x st
  | .stuck, _, _, _ => False
theorem tri_bind {α β : Type} {t : T α} {f : α → T β} {b : Nat} {P : Nat → β → Prop} {X : Nat → Ex → Store → Prop} : Tri (t.bind f) b P X ↔ Tri t b (fun b' a => Tri (f a) b' P X) X := by
  induction t generalizing b with
  | ret a => exact Iff.rfl
  | draw n k ih =>
    constructor
    · rintro ⟨b', e, h⟩
      exact ⟨b', e, fun v h0 h1 => (ih v).mp (h v h0 h1)⟩
    · rintro ⟨b', e, h⟩
      exact ⟨b', e, fun v h0 h1 => (ih v).mpr (h v h0 h1)⟩
  | exc x st => exact Iff.rfl
  | stuck => exact Iff.rfl
theorem tri_mono {α : Type} {t : T α} {b : Nat} {P P' : Nat → α → Prop} {X X' : Nat → Ex → Store → Prop} (h : Tri t b P X) (hP : ∀ b' a, b' ≤ b → P b' a → P' b' a) (hX : ∀ b' x st, b' ≤ b → X b' x st → X' b' x st) : Tri t b P' X' := by
  induction t generalizing b with
  | ret a => exact hP b a (Nat.le_refl _) h
  | draw n k ih =>
    obtain ⟨b', e, h⟩ := h
    exact ⟨b', e, fun v h0 h1 => ih v (h v h0 h1) (fun c a hc => hP c a (by omega)) fun c x st hc => hX c x st (by omega)⟩
  | exc x st => exact hX b x st (Nat.le_refl _) h
  | stuck => exact h.elim

theorem tri_nox {α : Type} {t : T α} {b : Nat} {P : Nat → α → Prop} {X X' : Nat → Ex → Store → Prop} (h : Tri t.nox b P X) : Tri t b P X' := by
  induction t generalizing b with
  | ret a => exact h
  | draw n k ih =>
    obtain ⟨b', e, h⟩ := h
    exact ⟨b', e, fun v h0 h1 => ih v (h v h0 h1)⟩
  | exc x st => exact h.elim
  | stuck => exact h.elim
abbrev M (α : Type) := Store → T (α × Store)
abbrev Evr := List (Option D)
def mret {α : Type} (a : α) : M α := fun st => .ret (a, st)
def mbind {α β : Type} (m : M α) (f : α → M β) : M β := fun st => (m st).bind fun p => f p.1 p.2
def mstuck {α : Type} : M α := fun _ => .stuck
def mif {α : Type} (c : Bool) (m : M α) : M α := fun st => match c with
  | true => m st
  | false => .stuck
def mopt {α : Type} (o : Option α) : M α := fun st => match o with
  | some a => .ret (a, st)
  | none => .stuck
/-- a new list -/
def mnew (xs : List D) : M D := fun st => .ret (.ref st.length, st ++ [.lst true xs])
/-- sizes stay below -/
def lim : Nat := 100000
def fits (n : Nat) : Bool := Nat.ble n lim

/-! ### the language -/
inductive Blt where
  | len | list | tuple | all | any | abs | int | str | repr | min2 | max2 | lcm | sorted
  deriving DecidableEq
inductive Mth where
  | append | insert | pop | popAt | index | upper
  deriving DecidableEq
inductive ITg where
  | name (i : Nat)
  | tup (ts : List Nat)
mutual
inductive IE where
  | var (i : Nat)
  | cint (i : Int) | cstr (x : Str) | cbl (b : Bool) | cnon
  | tup (es : IEs) | lst (es : IEs)
  | bin (op : Operator) (a b : IE)
  | neg (a : IE)
  | cmp (op : CmpOp) (a b : IE)
  | chain (o1 o2 : CmpOp) (a b c : IE)
  | and (a b : IE) | or (a b : IE) | not (a : IE)
  | ite (c a b : IE)
  | ix (a i : IE)
  | slice (a : IE) (lo hi : IO)
  | rev (a : IE)
  | blt (f : Blt) (es : IEs)
  | lr (a : IE) | tr (a : IE)
  | isi (e : IE) (tys : List String)
  | call (f : Str) (es : IEs)
  | callK (f : Str) (es : IEs) (ks : List Str) (ws : IEs)
  | meth (m : Mth) (o : IE) (es : IEs)
  | lc (own : List (Str × Nat)) (tg : ITg) (it : IIt) (c : IO) (e : IE)
inductive IEs where
  | nil
  | cons (e : IE) (es : IEs)
inductive IO where
  | none
  | some (e : IE)
inductive IIt where
  | seq (e : IE)
  | range1 (a : IE) | range2 (a b : IE)
  | enum (e : IE)
  | zip (a b : IE)
end
def IEs.len : IEs → Nat
  | .nil => 0
  | .cons _ es => es.len + 1
mutual
inductive IS where
  | set (i : Nat) (e : IE)
  | setT (ts : List Nat) (e : IE)
  | setSub (o i e : IE)
  | aug (i : Nat) (op : Operator) (e : IE)
  | expr (e : IE)
  | ret (e : IE)
  | ite (c : IE) (a b : ISs)
  | for (tg : ITg) (it : IIt) (body : ISs)
  | while (c : IE) (body : ISs)
  | par (ts : List Nat) (es : IEs)
  | pass | brk | cont
inductive ISs where
  | nil
  | cons (s : IS) (ss : ISs)
end

/-! ### data -/
def strOkB (x : Str) : Bool := PyData.canLay0 (.str x)
def pys (f : D → Option PyData) : List D → Option (List PyData)
  | [] => some []
  | x :: xs => match f x, pys f xs with
    | some d, some ds => some (d :: ds)
    | _, _ => none
/-- a value with all that hangs on it -/
def py : Nat → Store → D → Option PyData
  | 0, _, _ => none
  | _ + 1, _, .non => some .none
  | _ + 1, _, .bl b => some (.bool b)
  | _ + 1, _, .int i => some (.int i)
  | _ + 1, _, .str x => if strOkB x then some (.str x) else none
  | n + 1, st, .tup xs => match pys (py n st) xs with
    | some ds => some (.tuple ds)
    | none => none
  | n + 1, st, .ref k => match st[k]? with
    | some (.lst _ xs) => match pys (py n st) xs with
      | some ds => some (.list ds)
      | none => none
    | _ => none
  | _ + 1, _, .pr _ _ => none
def deep : Nat := 24
def flatD : D → Bool
  | .non | .bl _ | .int _ | .str _ => true
  | _ => false
def toV : D → V
  | .non => .non
  | .bl b => .bl b
  | .int i => .int i
  | .str x => .str x
  | _ => .non
def intsD : List D → Option (List Int)
  | [] => some []
  | .int i :: r => (intsD r).map (i :: ·)
  | _ :: _ => none
def blsD : List D → Option (List Bool)
  | [] => some []
  | .bl i :: r => (blsD r).map (i :: ·)
  | _ :: _ => none
/-- the items of a list, a tuple -/
def itemsD (st : Store) : D → Option (List D)
  | .tup xs => some xs
  | .ref n => match st[n]? with
    | some (.lst _ xs) => some xs
    | _ => none
  | _ => none

/-! ### operators -/
def mulOk (i j : Int) : Bool := (decide (-(2 ^ 64) < i) && decide (i < 2 ^ 64)) || (decide (-(2 ^ 64) < j) && decide (j < 2 ^ 64))
def powOk (i j : Int) : Bool := decide (0 ≤ j) && decide (j ≤ 1000000) && decide (i.natAbs < 2 ^ 64)
/-- a tuple many times -/
def repTB (k : Int) (n : Nat) : Bool := decide (0 < n) && decide (2 ≤ k) && decide (k ≤ 1000) && decide (n ≤ 1000)
def binD (op : Operator) (x y : D) : M D := fun st => match op, x, y with
  | .Add, .int i, .int j => .ret (.int (i + j), st)
  | .Add, .bl i, .int j => .ret (.int (bI i + j), st)
  | .Sub, .bl i, .int j => .ret (.int (bI i - j), st)
  | .Add, .str i, .str j => mif (fits (i.length + j.length)) (mret (.str (i ++ j))) st
  | .Add, .tup xs, .tup ys => mif (fits (xs.length + ys.length)) (mret (.tup (xs ++ ys))) st
  | .Add, .ref n, .ref m => match st[n]?, st[m]? with
    | some (.lst true xs), some (.lst true ys) => mif (fits (xs.length + ys.length)) (mnew (xs ++ ys)) st
    | _, _ => .stuck
  | .Sub, .int i, .int j => .ret (.int (i - j), st)
  | .Mult, .int i, .int j => mif (mulOk i j) (mret (.int (i * j))) st
  | .Mult, .tup xs, .int k => mif (repTB k xs.length) (mret (.tup (List.replicate k.toNat xs).flatten)) st
  | .Mult, .ref n, .int k => match st[n]? with
    | some (.lst true xs) => mif (decide (0 ≤ k) && decide (k < 100000) && fits (xs.length * k.toNat)) (mnew (List.replicate k.toNat xs).flatten) st
    | _ => .stuck
  | .FloorDiv, .int i, .int j => mif (decide (j ≠ 0) && decide (j.natAbs < 1073741824)) (mret (.int (i.fdiv j))) st
  | .Mod, .int i, .int j => mif (decide (j ≠ 0)) (mret (.int (i.fmod j))) st
  | .Pow, .int i, .int j => mif (powOk i j) (mret (.int (i ^ j.toNat))) st
  | _, _, _ => .stuck
def eqD (x y : D) (st : Store) : Option Bool := match py deep st x, py deep st y with
  | some d, some e => some (PyData.eqv d e)
  | _, _ => none
def inD (x : D) (xs : List D) : Bool := xs.any fun y => eqV (toV y) (toV x)
/-- in, at any depth -/
def inDD (st : Store) (x y : D) : Option Bool := match py deep st x, py deep st y with
  | some d, some (.list ds) => some (ds.any fun z => PyData.eqv z d)
  | some d, some (.tuple ds) => some (ds.any fun z => PyData.eqv z d)
  | _, _ => none
def inAny (st : Store) (x y : D) (xs : List D) : Option Bool := match flatD x && xs.all flatD with
  | true => some (inD x xs)
  | false => inDD st x y
def cmpD (op : CmpOp) (x y : D) : M Bool := fun st => match op with
  | .Eq => mopt (eqD x y st) st
  | .NotEq => mopt ((eqD x y st).map (!·)) st
  | .Lt => match x, y with
    | .int i, .int j => .ret (decide (i < j), st)
    | _, _ => .stuck
  | .LtE => match x, y with
    | .int i, .int j => .ret (decide (i ≤ j), st)
    | _, _ => .stuck
  | .Gt => match x, y with
    | .int i, .int j => .ret (decide (j < i), st)
    | _, _ => .stuck
  | .GtE => match x, y with
    | .int i, .int j => .ret (decide (j ≤ i), st)
    | _, _ => .stuck
  | .Is => match y with
    | .non => .ret ((match x with | .non => true | _ => false), st)
    | _ => .stuck
  | .IsNot => match y with
    | .non => .ret ((match x with | .non => false | _ => true), st)
    | _ => .stuck
  | .In => match itemsD st y with
    | some xs => mopt (inAny st x y xs) st
    | none => .stuck
  | .NotIn => match itemsD st y with
    | some xs => mopt ((inAny st x y xs).map (!·)) st
    | none => .stuck
def truthD (x : D) : M Bool := fun st => match x with
  | .non => .ret (false, st)
  | .bl b => .ret (b, st)
  | .int i => .ret (i != 0, st)
  | .str y => mif (fits y.length) (mret ((y.length : Int) != 0)) st
  | .tup xs => .ret (!xs.isEmpty, st)
  | .ref n => match st[n]? with
    | some (.lst _ xs) => .ret (!xs.isEmpty, st)
    | _ => .stuck
  | .pr _ _ => .stuck
def asB (x : D) : M Bool := fun st => match x with
  | .bl b => .ret (b, st)
  | _ => .stuck
def ixD (x i : D) : M D := fun st => match i with
  | .int k => match x with
    | .str z => mif (fits z.length) (mopt ((atI z.cps.toList k).map fun c => D.str ⟨#[c]⟩)) st
    | _ => match itemsD st x with
      | some xs => mopt (atI xs k) st
      | none => .stuck
  | _ => .stuck
def cutD (xs : List D) (lo hi : Option Int) : List D := (xs.drop (HT.sIx xs.length 0 lo)).take (HT.sIx xs.length xs.length hi - HT.sIx xs.length 0 lo)
def sliceD (x : D) (lo hi : Option Int) : M D := fun st => match x with
  | .tup xs => .ret (.tup (cutD xs lo hi), st)
  | .ref n => match st[n]? with
    | some (.lst _ xs) => mnew (cutD xs lo hi) st
    | _ => .stuck
  | .str z => mif (fits z.length) (mret (.str (cutS z lo hi))) st
  | _ => .stuck
def revD (x : D) : M D := fun st => match x with
  | .ref n => match st[n]? with
    | some (.lst true xs) => mnew xs.reverse st
    | _ => .stuck
  | _ => .stuck
/-- the type's own name (bool is not int here) -/
def tyD (st : Store) : D → Option String
  | .non => some "NoneType"
  | .bl _ => some "bool"
  | .int _ => some "int"
  | .str _ => some "str"
  | .tup _ => some "tuple"
  | .ref n => match st[n]? with
    | some (.lst _ _) => some "list"
    | _ => none
  | .pr _ _ => none
def isTy (a b : String) : Bool := a == b || (a == "bool" && b == "int")
def isiD (x : D) (tys : List String) : M D := fun st => mopt ((tyD st x).map fun a => D.bl (tys.any (isTy a))) st
/-- how long a text of a value may be, at most -/
def costs (f : D → Option Nat) : List D → Option Nat
  | [] => some 0
  | x :: xs => match f x, costs f xs with
    | some d, some ds => some (d + ds)
    | _, _ => none
def rgItems (n : Nat) : List D := (List.range n).map fun (i : Nat) => D.int (i : Int)
/-- sorted, of ints -/
def insI (x : Int) : List Int → List Int
  | [] => [x]
  | y :: r => if x ≤ y then x :: y :: r else y :: insI x r
def sortI : List Int → List Int
  | [] => []
  | x :: r => insI x (sortI r)
def bltD (f : Blt) (vs : List D) : M D := fun st => match f, vs with
  | .len, [x] => match x with
    | .str z => mif (fits z.length) (mret (.int z.length)) st
    | _ => match itemsD st x with
      | some xs => .ret (.int xs.length, st)
      | none => .stuck
  | .list, [x] => match itemsD st x with
    | some xs => mnew xs st
    | none => .stuck
  | .tuple, [x] => match itemsD st x with
    | some xs => .ret (.tup xs, st)
    | none => .stuck
  | .all, [.ref n] => match st[n]? with
    | some (.lst _ xs) => match blsD xs with
      | some bs => .ret (.bl (bs.all id), st)
      | none => .stuck
    | _ => .stuck
  | .any, [.ref n] => match st[n]? with
    | some (.lst _ xs) => match blsD xs with
      | some bs => .ret (.bl (bs.any id), st)
      | none => .stuck
    | _ => .stuck
  | .abs, [.int i] => .ret (.int (if i < 0 then -i else i), st)
  | .int, [.int i] => .ret (.int i, st)
  | .int, [.bl b] => .ret (.int (if b then 1 else 0), st)
  | .str, [.int i] => mif (decide (i.natAbs.log2 < 1920)) (mret (.str (toString i))) st
  | .str, [.bl b] => .ret (.str (if b then "True" else "False"), st)
  | .min2, [.int i, .int j] => .ret (.int (if j < i then j else i), st)
  | .max2, [.int i, .int j] => .ret (.int (if j > i then j else i), st)
  | .lcm, [.int i, .int j] => mif (decide (i.natAbs < 2 ^ 64) && decide (j.natAbs < 2 ^ 64)) (mret (.int (Nat.lcm i.natAbs j.natAbs : Nat))) st
  | .repr, [x] => match py deep st x with
    | some d => mif (d.showable && fits d.shown.length) (mret (.str d.shown)) st
    | none => .stuck
  | .sorted, [x] => match itemsD st x with
    | some xs => match intsD xs with
      | some ns => mif (fits ns.length) (mnew ((sortI ns).map D.int)) st
      | none => .stuck
    | none => .stuck
  | _, _ => .stuck
/-- list(range(n)), tuple(range(n)) -/
def rgD (l : Bool) (x : D) : M D := fun st => match x with
  | .int n => mif (decide (-100000 < n) && decide (n ≤ 100000)) (match l with | true => mnew (rgItems n.toNat) | false => mret (.tup (rgItems n.toNat))) st
  | _ => .stuck
/-- the list at n becomes xs -/
def setL (n : Nat) (xs : List D) (v : D) : M D := fun st => .ret (v, st.set n (.lst true xs))
def methD (m : Mth) (o : D) (vs : List D) : M D := fun st => match m, o, vs with
  | .append, .ref n, [y] => match st[n]? with
    | some (.lst true xs) => mif (fits (xs.length + 1)) (setL n (xs ++ [y]) .non) st
    | _ => .stuck
  | .insert, .ref n, [.int i, y] => match st[n]? with
    | some (.lst true xs) => mif (fits (xs.length + 1) && decide (0 ≤ i) && decide (i < 2 ^ 62)) (setL n (xs.take i.toNat ++ [y] ++ xs.drop i.toNat) .non) st
    | _ => .stuck
  | .pop, .ref n, [] => match st[n]? with
    | some (.lst true xs) => match xs[xs.length - 1]? with
      | some y => setL n xs.dropLast y st
      | none => .stuck
    | _ => .stuck
  | .popAt, .ref n, [.int i] => match st[n]? with
    | some (.lst true xs) => match xs[i.toNat]? with
      | some y => mif (decide (0 ≤ i) && decide (i < 2 ^ 62)) (setL n (xs.eraseIdx i.toNat) y) st
      | none => .stuck
    | _ => .stuck
  | .index, .tup xs, [y] => match xs.findIdx? fun z => eqV (toV z) (toV y) with
    | some j => mif (flatD y && xs.all flatD) (mret (.int j)) st
    | none => .stuck
  | .upper, .str z, [] => mif (Nat.ble z.length 100000) (mret (.str (Txt.upper z))) st
  | _, _, _ => .stuck
/-- a receiver of the method's kind -/
def recvOk (m : Mth) (x : D) : Bool := match m, x with
  | .upper, .str _ => true
  | .upper, _ => false
  | .index, .tup _ => true
  | .index, _ => false
  | _, .ref _ => true
  | _, _ => false
def setSubD (o i v : D) : M Unit := fun st => match o, i with
  | .ref n, .int k => match st[n]? with
    | some (.lst true xs) => match ixN xs.length k with
      | some j => .ret ((), st.set n (.lst true (xs.set j v)))
      | none => .stuck
    | _ => .stuck
  | _, _ => .stuck

/-- a op= b: ints and texts -/
def augD (op : Operator) (x y : D) : M D := fun st => match op, x, y with
  | .Add, .int i, .int j => .ret (.int (i + j), st)
  | .Add, .str i, .str j => mif (fits (i.length + j.length)) (mret (.str (i ++ j))) st
  | .Sub, .int i, .int j => .ret (.int (i - j), st)
  | .Mult, .int i, .int j => mif (mulOk i j) (mret (.int (i * j))) st
  | _, _, _ => .stuck

/-! ### what is walked -/
inductive Pl where
  | lst (n len : Nat)
  | tup (xs : List D)
  | rng (lo : Int) (n : Nat)
  | enumL (n len : Nat)
  | enumT (xs : List D)
  | zipL (n m len len2 : Nat)
  | zipT (xs ys : List D)
def plLen : Pl → Nat
  | .lst _ l => l
  | .tup xs => xs.length
  | .rng _ n => n
  | .enumL _ l => l
  | .enumT xs => xs.length
  | .zipL _ _ l l2 => min l l2
  | .zipT xs ys => min xs.length ys.length
/-- the list at n is still as long -/
def lstAt (st : Store) (n len : Nat) : Option (List D) := match st[n]? with
  | some (.lst _ xs) => if xs.length = len then some xs else none
  | _ => none
def plItem (st : Store) : Pl → Nat → Option D
  | .lst n l, i => (lstAt st n l).bind fun xs => xs[i]?
  | .tup xs, i => xs[i]?
  | .rng lo n, i => if i < n then some (.int (lo + i)) else none
  | .enumL n l, i => (lstAt st n l).bind fun xs => (xs[i]?).map fun x => .pr (.int i) x
  | .enumT xs, i => (xs[i]?).map fun x => .pr (.int i) x
  | .zipL n m l l2, i => (lstAt st n l).bind fun xs => (lstAt st m l2).bind fun ys => (xs[i]?).bind fun x => (ys[i]?).map fun y => .pr x y
  | .zipT xs ys, i => (xs[i]?).bind fun x => (ys[i]?).map fun y => .pr x y
def plEnd (st : Store) : Pl → Bool
  | .lst n l => (lstAt st n l).isSome
  | .enumL n l => (lstAt st n l).isSome
  | .zipL n m l l2 => (lstAt st n l).isSome && (lstAt st m l2).isSome
  | _ => true
def setEnvs : List Nat → List D → Evr → Option Evr
  | [], [], env => some env
  | i :: is, x :: xs, env => setEnvs is xs (env.set i (some x))
  | _, _, _ => none
def bindTg (tg : ITg) (x : D) (env : Evr) : Option Evr := match tg with
  | .name i => some (env.set i (some x))
  | .tup ts => match x with
    | .tup xs => setEnvs ts xs env
    | .pr x y => setEnvs ts [x, y] env
    | _ => none
/-- a list is unpacked like a tuple -/
def asTup (st : Store) : D → D
  | .ref n => match st[n]? with
    | some (.lst _ xs) => .tup xs
    | _ => .ref n
  | x => x

/-! ### runs -/
abbrev Calls := Str → List D → M D
/-- keywords: the positional values, then by name, in the parameters' order -/
abbrev KOrd := Str → Nat → List Str → Option (List Nat)
structure Cfg where
  call : Calls
  kord : KOrd
def pickD (xs : List D) : List Nat → Option (List D)
  | [] => some []
  | i :: r => match xs[i]?, pickD xs r with
    | some x, some ys => some (x :: ys)
    | _, _ => none
/-- a comprehension's turns: the list is at n -/
def lcLoop (turn : D → M (Option D)) (pl : Pl) (n : Nat) : Nat → Nat → Store → T (Unit × Store)
  | 0, _, st => mif (plEnd st pl) (mret ()) st
  | r + 1, i, st => match plItem st pl i with
    | none => .stuck
    | some x => (turn x st).nox.bind fun p => match p.1 with
      | none => lcLoop turn pl n r (i + 1) p.2
      | some y => match p.2[n]? with
        | some (.lst true xs) => match fits (xs.length + 1) with
          | true => lcLoop turn pl n r (i + 1) (p.2.set n (.lst true (xs ++ [y])))
          | false => .stuck
        | _ => .stuck
def wipeE (env : Evr) : List Nat → Evr
  | [] => env
  | i :: r => (wipeE env r).set i none
mutual
def ev (C : Cfg) : IE → Evr → M D
  | .var i, env => mopt (env[i]?.bind id)
  | .cint i, _ => mret (.int i)
  | .cstr x, _ => mret (.str x)
  | .cbl b, _ => mret (.bl b)
  | .cnon, _ => mret .non
  | .tup es, env => mbind (evs C es env) fun xs => mif (fits xs.length) (mret (.tup xs))
  | .lst es, env => mbind (evs C es env) fun xs => mif (fits xs.length) (mnew xs)
  | .bin op a b, env => mbind (ev C a env) fun x => mbind (ev C b env) fun y => binD op x y
  | .neg a, env => mbind (ev C a env) fun x => match x with
    | .int i => mret (.int (-i))
    | _ => mstuck
  | .cmp op a b, env => mbind (ev C a env) fun x => mbind (ev C b env) fun y => mbind (cmpD op x y) fun k => mret (.bl k)
  | .chain o1 o2 a b c, env => mbind (ev C a env) fun x => mbind (ev C b env) fun y => mbind (cmpD o1 x y) fun k => match k with
    | true => mbind (ev C c env) fun z => mbind (cmpD o2 y z) fun k => mret (.bl k)
    | false => mret (.bl false)
  | .and a b, env => mbind (ev C a env) fun x => mbind (asB x) fun k => match k with
    | true => ev C b env
    | false => mret (.bl false)
  | .or a b, env => mbind (ev C a env) fun x => mbind (asB x) fun k => match k with
    | true => mret (.bl true)
    | false => ev C b env
  | .not a, env => mbind (ev C a env) fun x => mbind (truthD x) fun k => mret (.bl (!k))
  | .ite c a b, env => mbind (ev C c env) fun x => mbind (truthD x) fun k => match k with
    | true => ev C a env
    | false => ev C b env
  | .ix a i, env => mbind (ev C a env) fun x => mbind (ev C i env) fun k => ixD x k
  | .slice a lo hi, env => mbind (ev C a env) fun x => mbind (evO C lo env) fun l => mbind (evO C hi env) fun h => sliceD x l h
  | .rev a, env => mbind (ev C a env) fun x => revD x
  | .blt f es, env => mbind (evs C es env) fun xs => bltD f xs
  | .lr a, env => mbind (ev C a env) fun x => rgD true x
  | .tr a, env => mbind (ev C a env) fun x => rgD false x
  | .isi e tys, env => mbind (ev C e env) fun x => isiD x tys
  | .call f es, env => mbind (evs C es env) fun xs => C.call f xs
  | .callK f es ks ws, env => mbind (evs C es env) fun xs => mbind (evs C ws env) fun ys => match C.kord f xs.length ks with
    | some o => match pickD (xs ++ ys) o with
      | some zs => C.call f zs
      | none => mstuck
    | none => mstuck
  | .meth m o es, env => mbind (ev C o env) fun x => mif (recvOk m x) (mbind (evs C es env) fun xs => methD m x xs)
  | .lc own tg it c e, env => mbind (evIt C it env) fun pl => fun st =>
      (lcLoop (fun x => match bindTg tg x (wipeE env (own.map (·.2))) with
        | none => mstuck
        | some env' => mbind (evC C c env') fun k => match k with
          | false => mret none
          | true => mbind (ev C e env') fun y => mret (some y)) pl st.length (plLen pl) 0 (st ++ [.lst true []])).bind fun p => .ret (.ref st.length, p.2)
def evs (C : Cfg) : IEs → Evr → M (List D)
  | .nil, _ => mret []
  | .cons e es, env => mbind (ev C e env) fun x => mbind (evs C es env) fun xs => mret (x :: xs)
/-- a slice's part -/
def evO (C : Cfg) : IO → Evr → M (Option Int)
  | .none, _ => mret none
  | .some e, env => mbind (ev C e env) fun x => match x with
    | .int i => mret (some i)
    | _ => mstuck
/-- a comprehension's test -/
def evC (C : Cfg) : IO → Evr → M Bool
  | .none, _ => mret true
  | .some e, env => mbind (ev C e env) fun x => truthD x
def evIt (C : Cfg) : IIt → Evr → M Pl
  | .seq e, env => mbind (ev C e env) fun x => fun st => match x with
    | .tup xs => .ret (.tup xs, st)
    | .ref n => match st[n]? with
      | some (.lst _ xs) => .ret (.lst n xs.length, st)
      | _ => .stuck
    | _ => .stuck
  | .range1 a, env => mbind (ev C a env) fun x => match x with
    | .int j => mif (decide (-(2 ^ 62) ≤ j) && decide (j < 2 ^ 62)) (mret (.rng 0 j.toNat))
    | _ => mstuck
  | .range2 a b, env => mbind (ev C a env) fun x => mbind (ev C b env) fun y => match x, y with
    | .int i, .int j => mif (decide (-(2 ^ 62) ≤ i) && decide (i < 2 ^ 62) && decide (-(2 ^ 62) ≤ j) && decide (j < 2 ^ 62)) (mret (.rng i (j - i).toNat))
    | _, _ => mstuck
  | .enum e, env => mbind (ev C e env) fun x => fun st => match x with
    | .tup xs => .ret (.enumT xs, st)
    | .ref n => match st[n]? with
      | some (.lst _ xs) => .ret (.enumL n xs.length, st)
      | _ => .stuck
    | _ => .stuck
  | .zip a b, env => mbind (ev C a env) fun x => mbind (ev C b env) fun y => fun st => match x, y with
    | .tup xs, .tup ys => .ret (.zipT xs ys, st)
    | .ref n, .ref m => match st[n]?, st[m]? with
      | some (.lst _ xs), some (.lst _ ys) => .ret (.zipL n m xs.length ys.length, st)
      | _, _ => .stuck
    | _, _ => .stuck
end
inductive Fl where
  | next | brk | cont
  | ret (v : D)
  | exc (x : Ex)
/-- an expression within a statement: an exception ends the statement, the names as they stand -/
def T.resc {α : Type} (env : Evr) (f : α → M (Fl × Evr)) : T (α × Store) → T ((Fl × Evr) × Store)
  | .ret p => f p.1 p.2
  | .draw n k => .draw n fun v => (k v).resc env f
  | .exc x st => .ret ((.exc x, env), st)
  | .stuck => .stuck
def doE {α : Type} (env : Evr) (m : M α) (f : α → M (Fl × Evr)) : M (Fl × Evr) := fun st => (m st).resc env f
def forLoop (body : Evr → M (Fl × Evr)) (tg : ITg) (pl : Pl) : Nat → Nat → Evr → M (Fl × Evr)
  | 0, _, env => fun st => mif (plEnd st pl) (mret (.next, env)) st
  | r + 1, i, env => fun st => match plItem st pl i with
    | none => .stuck
    | some x => match bindTg tg x env with
      | none => .stuck
      | some env1 => (body env1 st).bind fun p => match p.1.1 with
        | .next => forLoop body tg pl r (i + 1) p.1.2 p.2
        | .cont => forLoop body tg pl r (i + 1) p.1.2 p.2
        | .brk => .ret ((.next, p.1.2), p.2)
        | .ret v => .ret ((.ret v, p.1.2), p.2)
        | .exc x => .ret ((.exc x, p.1.2), p.2)
def whileLoop (test : Evr → M Bool) (body : Evr → M (Fl × Evr)) : Nat → Evr → M (Fl × Evr)
  | 0, _ => mstuck
  | r + 1, env => doE env (test env) fun k => match k with
    | false => mret (.next, env)
    | true => mbind (body env) fun p => match p.1 with
      | .next => whileLoop test body r p.2
      | .cont => whileLoop test body r p.2
      | .brk => mret (.next, p.2)
      | .ret v => mret (.ret v, p.2)
      | .exc x => mret (.exc x, p.2)
/-- turns of a while, at most -/
def turns : Nat := 1000000
mutual
def ex (C : Cfg) : IS → Evr → M (Fl × Evr)
  | .set i e, env => doE env (ev C e env) fun x => mret (.next, env.set i (some x))
  | .setT ts e, env => doE env (ev C e env) fun x => fun st => match bindTg (.tup ts) (asTup st x) env with
    | some env' => .ret ((.next, env'), st)
    | none => .stuck
  | .setSub o i e, env => doE env (mbind (ev C e env) fun v => mbind (ev C o env) fun x => mbind (ev C i env) fun k => setSubD x k v) fun _ => mret (.next, env)
  | .aug i op e, env => doE env (mbind (mopt (env[i]?.bind id)) fun x => mbind (ev C e env) fun y => augD op x y) fun z => mret (.next, env.set i (some z))
  | .expr e, env => doE env (ev C e env) fun _ => mret (.next, env)
  | .ret e, env => doE env (ev C e env) fun x => mret (.ret x, env)
  | .ite c a b, env => doE env (mbind (ev C c env) truthD) fun k => match k with
    | true => exs C a env
    | false => exs C b env
  | .for tg it body, env => doE env (evIt C it env) fun pl => forLoop (exs C body) tg pl (plLen pl) 0 env
  | .while c body, env => whileLoop (fun env => mbind (ev C c env) truthD) (exs C body) turns env
  | .par ts es, env => doE env (evs C es env) fun xs => match setEnvs ts xs env with
    | some env' => mret (.next, env')
    | none => mstuck
  | .pass, env => mret (.next, env)
  | .brk, env => mret (.brk, env)
  | .cont, env => mret (.cont, env)
def exs (C : Cfg) : ISs → Evr → M (Fl × Evr)
  | .nil, env => mret (.next, env)
  | .cons s ss, env => mbind (ex C s env) fun p => match p.1 with
    | .next => exs C ss p.2
    | .brk => mret (.brk, p.2)
    | .cont => mret (.cont, p.2)
    | .ret v => mret (.ret v, p.2)
    | .exc x => mret (.exc x, p.2)
end
/-- a def: its parameters, its names' number, its body; or a source of draws -/
inductive Fn where
  | code (ps : List Str) (n : Nat) (body : ISs)
  | draw
  | box
abbrev Tab := List (Str × Fn)
def kordT (F : Tab) : KOrd := fun f n ks => match F.lookup f with
  | some (.code ps _ _) => some (ps.mapIdx fun i p => if i < n then i else n + ks.findIdx (· == p))
  | _ => none
def run (F : Tab) : Nat → Calls
  | 0, _, _ => mstuck
  | k + 1, f, vs => match F.lookup f with
    | none => mstuck
    | some (.code ps n body) => match decide (vs.length = ps.length) with
      | false => mstuck
      | true => fun st => (exs ⟨run F k, kordT F⟩ body (vs.map some ++ List.replicate (n - vs.length) none) st).nox.bind fun p => match p.1.1 with
        | .ret v => .ret (v, p.2)
        | .next => .ret (.non, p.2)
        | .exc x => .exc x p.2
        | _ => .stuck
    | some .draw => fun st => match vs with
      | [.ref r, .int n] => match st[r]? with
        | some .rng => match decide (0 < n) && decide (n < 1073741824) with
          | true => .draw n fun v => .ret (.int v, st)
          | false => .stuck
        | _ => .stuck
      | _ => .stuck
    | some .box => fun st => match vs with
      | [.ref s, .int k] => match st[s]? with
        | some (.lst false xs) => match intsD xs, decide (0 ≤ k) && decide (k < 1000) with
          | some _, true => .ret (.ref st.length, st ++ [.rng])
          | _, _ => .stuck
        | _ => .stuck
      | _ => .stuck
end DI
end
section
namespace DI
open PySem L2
variable {K : PySem.W.Frag}

/-! ### what a value of the little language stands for -/
/-- a tuple whose object bears no dict -/
def PlT (K : PySem.W.Frag) (H : Hp) (a : Addr) (vs : List V) : Prop :=
  (∃ o : Obj, H a = some (.frz o (.tup vs)) ∧ o.dict = none) ∨
  ∃ (o : Obj) (its : Array Value) (n : Nat), K.lookup a = some o ∧ o.cls = .type "tuple" ∧ o.dict = none ∧ o.data = .seq its n ∧ its.size ≤ sizeLine ∧ Vals vs its.toList
theorem PlT.sq {K : PySem.W.Frag} {H : Hp} {a : Addr} {vs : List V} (h : PlT K H a vs) : SqT K H a vs := by
  rcases h with ⟨o, h, _⟩ | ⟨o, its, n, h1, h2, _, h3, h4, h5⟩
  · exact .inl (.inr ⟨o, h⟩)
  · exact .inr ⟨o, its, n, h1, h2, h3, h4, h5⟩
mutual
inductive RD (K : PySem.W.Frag) (α : List Addr) (H : Hp) : D → V → Prop
  | non : RD K α H .non .non
  | bl (b : Bool) : RD K α H (.bl b) (.bl b)
  | int (i : Int) : RD K α H (.int i) (.int i)
  | str (x : Str) : RD K α H (.str x) (.str x)
  | tup {ds : List D} {vs : List V} {a : Addr} : PlT K H a vs → RDs K α H ds vs → RD K α H (.tup ds) (.ref a)
  | pr {x y : D} {v u : V} {a : Addr} : SqT K H a [v, u] → RD K α H x v → RD K α H y u → RD K α H (.pr x y) (.ref a)
  | ref {n : Nat} {a : Addr} : α[n]? = some a → RD K α H (.ref n) (.ref a)
inductive RDs (K : PySem.W.Frag) (α : List Addr) (H : Hp) : List D → List V → Prop
  | nil : RDs K α H [] []
  | cons {d : D} {v : V} {ds : List D} {vs : List V} : RD K α H d v → RDs K α H ds vs → RDs K α H (d :: ds) (v :: vs)
end
/-- a list that may be read -/
def Fz (K : PySem.W.Frag) (H : Hp) (a : Addr) (vs : List V) : Prop :=
  (∃ o, H a = some (.frz o (.lst vs))) ∨ (∀ H' : Hp, SqL K H' a vs)
def rngMax : Nat := 2 ^ 40
def SOk (K : PySem.W.Frag) (α : List Addr) (H : Hp) (b : Nat) : SO → Addr → Prop
  | .lst true xs, a => ∃ vs, H a = some (.lst vs) ∧ RDs K α H xs vs
  | .lst false xs, a => ∃ vs, Fz K H a vs ∧ RDs K α H xs vs
  | .rng, a => ∃ x y z : Int, H a = some (.lst [.int x, .int y, .int z]) ∧ 0 ≤ x ∧ 0 ≤ y ∧ y < 2 ^ 40 ∧ 0 ≤ z ∧ z + b ≤ 2 ^ 40
/-- what may be written -/
def SO.wr : SO → Bool
  | .lst w _ => w
  | .rng => true
structure Rel (K : PySem.W.Frag) (α : List Addr) (H : Hp) (st : Store) (b : Nat) : Prop where
  len : α.length = st.length
  bud : b ≤ 2 ^ 40
  at_ : ∀ (n : Nat) (so : SO) (a : Addr), st[n]? = some so → α[n]? = some a → SOk K α H b so a
  inj : ∀ (n m : Nat) (so so' : SO) (a : Addr), st[n]? = some so → st[m]? = some so' → so.wr = true → so'.wr = true → α[n]? = some a → α[m]? = some a → n = m
structure Ext (K : PySem.W.Frag) (α : List Addr) (H : Hp) (α' : List Addr) (H' : Hp) : Prop where
  pre : ∀ (n : Nat) (a : Addr), α[n]? = some a → α'[n]? = some a
  tup : ∀ (a : Addr) (vs : List V), SqT K H a vs → SqT K H' a vs
  plt : ∀ (a : Addr) (vs : List V), PlT K H a vs → PlT K H' a vs
theorem Ext.refl (α : List Addr) (H : Hp) : Ext K α H α H := ⟨fun _ _ h => h, fun _ _ h => h, fun _ _ h => h⟩
theorem Ext.trans {α α1 α2 : List Addr} {H H1 H2 : Hp} (a : Ext K α H α1 H1) (b : Ext K α1 H1 α2 H2) : Ext K α H α2 H2 :=
  ⟨fun n x h => b.pre n x (a.pre n x h), fun x vs h => b.tup x vs (a.tup x vs h), fun x vs h => b.plt x vs (a.plt x vs h)⟩
mutual
theorem RD.ext {α α' : List Addr} {H H' : Hp} (e : Ext K α H α' H') : ∀ {d : D} {v : V}, RD K α H d v → RD K α' H' d v
  | _, _, .non => .non
  | _, _, .bl b => .bl b
  | _, _, .int i => .int i
  | _, _, .str x => .str x
  | _, _, .tup h r => .tup (e.plt _ _ h) (RDs.ext e r)
  | _, _, .pr h r s => .pr (e.tup _ _ h) (RD.ext e r) (RD.ext e s)
  | _, _, .ref h => .ref (e.pre _ _ h)
theorem RDs.ext {α α' : List Addr} {H H' : Hp} (e : Ext K α H α' H') : ∀ {d : List D} {v : List V}, RDs K α H d v → RDs K α' H' d v
  | _, _, .nil => .nil
  | _, _, .cons h r => .cons (RD.ext e h) (RDs.ext e r)
end
theorem RDs.length {α : List Addr} {H : Hp} : ∀ {ds : List D} {vs : List V}, RDs K α H ds vs → ds.length = vs.length
  | _, _, .nil => rfl
  | _, _, .cons _ r => by rw [List.length_cons, List.length_cons, RDs.length r]
theorem RDs.append {α : List Addr} {H : Hp} : ∀ {ds es : List D} {vs us : List V}, RDs K α H ds vs → RDs K α H es us → RDs K α H (ds ++ es) (vs ++ us)
  | _, _, _, _, .nil, s => s
  | _, _, _, _, .cons h r, s => .cons h (RDs.append r s)
theorem RDs.get {α : List Addr} {H : Hp} : ∀ {ds : List D} {vs : List V} {i : Nat} {d : D}, RDs K α H ds vs → ds[i]? = some d → ∃ v, vs[i]? = some v ∧ RD K α H d v
  | _, _, _, _, .nil, e => by simp at e
  | _, _, 0, _, .cons h _, e => by simp at e; subst e; exact ⟨_, rfl, h⟩
  | _, _, i + 1, _, .cons _ r, e => by
    obtain ⟨v, h1, h2⟩ := RDs.get (i := i) r (by simpa using e)
    exact ⟨v, by simpa using h1, h2⟩
theorem RDs.getV {α : List Addr} {H : Hp} : ∀ {ds : List D} {vs : List V} {i : Nat} {v : V}, RDs K α H ds vs → vs[i]? = some v → ∃ d, ds[i]? = some d ∧ RD K α H d v
  | _, _, _, _, .nil, e => by simp at e
  | _, _, 0, _, .cons h _, e => by simp at e; subst e; exact ⟨_, rfl, h⟩
  | _, _, i + 1, _, .cons _ r, e => by
    obtain ⟨v, h1, h2⟩ := RDs.getV (i := i) r (by simpa using e)
    exact ⟨v, by simpa using h1, h2⟩
theorem RDs.take {α : List Addr} {H : Hp} : ∀ {ds : List D} {vs : List V} (n : Nat), RDs K α H ds vs → RDs K α H (ds.take n) (vs.take n)
  | _, _, 0, _ => .nil
  | _, _, _ + 1, .nil => .nil
  | _, _, n + 1, .cons h r => .cons h (RDs.take n r)
theorem RDs.drop {α : List Addr} {H : Hp} : ∀ {ds : List D} {vs : List V} (n : Nat), RDs K α H ds vs → RDs K α H (ds.drop n) (vs.drop n)
  | _, _, 0, r => r
  | _, _, _ + 1, .nil => .nil
  | _, _, n + 1, .cons _ r => RDs.drop n r
theorem RDs.set {α : List Addr} {H : Hp} {d : D} {v : V} (h : RD K α H d v) : ∀ {ds : List D} {vs : List V} (n : Nat), RDs K α H ds vs → RDs K α H (ds.set n d) (vs.set n v)
  | _, _, _, .nil => .nil
  | _, _, 0, .cons _ r => .cons h r
  | _, _, n + 1, .cons q r => .cons q (RDs.set h n r)
theorem RDs.eraseIdx {α : List Addr} {H : Hp} : ∀ {ds : List D} {vs : List V} (n : Nat), RDs K α H ds vs → RDs K α H (ds.eraseIdx n) (vs.eraseIdx n)
  | _, _, _, .nil => .nil
  | _, _, 0, .cons _ r => r
  | _, _, n + 1, .cons q r => .cons q (RDs.eraseIdx n r)
theorem RDs.reverse {α : List Addr} {H : Hp} {ds : List D} {vs : List V} (r : RDs K α H ds vs) : RDs K α H ds.reverse vs.reverse := by
  induction ds generalizing vs with
  | nil => cases r; exact .nil
  | cons d ds ih =>
    cases r with
    | cons h r =>
      rw [List.reverse_cons, List.reverse_cons]
      exact (ih r).append (.cons h .nil)
theorem RDs.rep {α : List Addr} {H : Hp} {ds : List D} {vs : List V} (r : RDs K α H ds vs) : ∀ k : Nat, RDs K α H (List.replicate k ds).flatten (List.replicate k vs).flatten
  | 0 => .nil
  | k + 1 => by
    rw [List.replicate_succ, List.replicate_succ, List.flatten_cons, List.flatten_cons]
    exact r.append (RDs.rep r k)
theorem RDs.dropLast {α : List Addr} {H : Hp} {ds : List D} {vs : List V} (r : RDs K α H ds vs) : RDs K α H ds.dropLast vs.dropLast := by
  rw [List.dropLast_eq_take, List.dropLast_eq_take, r.length]
  exact r.take _
theorem RDs.nil_iff {α : List Addr} {H : Hp} {ds : List D} {vs : List V} (r : RDs K α H ds vs) : ds = [] ↔ vs = [] := by
  cases r with
  | nil => exact ⟨fun _ => rfl, fun _ => rfl⟩
  | cons h r => exact ⟨fun z => (by cases z), fun z => (by cases z)⟩
theorem RDs.isEmpty {α : List Addr} {H : Hp} {ds : List D} {vs : List V} (r : RDs K α H ds vs) : ds.isEmpty = vs.isEmpty := by
  cases r <;> rfl

/-! ### the heap grows, an object changes -/
theorem sqt_new {H : Hp} {p a : Addr} {o : HO} {vs : List V} (hp : H p = none) (h : SqT K H a vs) : SqT K (upd H p o) a vs := by
  rcases h with (h | ⟨ob, h⟩) | h
  · exact .inl (.inl (by rw [upd_ne (ne_of_none h hp)]; exact h))
  · exact .inl (.inr ⟨ob, by rw [upd_ne (ne_of_none h hp)]; exact h⟩)
  · exact .inr h
theorem sqt_upd {H : Hp} {p a : Addr} {o : HO} {xs vs : List V} (hp : H p = some (.lst xs)) (h : SqT K H a vs) : SqT K (upd H p o) a vs := by
  rcases h with (h | ⟨ob, h⟩) | h
  · exact .inl (.inl (by rw [upd_ne (ne_of h hp (by intro z; cases z))]; exact h))
  · exact .inl (.inr ⟨ob, by rw [upd_ne (ne_of h hp (by intro z; cases z))]; exact h⟩)
  · exact .inr h
theorem plt_new {H : Hp} {p a : Addr} {o : HO} {vs : List V} (hp : H p = none) (h : PlT K H a vs) : PlT K (upd H p o) a vs := by
  rcases h with ⟨ob, h, d⟩ | h
  · exact .inl ⟨ob, by rw [upd_ne (ne_of_none h hp)]; exact h, d⟩
  · exact .inr h
theorem plt_upd {H : Hp} {p a : Addr} {o : HO} {xs vs : List V} (hp : H p = some (.lst xs)) (h : PlT K H a vs) : PlT K (upd H p o) a vs := by
  rcases h with ⟨ob, h, d⟩ | h
  · exact .inl ⟨ob, by rw [upd_ne (ne_of h hp (by intro z; cases z))]; exact h, d⟩
  · exact .inr h
theorem ext_new {α : List Addr} {H : Hp} {p : Addr} {o : HO} (hp : H p = none) : Ext K α H α (upd H p o) := ⟨fun _ _ h => h, fun _ _ h => sqt_new hp h, fun _ _ h => plt_new hp h⟩
theorem ext_newA {α : List Addr} {H : Hp} {p : Addr} {o : HO} (hp : H p = none) : Ext K α H (α ++ [p]) (upd H p o) :=
  ⟨fun n a h => by rw [List.getElem?_append_left (List.getElem?_eq_some_iff.mp h).1]; exact h, fun _ _ h => sqt_new hp h, fun _ _ h => plt_new hp h⟩
theorem ext_upd {α : List Addr} {H : Hp} {p : Addr} {o : HO} {xs : List V} (hp : H p = some (.lst xs)) : Ext K α H α (upd H p o) := ⟨fun _ _ h => h, fun _ _ h => sqt_upd hp h, fun _ _ h => plt_upd hp h⟩
theorem Fz.sq {H : Hp} {a : Addr} {vs : List V} (h : Fz K H a vs) : SqL K H a vs := by
  rcases h with ⟨o, h⟩ | h
  · exact .inl (.inr ⟨o, h⟩)
  · exact h H
theorem Fz.new {H : Hp} {p a : Addr} {o : HO} {vs : List V} (hp : H p = none) (h : Fz K H a vs) : Fz K (upd H p o) a vs := by
  rcases h with ⟨ob, h⟩ | h
  · exact .inl ⟨ob, by rw [upd_ne (ne_of_none h hp)]; exact h⟩
  · exact .inr h
theorem Fz.upd {H : Hp} {p a : Addr} {o : HO} {xs vs : List V} (hp : H p = some (.lst xs)) (h : Fz K H a vs) : Fz K (upd H p o) a vs := by
  rcases h with ⟨ob, h⟩ | h
  · exact .inl ⟨ob, by rw [upd_ne (ne_of h hp (by intro z; cases z))]; exact h⟩
  · exact .inr h
theorem SOk.wrAt {α : List Addr} {H : Hp} {b : Nat} {so : SO} {a : Addr} (h : SOk K α H b so a) (w : so.wr = true) : ∃ xs, H a = some (.lst xs) := by
  cases so with
  | lst w' xs =>
    cases w' with
    | true => obtain ⟨vs, h, _⟩ := h; exact ⟨vs, h⟩
    | false => cases w
  | rng => obtain ⟨x, y, z, h, _⟩ := h; exact ⟨_, h⟩
theorem SOk.new {α : List Addr} {H : Hp} {b : Nat} {so : SO} {a p : Addr} {α' : List Addr} {o : HO} (hp : H p = none) (e : Ext K α H α' (upd H p o)) (h : SOk K α H b so a) : SOk K α' (upd H p o) b so a := by
  cases so with
  | lst w xs =>
    cases w with
    | true =>
      obtain ⟨vs, h, r⟩ := h
      exact ⟨vs, by rw [upd_ne (ne_of_none h hp)]; exact h, r.ext e⟩
    | false =>
      obtain ⟨vs, h, r⟩ := h
      exact ⟨vs, h.new hp, r.ext e⟩
  | rng =>
    obtain ⟨x, y, z, h, q⟩ := h
    exact ⟨x, y, z, by rw [upd_ne (ne_of_none h hp)]; exact h, q⟩
theorem SOk.upd {α : List Addr} {H : Hp} {b : Nat} {so : SO} {a p : Addr} {xs : List V} {o : HO} (hp : H p = some (.lst xs)) (hn : so.wr = true → a ≠ p) (h : SOk K α H b so a) : SOk K α (upd H p o) b so a := by
  have e : Ext K α H α (L2.upd H p o) := ext_upd hp
  cases so with
  | lst w xs =>
    cases w with
    | true =>
      obtain ⟨vs, h, r⟩ := h
      exact ⟨vs, by rw [upd_ne (hn rfl)]; exact h, r.ext e⟩
    | false =>
      obtain ⟨vs, h, r⟩ := h
      exact ⟨vs, h.upd hp, r.ext e⟩
  | rng =>
    obtain ⟨x, y, z, h, q⟩ := h
    exact ⟨x, y, z, by rw [upd_ne (hn rfl)]; exact h, q⟩
theorem SOk.less {α : List Addr} {H : Hp} {b b' : Nat} {so : SO} {a : Addr} (hb : b' ≤ b) (h : SOk K α H b so a) : SOk K α H b' so a := by
  cases so with
  | lst w xs => cases w <;> exact h
  | rng =>
    obtain ⟨x, y, z, h, q1, q2, q3, q4, q5⟩ := h
    exact ⟨x, y, z, h, q1, q2, q3, q4, by omega⟩
section
variable {α : List Addr} {H : Hp} {st : Store} {b : Nat}
theorem Rel.less {b' : Nat} (R : Rel K α H st b) (hb : b' ≤ b) : Rel K α H st b' := ⟨R.len, Nat.le_trans hb R.bud, fun n so a h1 h2 => (R.at_ n so a h1 h2).less hb, R.inj⟩
theorem Rel.addr (R : Rel K α H st b) {n : Nat} {so : SO} (h : st[n]? = some so) : ∃ a, α[n]? = some a := by
  have h1 := (List.getElem?_eq_some_iff.mp h).1
  exact ⟨α[n]'(by rw [R.len]; exact h1), List.getElem?_eq_getElem (by rw [R.len]; exact h1)⟩
/-- a new tuple -/
theorem Rel.newT (R : Rel K α H st b) {p : Addr} {o : HO} (hp : H p = none) : Rel K α (upd H p o) st b :=
  ⟨R.len, R.bud, fun n so a h1 h2 => (R.at_ n so a h1 h2).new hp (ext_new hp), R.inj⟩
/-- a new thing of the store -/
theorem Rel.newS (R : Rel K α H st b) {p : Addr} {o : HO} {so : SO} (hp : H p = none) (hs : SOk K (α ++ [p]) (upd H p o) b so p) : Rel K (α ++ [p]) (upd H p o) (st ++ [so]) b := by
  refine ⟨by rw [List.length_append, List.length_append, R.len]; rfl, R.bud, fun n s a h1 h2 => ?_, fun n m s s' a h1 h2 w1 w2 e1 e2 => ?_⟩
  · by_cases hn : n < st.length
    · rw [List.getElem?_append_left hn] at h1
      rw [List.getElem?_append_left (by rw [R.len]; exact hn)] at h2
      exact (R.at_ n s a h1 h2).new hp (ext_newA hp)
    · have e : n = st.length := by
        have := (List.getElem?_eq_some_iff.mp h1).1
        rw [List.length_append] at this
        have q : ([so] : List SO).length = 1 := rfl
        omega
      subst e
      rw [List.getElem?_append_right (Nat.le_refl _), Nat.sub_self] at h1
      rw [List.getElem?_append_right (by rw [R.len]; exact Nat.le_refl _), R.len, Nat.sub_self] at h2
      cases h1
      cases h2
      exact hs
  · have key : ∀ (k : Nat) (s : SO), (st ++ [so])[k]? = some s → s.wr = true → (α ++ [p])[k]? = some a → (k < st.length ∧ st[k]? = some s ∧ α[k]? = some a ∧ a ≠ p) ∨ (k = st.length ∧ a = p) := by
      intro k s h1 w e
      by_cases hn : k < st.length
      · rw [List.getElem?_append_left hn] at h1
        rw [List.getElem?_append_left (by rw [R.len]; exact hn)] at e
        obtain ⟨xs, hx⟩ := (R.at_ k s a h1 e).wrAt w
        exact .inl ⟨hn, h1, e, ne_of_none hx hp⟩
      · have e' : k = st.length := by
          have := (List.getElem?_eq_some_iff.mp h1).1
          rw [List.length_append] at this
          have q : ([so] : List SO).length = 1 := rfl
          omega
        subst e'
        rw [List.getElem?_append_right (by rw [R.len]; exact Nat.le_refl _), R.len, Nat.sub_self] at e
        cases e
        exact .inr ⟨rfl, rfl⟩
    rcases key n s h1 w1 e1 with ⟨q1, q2, q3, q4⟩ | ⟨q1, q2⟩
    · rcases key m s' h2 w2 e2 with ⟨r1, r2, r3, r4⟩ | ⟨r1, r2⟩
      · exact R.inj n m s s' a q2 r2 w1 w2 q3 r3
      · exact absurd r2 q4
    · rcases key m s' h2 w2 e2 with ⟨r1, r2, r3, r4⟩ | ⟨r1, r2⟩
      · exact absurd q2 r4
      · rw [q1, r1]
/-- a new list -/
theorem Rel.newL (R : Rel K α H st b) {p : Addr} {xs : List D} {vs : List V} (hp : H p = none) (r : RDs K α H xs vs) : Rel K (α ++ [p]) (upd H p (.lst vs)) (st ++ [.lst true xs]) b :=
  R.newS hp ⟨vs, upd_same, r.ext (ext_newA hp)⟩
theorem Rel.last (R : Rel K α H st b) {p : Addr} : (α ++ [p])[st.length]? = some p := by
  rw [List.getElem?_append_right (by rw [R.len]; exact Nat.le_refl _), R.len, Nat.sub_self]
  rfl
/-- a thing of the store changes -/
theorem Rel.setS (R : Rel K α H st b) {n : Nat} {so so' : SO} {a : Addr} {o : HO} (hs : st[n]? = some so) (hw : so.wr = true) (ha : α[n]? = some a) (hn : SOk K α (upd H a o) b so' a) : Rel K α (upd H a o) (st.set n so') b := by
  have hx : n < st.length := (List.getElem?_eq_some_iff.mp hs).1
  obtain ⟨xs0, h0⟩ := (R.at_ n so a hs ha).wrAt hw
  refine ⟨by rw [List.length_set, R.len], R.bud, fun m s c h1 h2 => ?_, fun m k s s' c h1 h2 w1 w2 e1 e2 => ?_⟩
  · by_cases hm : m = n
    · subst hm
      rw [List.getElem?_set_self hx] at h1
      rw [ha] at h2
      cases h1
      cases h2
      exact hn
    · rw [List.getElem?_set_ne (Ne.symm hm)] at h1
      exact (R.at_ m s c h1 h2).upd h0 fun w z => hm (R.inj m n s so c h1 hs w hw h2 (by rw [z]; exact ha))
  · have key : ∀ (k : Nat) (s : SO), (st.set n so')[k]? = some s → s.wr = true → α[k]? = some c → ∃ s2, st[k]? = some s2 ∧ s2.wr = true := by
      intro k s h w e
      by_cases hk : k = n
      · subst hk
        exact ⟨so, hs, hw⟩
      · rw [List.getElem?_set_ne (Ne.symm hk)] at h
        exact ⟨s, h, w⟩
    obtain ⟨s1, q1, q2⟩ := key m s h1 w1 e1
    obtain ⟨s2, r1, r2⟩ := key k s' h2 w2 e2
    exact R.inj m k s1 s2 c q1 r1 q2 r2 e1 e2
/-- a list of the store, at its address -/
theorem Rel.lstW (R : Rel K α H st b) {n : Nat} {xs : List D} {a : Addr} (hs : st[n]? = some (.lst true xs)) (ha : α[n]? = some a) : ∃ vs, H a = some (.lst vs) ∧ RDs K α H xs vs := R.at_ n _ a hs ha
theorem Rel.lst (R : Rel K α H st b) {n : Nat} {w : Bool} {xs : List D} {a : Addr} (hs : st[n]? = some (.lst w xs)) (ha : α[n]? = some a) : ∃ vs, SqL K H a vs ∧ RDs K α H xs vs := by
  have h := R.at_ n _ a hs ha
  cases w with
  | true => obtain ⟨vs, h, r⟩ := h; exact ⟨vs, .of h, r⟩
  | false => obtain ⟨vs, h, r⟩ := h; exact ⟨vs, h.sq, r⟩
theorem Rel.setL (R : Rel K α H st b) {n : Nat} {xs ys : List D} {vs : List V} {a : Addr} (hs : st[n]? = some (.lst true xs)) (ha : α[n]? = some a) (r : RDs K α H ys vs) : Rel K α (upd H a (.lst vs)) (st.set n (.lst true ys)) b := by
  obtain ⟨us, h0, _⟩ := R.lstW hs ha
  exact R.setS hs rfl ha ⟨vs, upd_same, r.ext (ext_upd h0)⟩
end

/-! ### slots -/
structure REnv (K : PySem.W.Frag) (α : List Addr) (H : Hp) (env : Evr) (σ : St) : Prop where
  len : env.length = σ.length
  at_ : ∀ (i : Nat) (d : D), env[i]? = some (some d) → ∃ v, σ[i]? = some (some v) ∧ RD K α H d v
section
variable {α α' : List Addr} {H H' : Hp} {env : Evr} {σ : St}
theorem REnv.ext (r : REnv K α H env σ) (e : Ext K α H α' H') : REnv K α' H' env σ := ⟨r.len, fun i d h => let ⟨v, h1, h2⟩ := r.at_ i d h; ⟨v, h1, h2.ext e⟩⟩
theorem REnv.set (r : REnv K α H env σ) {d : D} {v : V} (i : Nat) (h : RD K α H d v) : REnv K α H (env.set i (some d)) (σ.set i (some v)) := by
  refine ⟨by rw [List.length_set, List.length_set, r.len], fun j e he => ?_⟩
  by_cases hj : i = j
  · subst hj
    have hl : i < env.length := by
      have := (List.getElem?_eq_some_iff.mp he).1
      rwa [List.length_set] at this
    rw [List.getElem?_set_self hl] at he
    cases he
    exact ⟨v, List.getElem?_set_self (by rw [← r.len]; exact hl), h⟩
  · rw [List.getElem?_set_ne hj] at he
    obtain ⟨u, h1, h2⟩ := r.at_ j e he
    exact ⟨u, by rw [List.getElem?_set_ne hj]; exact h1, h2⟩
theorem REnv.wipe (r : REnv K α H env σ) : ∀ vs : List Nat, REnv K α H (wipeE env vs) (L2.wipe σ vs)
  | [] => r
  | i :: vs => by
    have q := REnv.wipe r vs
    refine ⟨?_, fun j d hd => ?_⟩
    · have e2 := L2.wipe_length σ (i :: vs)
      rw [e2]
      show ((wipeE env vs).set i none).length = _
      rw [List.length_set, q.len, L2.wipe_length]
    · have hd' : ((wipeE env vs).set i none)[j]? = some (some d) := hd
      by_cases hj : i = j
      · subst hj
        have hl : i < (wipeE env vs).length := by
          have := (List.getElem?_eq_some_iff.mp hd').1
          rwa [List.length_set] at this
        rw [List.getElem?_set_self hl] at hd'
        cases hd'
      · rw [List.getElem?_set_ne hj] at hd'
        obtain ⟨u, h1, h2⟩ := q.at_ j d hd'
        refine ⟨u, ?_, h2⟩
        obtain ⟨h3, h4⟩ := L2.wipe_some h1
        rw [L2.wipe_out]
        · exact h3
        · intro hm
          rcases List.mem_cons.mp hm with z | z
          · exact hj z.symm
          · exact h4 z
end
end DI
end
section
/-! # Tuples that are made bear no dict: the rules that make one, told so -/
namespace DI
open PySem L2 PySem.Spec
open PyProof.Rows hiding St
section
variable {X : Cx}
/-- the object of a made tuple -/
def tupO (us : List Value) : Obj := { cls := .type "tuple", data := .seq us.toArray }
/-- what a rule that makes a tuple promises -/
abbrev Made (H : Hp) (Q : VK) (xs : List V) : Prop := ∀ (p : Addr) (o : Obj), H p = none → o.dict = none → Q (.ref p) (upd H p (.frz o (.tup xs)))
theorem lay_tup {pins : List (Addr × Obj)} {σ : L2.St} {H : Hp} {s : Shared} {xs : List V} {us : List Value} {Q : VK} {h' : Heap} {t : Nat} (I : Inv X pins σ H s) (hk : ∀ b u, s.heap.get? b = some u → h'.get? b = some u) (r : Vals xs us) (z : xs.length ≤ sizeLine) (q : Made H Q xs) :
    EP X pins σ Q (.ref h'.objs.size) { s with heap := h'.push (tupO us), toks := t } := by
  have I1 : Inv X pins σ H { s with heap := h', toks := t } := I.kept hk
  have fr : H h'.objs.size = none := I1.hok.fresh (Nat.le_refl _)
  have ok : ObjOk X.prog X.w (upd H h'.objs.size (.frz (tupO us) (.tup xs))) (h'.push (tupO us)) h'.objs.size (.frz (tupO us) (.tup xs)) :=
    ⟨Heap.get?_push_size _ rfl, z, us, r, IsTup.new _ _⟩
  exact ⟨.ref h'.objs.size, upd H h'.objs.size (.frz (tupO us) (.tup xs)), I1.laid (fun b u e => Heap.get?_push_of_some _ e) (Nat.le_refl _) ok, rfl, q _ (tupO us) fr rfl⟩
theorem keep0 {h : Heap} : ∀ (b : Addr) (u : Obj), h.get? b = some u → h.get? b = some u := fun _ _ e => e
/-- a display -/
theorem mk_disp {es : List Expr} {t : TA} {n : Nat} {pos : Pos} (h : PA X es t) : PE X (.Tuple es n pos) (fun σ H Q => t σ H fun xs H1 => xs.length ≤ sizeLine ∧ Made H1 Q xs) :=
  ⟨fun pins s σ H Q I hq => wpAny_Tuple_spliced (thn (h.run pos pins s σ H _ I hq) fun us s1 ⟨xs, H1, I1, r, z, q⟩ => ⟨r.length ▸ z, lay_tup I1 keep0 r z q⟩)⟩
/-- t + u: of an empty one and another it is the other -/
theorem mk_cat : OpR X (binaryOp .Add) (fun x y H Q => ∃ a c xs ys, x = .ref a ∧ y = .ref c ∧ SqT X.K H a xs ∧ SqT X.K H c ys ∧ xs.length + ys.length ≤ sizeLine ∧
    (xs = [] → Q (.ref c) H) ∧ (xs ≠ [] → ys = [] → Q (.ref a) H) ∧ (xs ≠ [] → ys ≠ [] → Made H Q (xs ++ ys))) := by
  rintro pins s σ H _ _ v u Q I rx ry ⟨a, c, xs, ys, rfl, rfl, ha, hc, hz, q0, q1, q2⟩
  cases rx
  cases ry
  obtain ⟨us, r, pu, _⟩ := I.tuple ha
  obtain ⟨ws, r', pw, _⟩ := I.tuple hc
  cases xs with
  | nil =>
    cases r
    exact cat_tup0 pu pw ⟨.ref c, H, I, rfl, q0 rfl⟩
  | cons x xs =>
    have nx : x :: xs ≠ [] := List.cons_ne_nil _ _
    have hsz : us.toArray.toList.length + ws.toArray.toList.length ≤ sizeLine := by
      show us.length + ws.length ≤ _
      rw [← r.length, ← r'.length]
      exact hz
    exact HT.cat_tup pu pw (fun e => nx (r.nil_iff.mp e)) (fun e => ⟨.ref a, H, I, rfl, q1 nx (r'.nil_iff.mp e)⟩)
      (fun e => lay_tup I keep0 (r.append r') (by rw [List.length_append]; exact hz) (q2 nx fun e2 => e (r'.nil_iff.mpr e2))) hsz
/-- t[lo:hi]: the whole of it is t -/
theorem mk_cut : SlR X (fun x lo hi H Q => ∃ a xs, x = .ref a ∧ SqT X.K H a xs ∧ (HT.sIx xs.length 0 lo = 0 ∧ HT.sIx xs.length xs.length hi = xs.length → Q (.ref a) H) ∧
    (¬ (HT.sIx xs.length 0 lo = 0 ∧ HT.sIx xs.length xs.length hi = xs.length) → Made H Q (cutV xs lo hi))) := by
  rintro pins s σ H _ v vl vu lo hi sl Q I rx hs pl pu ⟨a, xs, rfl, hx, q1, q2⟩
  cases rx
  obtain ⟨us, r, pt, hz⟩ := I.tuple hx
  have hn : us.toArray.size = xs.length := r.length.symm
  refine ⟨"tuple", _, PyProof.Rows.slot_tuple_getitem.lookup, pt.typeIs, ?_⟩
  by_cases w : HT.sIx xs.length 0 lo = 0 ∧ HT.sIx xs.length xs.length hi = xs.length
  · exact getItem_tuple_whole pt hs pl pu (hn.symm ▸ w) ⟨.ref a, H, I, rfl, q1 w⟩
  · refine HT.getItem_tuple_cut pt hs pl pu (hn.symm ▸ w) ?_ (hn.symm ▸ hz)
    rw [hn]
    exact lay_tup I keep0 ((r.drop _).take _) (Nat.le_trans (cutV_length xs lo hi) hz) (q2 w)
/-- tuple(x) -/
theorem mk_tuple : CallR X (.type "tuple") (fun xs H Q => ∃ a ys, xs = [.ref a] ∧ ((SqL X.K H a ys ∧ Made H Q ys) ∨ (SqT X.K H a ys ∧ Q (.ref a) H))) := by
  rintro pins s σ H _ us Q I r ⟨a, ys, rfl, h⟩
  obtain ⟨u, rfl, ru⟩ := vals1 r
  cases ru
  rcases h with ⟨hl, q⟩ | ⟨ht, q⟩
  · obtain ⟨ws, rw_, pl, hz⟩ := I.list hl
    exact call_tuple_list pl.isList (fun h' hk => lay_tup I hk rw_ hz q) (Nat.le_trans (Nat.le_of_eq rw_.length.symm) hz)
  · obtain ⟨ws, _, pt, _⟩ := I.tuple ht
    exact call_tuple_same pt ⟨.ref a, H, I, rfl, q⟩
/-- tuple(range(..)) -/
theorem mk_range {e : Expr} {te : L2.St → Hp → (Int → Int → Hp → Prop) → Prop} {p pos : Pos} (hc : X.calm = true) (hg : Gl X "tuple") (hm : X.mg "tuple" = none) (he : PRg X e te) (na : starEach [e] X.env = (false, eval e X.env) :: starEach [] X.env) :
    PE X (.Call (.Name "tuple" p) [e] [] pos) (fun σ H Q => te σ H fun a c H1 => RgOk a c ∧ Made H1 Q (rgV a c)) := by
  refine ⟨fun pins s σ H Q I h => Call_ (ld_blt I hg hm boot_tuple (PyProof.Rows.callWith_type1 (args_cons (thn (he pins s σ H _ I h) ?_) na) na))⟩
  rintro _ s1 ⟨r, a, c, t, u, v, H1, rfl, hr, I1, ⟨b1, b2, b3, b4, b5⟩, q⟩
  refine args_nil (call_tuple_range (I1.ok.hd hc) hr (small_one b1 b2 b3 b4) (rangeSize_nat a c) b5 fun h' tk acc hk hi => ?_)
  have z : (rgV a c).length ≤ sizeLine := by rw [rgV_length, sizeLine_eq]; omega
  have w := lay_tup (t := tk) I1 hk (vals_rg hi) z q
  rwa [show tupO acc.toList = { cls := .type "tuple", data := .seq acc } from by unfold tupO; rw [Array.toArray_toList]] at w
/-- t * k -/
theorem mk_rep : OpR X (binaryOp .Mult) (fun x y H Q => ∃ a k xs, x = .ref a ∧ y = .int k ∧ SqT X.K H a xs ∧ xs ≠ [] ∧ 2 ≤ k ∧ k ≤ 1000 ∧ xs.length ≤ 1000 ∧ Made H Q (List.replicate k.toNat xs).flatten) := by
  rintro pins s σ H _ _ v u Q I rx ry ⟨a, k, xs, rfl, rfl, ht, ne, k2, k3, hz, q⟩
  cases rx
  obtain ⟨t, rfl⟩ := ry
  obtain ⟨us, r, ⟨⟨cls, dd, data, sl⟩, ho, hc, n, hd⟩, _⟩ := I.tuple ht
  dsimp only at hc hd
  subst hc
  subst hd
  have lu : us.toArray.size = xs.length := r.length.symm
  have e0 : us.toArray.isEmpty = false := by
    cases us with
    | nil =>
      cases r
      exact absurd rfl ne
    | cons _ _ => rfl
  have big : k.toNat * xs.length ≤ 1000 * 1000 := Nat.mul_le_mul (by omega) hz
  have prod : ((us.toArray.size : Nat) : Int) * k ≤ 1000000 := by
    rw [lu]
    have := Int.mul_le_mul (a := ((xs.length : Nat) : Int)) (b := k) (c := 1000) (d := 1000) (by omega) k3 (by omega) (by omega)
    omega
  have room : (List.replicate k.toNat xs).flatten.length ≤ sizeLine := by
    rw [PyProof.Rows.lm_len_rep_flat, sizeLine_eq]
    omega
  have room2 : (List.foldl (fun x1 x2 => x1 ++ x2) #[] (List.replicate k.toNat us.toArray)).size ≤ sizeLine := by
    rw [size_rep, List.size_toArray, ← (r.rep k.toNat).length]
    exact room
  have many : Builtin.Tuple.tupleTooMany (((us.toArray.size : Nat) : Int) * k) = false := decide_eq_false (by rw [sizeLine_eq]; omega)
  have wide : (decide (k < -(2 ^ 63)) || decide (k ≥ 2 ^ 63)) = false := Bool.or_eq_false_iff.mpr ⟨decide_eq_false (by omega), decide_eq_false (by omega)⟩
  have one : (us.toArray.isEmpty || k == 1) = false := Bool.or_eq_false_iff.mpr ⟨e0, beq_eq_false_iff_ne.mpr (by omega)⟩
  have zero : (decide (k ≤ 0) || us.toArray.isEmpty) = false := Bool.or_eq_false_iff.mpr ⟨decide_eq_false (by omega), e0⟩
  have fin := lay_tup (t := s.toks) I keep0 (r.rep k.toNat) room q
  refine wpAny_binaryOp_repeat_ref (T := "tuple") (U := "int") (by decide) ⟨_, ho, rfl⟩ (fun _ => typeIs_int _ k t) noFill_tuple_mul PySem.F.fills_int_mul PySem.F.slot_int_rmul repeat_tuple PySem.F.slot_int_index.lookup
    (call_meets PySem.F.slot_int_rmul (typeIs_int s k t) PySem.F.entry_int_rmul (PySem.F.args_int_rmul_2 _ _) (int_rmul_tuple k t a us.toArray n dd sl) ⟨ho, rfl, ⟨_, ho, rfl⟩,
      call_meets PySem.F.slot_tuple_mul ⟨_, ho, rfl⟩ PySem.F.entry_tuple_mul (PySem.F.args_tuple_mul_2 _ _) (tuple_mulW a us.toArray n dd sl k t wide one zero (by omega) many room2) ⟨ho, ?_⟩⟩)
  rw [size_rep]
  exact fin
/-- t.index(y): the first place of an equal item -/
theorem mk_index : MtR X "tuple.index" (fun x xs H Q => ∃ a ys y j z, x = .ref a ∧ xs = [y] ∧ SqT X.K H a ys ∧ flatV y = true ∧ ys.all flatV = true ∧ ys[j]? = some z ∧ eqV z y = true ∧ (∀ (m : Nat) (z' : V), m < j → ys[m]? = some z' → eqV z' y = false) ∧ Q (.int (j : Nat)) H) := by
  rintro pins s σ H _ _ v us Q I rx rs ⟨a, ys, y, j, z, rfl, rfl, ht, fy, fys, hj, hz, hno, q⟩
  cases rx
  obtain ⟨u, rfl, ru⟩ := vals1 rs
  obtain ⟨ws, r, ⟨⟨cls, dd, data, sl⟩, ho, hc, n, hd⟩, _⟩ := I.tuple ht
  dsimp only at hc hd
  subst hc
  subst hd
  have at_ : ∀ (m : Nat) (hm : m < ws.toArray.size), ∃ z', ys[m]? = some z' ∧ eqU y ws.toArray[m] = eqV z' y := fun m hm => by
    have hy : m < ys.length := by rw [r.length]; simpa using hm
    obtain ⟨w, hw, rw_⟩ := r.get (i := m) (List.getElem?_eq_getElem hy)
    refine ⟨ys[m], List.getElem?_eq_getElem hy, ?_⟩
    have e : ws.toArray[m] = w := by simpa using (List.getElem?_eq_some_iff.mp hw).2
    rw [e]
    exact eqU_of rw_ (List.all_eq_true.mp fys _ (List.getElem_mem hy))
  have hlt : j < ws.toArray.size := by
    have := (List.getElem?_eq_some_iff.mp hj).1
    rw [r.length] at this
    simpa using this
  refine call_meets PySem.F.slot_tuple_index ⟨_, ho, rfl⟩ PySem.F.entry_tuple_index (PySem.F.args_tuple_index_2 _ _) (TI.tuple_indexAt a ws.toArray n dd sl u (eqU y) j hlt ?_ fun m hm hmj => ?_)
    ⟨ho, fun w hw => mem_eqAt ru fy r fys w (by simpa using hw), ⟨.int (j : Nat), H, I.tok _, ⟨_, rfl⟩, q⟩⟩
  · obtain ⟨z', h1, h2⟩ := at_ j hlt
    rw [h2]
    cases hj.symm.trans h1
    exact hz
  · obtain ⟨z', h1, h2⟩ := at_ m hm
    rw [h2]
    exact hno m z' hmj h1
/-- a method of a tuple whose object bears no dict -/
theorem mk_meth {o e : Expr} {es : List Expr} {to : TE} {t : TA} {name : Str} {apos cpos : Pos} {id : String} {r : V → List V → Hp → VK → Prop} (slot : Slot "tuple" name id) (hty : typeOf (.builtin id) = pure (.type "method_descriptor")) (hm : MtR X id r) (ho : PE X o to) (ha : PA X (e :: es) t)
    (hbase : attributeBase o name X.env (eval o X.env) = eval o X.env)
    (hfew : ((backTo cpos (starEach (e :: es) X.env)).all (fun x => !x.1) && (backToKw cpos (keywordEach [] X.env)).all (fun x => x.1.isSome)
      && decide ((e :: es).length + ([] : List Keyword).length + (if ([] : List Keyword).isEmpty then 0 else 1) < 30)) = true)
    (hline : (apos.endLine == cpos.line) = true) (hs : starEach (e :: es) X.env = (false, eval e X.env) :: starEach es X.env) (hplain : (backTo cpos (starEach es X.env)).any (·.1) = false) :
    PE X (.Call (.Attribute o name apos) (e :: es) [] cpos) (fun σ H Q => to σ H fun x H1 => (∃ a vs, x = .ref a ∧ PlT X.K H1 a vs) ∧ t σ H1 fun xs H2 => r x xs H2 Q) := by
  refine ⟨fun pins s σ H Q I h => wpAny_Call_method_late hbase hfew hline rfl (thn (ho.run pins s σ H _ I h) ?_)⟩
  rintro v s1 ⟨x, H1, I1, r1, ⟨a, vs, rfl, hp⟩, q1⟩
  cases r1
  have obj : ∃ ob : Obj, s1.heap.get? a = some ob ∧ ob.cls = .type "tuple" ∧ ob.dict = none := by
    rcases hp with ⟨ob, h1, h2⟩ | ⟨ob, its, n, h1, h2, h3, _⟩
    · obtain ⟨g, _, ws, _, ob', g', c', _⟩ := I1.hok a _ h1
      rw [g] at g'
      cases g'
      exact ⟨ob, g, c', h2⟩
    · exact ⟨ob, I1.kIn a ob h1, h2, h3⟩
  obtain ⟨ob, g, c, d⟩ := obj
  refine ⟨"tuple", id, PySem.F.plainAttrs_tuple, slot, hty, ⟨ob, g, c⟩, fun b e => ?_, ?_⟩
  · cases e
    exact ⟨ob, g, d⟩
  · have hA := ha.run cpos pins s1 σ H1 _ I1 q1
    rw [hs] at hA ⊢
    refine Calls.callWith_builtin ?_ (Calls.evalArgs_plain (thn hA fun us s2 ⟨xs, H2, I2, r2, q2⟩ => hm pins s2 σ H2 (.ref a) xs (.ref a) us Q I2 rfl r2 q2))
    show (false || (backTo cpos (starEach es X.env)).any (·.1)) = false
    rw [hplain]
    rfl
end
end DI
end
section
namespace DI
open PySem L2
/-- what stands for an exception: its class, its own dict, the heap -/
abbrev XRel := Ex → Value → Option Addr → Hp → Prop
section
variable {K : PySem.W.Frag} {RX : XRel} {W : WX} {α α' : List Addr} {H H' : Hp} {b : Nat} {st : Store} {env : Evr} {σ : St}

def PostV (K : PySem.W.Frag) (α : List Addr) (H : Hp) (Q : VK) : Nat → (D × Store) → Prop := fun b p => ∀ α' H' v, Ext K α H α' H' → Rel K α' H' p.2 b → RD K α' H' p.1 v → Q v H'
def PostA (K : PySem.W.Frag) (α : List Addr) (H : Hp) (Q : List V → Hp → Prop) : Nat → (List D × Store) → Prop := fun b p => ∀ α' H' v, Ext K α H α' H' → Rel K α' H' p.2 b → RDs K α' H' p.1 v → Q v H'
/-- an answer without things of the heap -/
def PostC {β : Type} (K : PySem.W.Frag) (α : List Addr) (H : Hp) (Q : β → Hp → Prop) : Nat → (β × Store) → Prop := fun b p => ∀ α' H', Ext K α H α' H' → Rel K α' H' p.2 b → Q p.1 H'
def PostX (K : PySem.W.Frag) (RX : XRel) (W : WX) (σ : St) (α : List Addr) (H : Hp) : Nat → Ex → Store → Prop := fun b x st => ∀ α' H' cls d, Ext K α H α' H' → Rel K α' H' st b → RX x cls d H' → W cls d σ H'
theorem PostX.ext {x : Ex} (e : Ext K α H α' H') (h : PostX K RX W σ α H b x st) : PostX K RX W σ α' H' b x st := fun α2 H2 cls d e2 R r => h α2 H2 cls d (e.trans e2) R r
theorem PostV.ext {Q : VK} {p : D × Store} (e : Ext K α H α' H') (h : PostV K α H Q b p) : PostV K α' H' Q b p := fun α2 H2 v e2 R r => h α2 H2 v (e.trans e2) R r
theorem PostA.ext {Q : List V → Hp → Prop} {p : List D × Store} (e : Ext K α H α' H') (h : PostA K α H Q b p) : PostA K α' H' Q b p := fun α2 H2 v e2 R r => h α2 H2 v (e.trans e2) R r
theorem PostC.ext {β : Type} {Q : β → Hp → Prop} {p : β × Store} (e : Ext K α H α' H') (h : PostC K α H Q b p) : PostC K α' H' Q b p := fun α2 H2 e2 R => h α2 H2 (e.trans e2) R

/-! ### readings -/
variable (K : PySem.W.Frag) (RX : XRel) (W : WX) (C : Cfg)
def te (e : IE) : TE := fun σ H Q => ∃ α st b env, Rel K α H st b ∧ REnv K α H env σ ∧ Tri (ev C e env st) b (PostV K α H Q) (PostX K RX W σ α H)
def ta (es : IEs) : TA := fun σ H Q => ∃ α st b env, Rel K α H st b ∧ REnv K α H env σ ∧ Tri (evs C es env st) b (PostA K α H Q) (PostX K RX W σ α H)
/-- a test, by truth -/
def tt (e : IE) : TT := fun σ H Q => ∃ α st b env, Rel K α H st b ∧ REnv K α H env σ ∧ Tri ((mbind (ev C e env) truthD) st) b (PostC K α H Q) (PostX K RX W σ α H)
def to (o : IO) : TO := fun σ H Q => ∃ α st b env, Rel K α H st b ∧ REnv K α H env σ ∧ Tri (evO C o env st) b (PostC K α H Q) (PostX K RX W σ α H)
/-- values at hand: two, one, a list of them -/
def r2 (f : D → D → M D) : R2 := fun x y H Q => ∃ α st b d e, Rel K α H st b ∧ RD K α H d x ∧ RD K α H e y ∧ ∃ XP, Tri (f d e st) b (PostV K α H Q) XP
def r1 (f : D → M D) : V → Hp → VK → Prop := fun x H Q => ∃ α st b d, Rel K α H st b ∧ RD K α H d x ∧ ∃ XP, Tri (f d st) b (PostV K α H Q) XP
def rl (f : List D → M D) : List V → Hp → VK → Prop := fun xs H Q => ∃ α st b ds, Rel K α H st b ∧ RDs K α H ds xs ∧ ∃ XP, Tri (f ds st) b (PostV K α H Q) XP
def rm (f : D → List D → M D) : V → List V → Hp → VK → Prop := fun x xs H Q => ∃ α st b d ds, Rel K α H st b ∧ RD K α H d x ∧ RDs K α H ds xs ∧ ∃ XP, Tri (f d ds st) b (PostV K α H Q) XP
end
/-! ### runs without draws or exceptions -/
def Pure {β : Type} (t : T β) : Prop := (∃ a, t = .ret a) ∨ t = .stuck
theorem Pure.nox {β : Type} {t : T β} {b : Nat} {P : Nat → β → Prop} {X X' : Nat → Ex → Store → Prop} (p : Pure t) (h : Tri t b P X) : Tri t b P X' := by
  rcases p with ⟨a, rfl⟩ | rfl
  · exact h
  · exact h.elim
theorem Pure.get {β : Type} {t : T β} {b : Nat} {P : Nat → β → Prop} {X : Nat → Ex → Store → Prop} (p : Pure t) (h : Tri t b P X) : ∃ a, t = .ret a ∧ P b a := by
  rcases p with ⟨a, rfl⟩ | rfl
  · exact ⟨a, rfl, h⟩
  · exact h.elim
theorem pure_ret {β : Type} {a : β} : Pure (T.ret a) := .inl ⟨a, rfl⟩
theorem pure_stuck {β : Type} : Pure (T.stuck : T β) := .inr rfl
theorem pure_mif {β : Type} {c : Bool} {m : M β} {st : Store} (h : Pure (m st)) : Pure (mif c m st) := by
  unfold mif
  cases c with
  | true => exact h
  | false => exact .inr rfl
theorem pure_mopt {β : Type} {o : Option β} {st : Store} : Pure (mopt o st) := by
  unfold mopt
  cases o with
  | some a => exact .inl ⟨_, rfl⟩
  | none => exact .inr rfl
theorem pure_mret {β : Type} {a : β} {st : Store} : Pure (mret a st) := .inl ⟨_, rfl⟩
theorem pure_mnew {xs : List D} {st : Store} : Pure (mnew xs st) := .inl ⟨_, rfl⟩
theorem pure_mstuck {β : Type} {st : Store} : Pure ((mstuck : M β) st) := .inr rfl
theorem pure_setL {n : Nat} {xs : List D} {v : D} {st : Store} : Pure (setL n xs v st) := .inl ⟨_, rfl⟩
theorem pure_bind {β γ : Type} {t : T β} {f : β → T γ} (h : Pure t) (hf : ∀ a, Pure (f a)) : Pure (t.bind f) := by
  rcases h with ⟨a, rfl⟩ | rfl
  · exact hf a
  · exact .inr rfl
/-- what a mif tells -/
theorem tri_mif {β : Type} {c : Bool} {m : M β} {st : Store} {b : Nat} {P : Nat → (β × Store) → Prop} {X : Nat → Ex → Store → Prop} (h : Tri (mif c m st) b P X) : c = true ∧ Tri (m st) b P X := by
  cases c with
  | true => exact ⟨rfl, h⟩
  | false => exact h.elim
theorem tri_mopt {β : Type} {o : Option β} {st : Store} {b : Nat} {P : Nat → (β × Store) → Prop} {X : Nat → Ex → Store → Prop} (h : Tri (mopt o st) b P X) : ∃ a, o = some a ∧ P b (a, st) := by
  cases o with
  | some a => exact ⟨a, rfl, h⟩
  | none => exact h.elim
theorem fits_le {n : Nat} (h : fits n = true) : n ≤ sizeLine := Nat.le_trans (Nat.le_of_ble_eq_true h) (by decide)
theorem fits_lt {n : Nat} (h : fits (n + 1) = true) : n < sizeLine := Nat.lt_of_lt_of_le (Nat.lt_of_succ_le (Nat.le_of_ble_eq_true h)) (by decide)
local macro_rules | `(tactic| walk_at "pure") => `(tactic| first
  | exact pure_ret | exact pure_stuck | exact pure_mret | exact pure_mopt | exact pure_mnew | exact pure_mstuck | exact pure_setL)
section
variable {K : PySem.W.Frag} {α : List Addr} {H : Hp} {b : Nat} {st : Store}

/-! ### the operators -/
theorem PostV.newL {Q : VK} (R : Rel K α H st b) {xs : List D} {vs : List V} (r : RDs K α H xs vs) (h : PostV K α H Q b (.ref st.length, st ++ [.lst true xs])) : ∀ p, H p = none → Q (.ref p) (upd H p (.lst vs)) := fun p hp =>
  h (α ++ [p]) _ _ (ext_newA hp) (R.newL hp r) (.ref R.last)
theorem PostV.newT {Q : VK} (R : Rel K α H st b) {xs : List D} {vs : List V} (r : RDs K α H xs vs) (h : PostV K α H Q b (.tup xs, st)) : ∀ (p : Addr) (o : Obj), H p = none → o.dict = none → Q (.ref p) (upd H p (.frz o (.tup vs))) := fun p o hp hd =>
  h α _ _ (ext_new hp) (R.newT hp) (.tup (.inl ⟨o, upd_same, hd⟩) (r.ext (ext_new hp)))
theorem PostV.here {Q : VK} (R : Rel K α H st b) {d : D} {v : V} (r : RD K α H d v) (h : PostV K α H Q b (d, st)) : Q v H := h α H v (.refl _ _) R r
theorem PostV.setL {Q : VK} (R : Rel K α H st b) {n : Nat} {xs ys : List D} {vs : List V} {d : D} {v : V} {a : Addr} (hs : st[n]? = some (.lst true xs)) (ha : α[n]? = some a) (r : RDs K α H ys vs) (rd : RD K α H d v)
    (h : PostV K α H Q b (d, st.set n (.lst true ys))) : Q v (upd H a (.lst vs)) := by
  obtain ⟨us, h0, _⟩ := R.lstW hs ha
  exact h α _ v (ext_upd h0) (R.setL hs ha r) (rd.ext (ext_upd h0))
variable {X : Cx}
theorem OpR.imp {f : Value → Value → Sem Value} {r r' : R2} (h : OpR X f r) (i : ∀ x y H Q, r' x y H Q → r x y H Q) : OpR X f r' := fun pins s σ H x y u v Q I rx ry q => h pins s σ H x y u v Q I rx ry (i x y H Q q)
theorem lim_le : lim ≤ sizeLine := by decide
theorem op_add_bi : OpR X (binaryOp .Add) (fun x y H Q => ∃ k i, x = .bl k ∧ y = .int i ∧ Q (.int (bI k + i)) H) := by
  intro pins s σ H x y v u Q I rx ry h
  obtain ⟨k, i, rfl, rfl, q⟩ := h
  obtain ⟨t, rfl⟩ := ry
  cases rx
  exact PySem.IntBool.add_bool_int ⟨.int (bI k + i), H, I.tok _, ⟨_, rfl⟩, q⟩
theorem op_sub_bi : OpR X (binaryOp .Sub) (fun x y H Q => ∃ k i, x = .bl k ∧ y = .int i ∧ Q (.int (bI k - i)) H) := by
  intro pins s σ H x y v u Q I rx ry h
  obtain ⟨k, i, rfl, rfl, q⟩ := h
  obtain ⟨t, rfl⟩ := ry
  cases rx
  exact PySem.IntBool.sub_bool_int ⟨.int (bI k - i), H, I.tok _, ⟨_, rfl⟩, q⟩
theorem op_bin {op : Operator} (h : op = .Add ∨ op = .Sub ∨ op = .Mult ∨ op = .FloorDiv ∨ op = .Mod ∨ op = .Pow) : OpR X (binaryOp op) (r2 X.K (binD op)) := by
  rcases h with rfl | rfl | rfl | rfl | rfl | rfl
  · refine OpR.imp (op_add_bi.or (op_add.or (op_add_str.or (mk_cat.or op_cat)))) fun x y H Q h => ?_
    obtain ⟨α, st, b, d, e, R, rx, ry, XP, h⟩ := h
    cases rx <;> cases ry <;> first | exact h.elim | skip
    · exact .inl ⟨_, _, rfl, rfl, h α H _ (.refl _ _) R (.int _)⟩
    all_goals refine .inr ?_
    · exact .inl ⟨_, _, rfl, rfl, h α H _ (.refl _ _) R (.int _)⟩
    · obtain ⟨hc, h⟩ := tri_mif h
      exact .inr (.inl ⟨_, _, rfl, rfl, fits_le hc, h α H _ (.refl _ _) R (.str _)⟩)
    · rename_i xs vs a h1 r1 ys us c h2 r2
      obtain ⟨hc, h⟩ := tri_mif h
      refine .inr (.inr (.inl ⟨_, _, _, _, rfl, rfl, h1.sq, h2.sq, by rw [← r1.length, ← r2.length]; exact fits_le hc, fun e => ?_, fun _ e => ?_, fun _ _ => PostV.newT R (r1.append r2) h⟩))
      · have e' := r1.nil_iff.mpr e
        subst e'
        exact PostV.here R (.tup h2 r2) h
      · have e' := r2.nil_iff.mpr e
        subst e'
        refine PostV.here R (.tup h1 (ds := xs ++ []) ?_) h
        rw [List.append_nil]
        exact r1
    · rename_i n a h1 m c h2
      have h : Tri (match st[n]?, st[m]? with | some (.lst true xs), some (.lst true ys) => mif (fits (xs.length + ys.length)) (mnew (xs ++ ys)) st | _, _ => .stuck) b _ _ := h
      split at h
      · rename_i xs ys e1 e2
        obtain ⟨hc, h⟩ := tri_mif h
        obtain ⟨vs, q1, q2⟩ := R.lstW e1 h1
        obtain ⟨us, q3, q4⟩ := R.lstW e2 h2
        exact .inr (.inr (.inr ⟨_, _, _, _, rfl, rfl, q1, q3, by rw [← q2.length, ← q4.length]; exact fits_le hc, PostV.newL R (q2.append q4) h⟩))
      · exact h.elim
  · refine OpR.imp (op_sub_bi.or op_sub) fun x y H Q h => ?_
    obtain ⟨α, st, b, d, e, R, rx, ry, XP, h⟩ := h
    cases rx <;> cases ry <;> first | exact h.elim | skip
    · exact .inl ⟨_, _, rfl, rfl, PostV.here R (.int _) h⟩
    · exact .inr ⟨_, _, rfl, rfl, PostV.here R (.int _) h⟩
  · refine OpR.imp (op_mul.or (op_rep.or mk_rep)) fun x y H Q h => ?_
    obtain ⟨α, st, b, d, e, R, rx, ry, XP, h⟩ := h
    cases rx <;> cases ry <;> first | exact h.elim | skip
    · obtain ⟨hc, h⟩ := tri_mif h
      refine .inl ⟨_, _, rfl, rfl, ?_, PostV.here R (.int _) h⟩
      rcases Bool.or_eq_true_iff.mp hc with q | q
      · obtain ⟨q1, q2⟩ := Bool.and_eq_true_iff.mp q
        exact .inl ⟨of_decide_eq_true q1, of_decide_eq_true q2⟩
      · obtain ⟨q1, q2⟩ := Bool.and_eq_true_iff.mp q
        exact .inr ⟨of_decide_eq_true q1, of_decide_eq_true q2⟩
    · rename_i xs vs a h1 r1 k
      have h : Tri (mif (repTB k xs.length) (mret (D.tup (List.replicate k.toNat xs).flatten)) st) b _ _ := h
      obtain ⟨hc, h⟩ := tri_mif h
      obtain ⟨hc, c4⟩ := Bool.and_eq_true_iff.mp hc
      obtain ⟨hc, c3⟩ := Bool.and_eq_true_iff.mp hc
      obtain ⟨c1, c2⟩ := Bool.and_eq_true_iff.mp hc
      have c1 := of_decide_eq_true c1
      exact .inr (.inr ⟨_, _, _, rfl, rfl, h1.sq, fun e => by rw [r1.nil_iff.mpr e] at c1; exact absurd c1 (Nat.lt_irrefl 0), of_decide_eq_true c2, of_decide_eq_true c3, by rw [← r1.length]; exact of_decide_eq_true c4, PostV.newT R (r1.rep _) h⟩)
    · rename_i n a h1 k
      have h : Tri (match st[n]? with | some (.lst true xs) => mif (decide (0 ≤ k) && decide (k < 100000) && fits (xs.length * k.toNat)) (mnew (List.replicate k.toNat xs).flatten) st | _ => .stuck) b _ _ := h
      split at h
      · rename_i xs e1
        obtain ⟨hc, h⟩ := tri_mif h
        obtain ⟨hc1, hc2⟩ := Bool.and_eq_true_iff.mp hc
        obtain ⟨hc3, hc4⟩ := Bool.and_eq_true_iff.mp hc1
        have c3 := of_decide_eq_true hc3
        have c4 := of_decide_eq_true hc4
        obtain ⟨vs, q1, q2⟩ := R.lstW e1 h1
        exact .inr (.inl ⟨_, _, _, rfl, rfl, q1, by omega, by omega, by rw [← q2.length]; exact fits_le hc2, PostV.newL R (q2.rep _) h⟩)
      · exact h.elim
  · refine OpR.imp op_fdivN fun x y H Q h => ?_
    obtain ⟨α, st, b, d, e, R, rx, ry, XP, h⟩ := h
    cases rx <;> cases ry <;> first | exact h.elim | skip
    obtain ⟨hc, h⟩ := tri_mif h
    obtain ⟨q1, q2⟩ := Bool.and_eq_true_iff.mp hc
    exact ⟨_, _, rfl, rfl, ⟨of_decide_eq_true q1, of_decide_eq_true q2⟩, PostV.here R (.int _) h⟩
  · refine OpR.imp op_modN fun x y H Q h => ?_
    obtain ⟨α, st, b, d, e, R, rx, ry, XP, h⟩ := h
    cases rx <;> cases ry <;> first | exact h.elim | skip
    obtain ⟨hc, h⟩ := tri_mif h
    exact ⟨_, _, rfl, rfl, of_decide_eq_true hc, PostV.here R (.int _) h⟩
  · refine OpR.imp op_pow fun x y H Q h => ?_
    obtain ⟨α, st, b, d, e, R, rx, ry, XP, h⟩ := h
    cases rx <;> cases ry <;> first | exact h.elim | skip
    obtain ⟨hc, h⟩ := tri_mif h
    obtain ⟨q1, q2⟩ := Bool.and_eq_true_iff.mp hc
    obtain ⟨q3, q4⟩ := Bool.and_eq_true_iff.mp q1
    exact ⟨_, _, rfl, rfl, ⟨of_decide_eq_true q3, of_decide_eq_true q4, of_decide_eq_true q2⟩, PostV.here R (.int _) h⟩

/-! ### data, and comparisons -/
theorem pys_dp {f : D → Option PyData} (hf : ∀ d v p, RD K α H d v → f d = some p → Dp K H v p) : ∀ {ds : List D} {vs : List V} {ps : List PyData}, RDs K α H ds vs → pys f ds = some ps → DpAll K H vs ps
  | _, _, _, .nil, h => by
    cases h
    exact .nil
  | _, _, _, .cons (d := d) (ds := ds) r rs, h => by
    unfold pys at h
    split at h
    · rename_i p qs e1 e2
      cases h
      exact .cons (hf _ _ _ r e1) (pys_dp hf rs e2)
    · cases h
theorem py_dp (R : Rel K α H st b) : ∀ (n : Nat) (d : D) (v : V) (p : PyData), RD K α H d v → py n st d = some p → Dp K H v p
  | 0, _, _, _, _, h => by cases h
  | n + 1, _, _, _, .non, h => by
    cases h
    exact .non
  | n + 1, _, _, _, .bl b, h => by
    cases h
    exact .bl b
  | n + 1, _, _, _, .int i, h => by
    cases h
    exact .int i
  | n + 1, _, _, _, .str x, h => by
    unfold py at h
    split at h
    · cases h
      exact .str x
    · cases h
  | n + 1, _, _, _, .tup hq r, h => by
    unfold py at h
    split at h
    · rename_i ds e
      cases h
      exact .tup hq.sq (pys_dp (fun d v p r e => py_dp R n d v p r e) r e)
    · cases h
  | n + 1, _, _, _, .ref (n := k) ha, h => by
    unfold py at h
    split at h
    · rename_i w xs e
      split at h
      · rename_i ds e2
        cases h
        obtain ⟨vs, q1, q2⟩ := R.lst e ha
        exact .lst q1 (pys_dp (fun d v p r e => py_dp R n d v p r e) q2 e2)
      · cases h
    · cases h
  | n + 1, _, _, _, .pr _ _ _, h => by cases h
theorem pys_lay {f : D → Option PyData} {n : Nat} (hf : ∀ d p, f d = some p → p.canLay0 = true ∧ p.depth ≤ n) : ∀ {ds : List D} {ps : List PyData}, pys f ds = some ps → PyData.canLayAll0 ps = true ∧ PyData.depthAll ps ≤ n
  | [], _, h => by
    cases h
    exact ⟨rfl, Nat.zero_le _⟩
  | d :: ds, _, h => by
    unfold pys at h
    split at h
    · rename_i p qs e1 e2
      cases h
      obtain ⟨h1, h2⟩ := hf _ _ e1
      obtain ⟨h3, h4⟩ := pys_lay hf e2
      refine ⟨?_, ?_⟩
      · show (p.canLay0 && PyData.canLayAll0 qs) = true
        rw [h1, h3] <;> rfl
      · show max p.depth (PyData.depthAll qs) ≤ n
        omega
    · cases h
theorem py_lay : ∀ (n : Nat) (d : D) (p : PyData), py n st d = some p → p.canLay0 = true ∧ p.depth ≤ n
  | 0, _, _, h => by cases h
  | n + 1, .non, _, h => by
    cases h
    exact ⟨rfl, Nat.zero_le _⟩
  | n + 1, .bl _, _, h => by
    cases h
    exact ⟨rfl, Nat.zero_le _⟩
  | n + 1, .int _, _, h => by
    cases h
    exact ⟨rfl, Nat.zero_le _⟩
  | n + 1, .str x, _, h => by
    unfold py at h
    split at h
    · rename_i c
      cases h
      exact ⟨c, Nat.zero_le _⟩
    · cases h
  | n + 1, .tup xs, _, h => by
    unfold py at h
    split at h
    · rename_i ds e
      cases h
      obtain ⟨h1, h2⟩ := pys_lay (fun d p e => py_lay n d p e) e
      exact ⟨h1, Nat.succ_le_succ h2⟩
    · cases h
  | n + 1, .ref k, _, h => by
    unfold py at h
    split at h
    · rename_i w xs e
      split at h
      · rename_i ds e2
        cases h
        obtain ⟨h1, h2⟩ := pys_lay (fun d p e => py_lay n d p e) e2
        exact ⟨h1, Nat.succ_le_succ h2⟩
      · cases h
    · cases h
  | n + 1, .pr _ _, _, h => by cases h
theorem py_shaped {d : D} {p : PyData} (h : py deep st d = some p) : SeqAt.shaped p = true := by
  obtain ⟨h1, h2⟩ := py_lay deep d p h
  unfold SeqAt.shaped
  rw [h1, decide_eq_true (Nat.le_trans h2 (by decide : deep ≤ 64))] <;> rfl
theorem RD.flat {d : D} {v : V} (r : RD K α H d v) (f : flatD d = true) : v = toV d ∧ flatV v = true := by
  cases r <;> first | exact ⟨rfl, rfl⟩ | cases f
theorem RDs.flat {ds : List D} {vs : List V} (r : RDs K α H ds vs) (f : ds.all flatD = true) : vs = ds.map toV ∧ vs.all flatV = true := by
  induction ds generalizing vs with
  | nil =>
    cases r
    exact ⟨rfl, rfl⟩
  | cons d ds ih =>
    cases r with
    | cons r rs =>
      rw [List.all_cons] at f
      obtain ⟨f1, f2⟩ := Bool.and_eq_true_iff.mp f
      obtain ⟨e1, g1⟩ := r.flat f1
      obtain ⟨e2, g2⟩ := ih rs f2
      exact ⟨by rw [e1, e2] <;> rfl, by rw [List.all_cons, g1, g2] <;> rfl⟩
theorem items_pl (R : Rel K α H st b) {d : D} {v : V} {xs : List D} (r : RD K α H d v) (h : itemsD st d = some xs) : ∃ a vs, v = .ref a ∧ (SqL K H a vs ∨ PlT K H a vs) ∧ RDs K α H xs vs := by
  cases r with
  | tup q rs =>
    cases h
    exact ⟨_, _, rfl, .inr q, rs⟩
  | ref ha =>
    rename_i n a
    have h : (match st[n]? with | some (.lst _ xs) => some xs | _ => none) = some xs := h
    split at h
    · rename_i w ys e
      cases h
      obtain ⟨vs, q1, q2⟩ := R.lst e ha
      exact ⟨_, vs, rfl, .inl q1, q2⟩
    · cases h
  | _ => cases h
theorem items_sq (R : Rel K α H st b) {d : D} {v : V} {xs : List D} (r : RD K α H d v) (h : itemsD st d = some xs) : ∃ a vs, v = .ref a ∧ (SqL K H a vs ∨ SqT K H a vs) ∧ RDs K α H xs vs := by
  obtain ⟨a, vs, h1, h2, h3⟩ := items_pl R r h
  exact ⟨a, vs, h1, h2.imp id PlT.sq, h3⟩
def mB (m : M Bool) : M D := mbind m fun k => mret (.bl k)
theorem tri_mB {m : M Bool} {P : Nat → (D × Store) → Prop} {X' : Nat → Ex → Store → Prop} : Tri (mB m st) b P X' ↔ Tri (m st) b (fun b' p => P b' (.bl p.1, p.2)) X' := tri_bind
theorem inV_of {x : D} {xs : List D} : inV (toV x) (xs.map toV) = inD x xs := by
  unfold inV inD
  rw [List.any_map]
  rfl
def rInG (K : PySem.W.Frag) (neg : Bool) : R2 := fun x y H Q => ∃ d ds, Dp K H x d ∧ (Dp K H y (.list ds) ∨ Dp K H y (.tuple ds)) ∧ SeqAt.shaped d = true ∧ PyData.canLayAll0 ds = true ∧ Q (.bl (if neg then !(ds.any fun z => PyData.eqv z d) else ds.any fun z => PyData.eqv z d)) H
theorem op_inG (hu : X.A.units + 65 < cLine) : OpR X (compareOp .In) (rInG X.K false) := by
  intro pins s σ H x y v u Q I rx ry h
  obtain ⟨d, ds, hd, he, sd, se, q⟩ := h
  obtain ⟨as, r1⟩ := Dp.reads I d x v hd rx
  rcases he with he | he
  · obtain ⟨bs, r2⟩ := Dp.reads I (.list ds) y u he ry
    exact SeqAt.in_list_reads r2 r1 se (SeqAt.canLay_of_shaped sd) (PyProof.Rows.room_in_shaped sd hu) ⟨.bl _, H, I, rfl, q⟩
  · obtain ⟨bs, r2⟩ := Dp.reads I (.tuple ds) y u he ry
    exact SeqAt.in_tuple_reads r2 r1 se (SeqAt.canLay_of_shaped sd) (PyProof.Rows.room_in_shaped sd hu) ⟨.bl _, H, I, rfl, q⟩
theorem op_notInG (hu : X.A.units + 65 < cLine) : OpR X (compareOp .NotIn) (rInG X.K true) := by
  intro pins s σ H x y v u Q I rx ry h
  obtain ⟨d, ds, hd, he, sd, se, q⟩ := h
  obtain ⟨as, r1⟩ := Dp.reads I d x v hd rx
  rcases he with he | he
  · obtain ⟨bs, r2⟩ := Dp.reads I (.list ds) y u he ry
    exact SeqAt.notIn_list_reads r2 r1 se (SeqAt.canLay_of_shaped sd) (PyProof.Rows.room_in_shaped sd hu) ⟨.bl _, H, I, rfl, q⟩
  · obtain ⟨bs, r2⟩ := Dp.reads I (.tuple ds) y u he ry
    exact SeqAt.notIn_tuple_reads r2 r1 se (SeqAt.canLay_of_shaped sd) (PyProof.Rows.room_in_shaped sd hu) ⟨.bl _, H, I, rfl, q⟩
theorem inDD_of {α : List Addr} {H : Hp} {st : Store} {b : Nat} {d e : D} {x y : V} {k : Bool} (R : Rel X.K α H st b) (rx : RD X.K α H d x) (ry : RD X.K α H e y) (h : inDD st d e = some k) :
    ∃ p ps, Dp X.K H x p ∧ (Dp X.K H y (.list ps) ∨ Dp X.K H y (.tuple ps)) ∧ SeqAt.shaped p = true ∧ PyData.canLayAll0 ps = true ∧ (ps.any fun z => PyData.eqv z p) = k := by
  unfold inDD at h
  split at h
  · rename_i p ps e1 e2
    cases h
    exact ⟨p, ps, py_dp R _ _ _ _ rx e1, .inl (py_dp R _ _ _ _ ry e2), py_shaped e1, SeqAt.canLay_of_shaped (py_shaped e2), rfl⟩
  · rename_i p ps e1 e2
    cases h
    exact ⟨p, ps, py_dp R _ _ _ _ rx e1, .inr (py_dp R _ _ _ _ ry e2), py_shaped e1, SeqAt.canLay_of_shaped (py_shaped e2), rfl⟩
  · cases h
theorem op_cmp {op : CmpOp} (hu : X.A.units + 65 < cLine) : OpR X (compareOp op) (r2 X.K fun x y => mB (cmpD op x y)) := by
  cases op with
  | Eq =>
    refine OpR.imp (op_eqD (by omega)) fun x y H Q h => ?_
    obtain ⟨α, st, b, d, e, R, rx, ry, XP, h⟩ := h
    obtain ⟨k, h1, h2⟩ := tri_mopt (tri_mB.mp h)
    unfold eqD at h1
    split at h1
    · rename_i p q e1 e2
      cases h1
      exact ⟨p, q, py_dp R _ _ _ _ rx e1, py_dp R _ _ _ _ ry e2, py_shaped e1, py_shaped e2, PostV.here R (.bl _) h2⟩
    · cases h1
  | NotEq =>
    refine OpR.imp (op_neD (by omega)) fun x y H Q h => ?_
    obtain ⟨α, st, b, d, e, R, rx, ry, XP, h⟩ := h
    obtain ⟨k, h1, h2⟩ := tri_mopt (tri_mB.mp h)
    unfold eqD at h1
    split at h1
    · rename_i p q e1 e2
      cases h1
      exact ⟨p, q, py_dp R _ _ _ _ rx e1, py_dp R _ _ _ _ ry e2, py_shaped e1, py_shaped e2, PostV.here R (.bl _) h2⟩
    · cases h1
  | Lt =>
    refine OpR.imp op_lt fun x y H Q h => ?_
    obtain ⟨α, st, b, d, e, R, rx, ry, XP, h⟩ := h
    cases rx <;> cases ry <;> first | exact h.elim | skip
    exact ⟨_, _, rfl, rfl, PostV.here R (.bl _) (tri_mB.mp h)⟩
  | LtE =>
    refine OpR.imp op_le fun x y H Q h => ?_
    obtain ⟨α, st, b, d, e, R, rx, ry, XP, h⟩ := h
    cases rx <;> cases ry <;> first | exact h.elim | skip
    exact ⟨_, _, rfl, rfl, PostV.here R (.bl _) (tri_mB.mp h)⟩
  | Gt =>
    refine OpR.imp op_gt fun x y H Q h => ?_
    obtain ⟨α, st, b, d, e, R, rx, ry, XP, h⟩ := h
    cases rx <;> cases ry <;> first | exact h.elim | skip
    exact ⟨_, _, rfl, rfl, PostV.here R (.bl _) (tri_mB.mp h)⟩
  | GtE =>
    refine OpR.imp op_ge fun x y H Q h => ?_
    obtain ⟨α, st, b, d, e, R, rx, ry, XP, h⟩ := h
    cases rx <;> cases ry <;> first | exact h.elim | skip
    exact ⟨_, _, rfl, rfl, PostV.here R (.bl _) (tri_mB.mp h)⟩
  | Is =>
    refine OpR.imp op_isN fun x y H Q h => ?_
    obtain ⟨α, st, b, d, e, R, rx, ry, XP, h⟩ := h
    cases ry <;> first | exact h.elim | skip
    refine ⟨rfl, PostV.here R ?_ (tri_mB.mp h)⟩
    cases rx <;> exact .bl _
  | IsNot =>
    refine OpR.imp op_notN fun x y H Q h => ?_
    obtain ⟨α, st, b, d, e, R, rx, ry, XP, h⟩ := h
    cases ry <;> first | exact h.elim | skip
    refine ⟨rfl, PostV.here R ?_ (tri_mB.mp h)⟩
    cases rx <;> exact .bl _
  | In =>
    refine OpR.imp (op_in_seq.or (op_inG hu)) fun x y H Q h => ?_
    obtain ⟨α, st, b, d, e, R, rx, ry, XP, h⟩ := h
    have h := tri_mB.mp h
    have h : Tri (match itemsD st e with | some xs => mopt (inAny st d e xs) st | none => .stuck) b _ _ := h
    split at h
    · rename_i xs e1
      obtain ⟨k, hk, h⟩ := tri_mopt h
      cases hc : (flatD d && xs.all flatD) with
      | true =>
        unfold inAny at hk
        rw [hc] at hk
        cases hk
        obtain ⟨c1, c2⟩ := Bool.and_eq_true_iff.mp hc
        obtain ⟨a, vs, rfl, q, rs⟩ := items_sq R ry e1
        obtain ⟨rfl, f1⟩ := rx.flat c1
        obtain ⟨rfl, f2⟩ := rs.flat c2
        refine .inl ⟨a, _, rfl, q, f1, f2, ?_⟩
        rw [if_neg Bool.false_ne_true, inV_of]
        exact PostV.here R (.bl _) h
      | false =>
        unfold inAny at hk
        rw [hc] at hk
        dsimp only at hk
        obtain ⟨p, ps, h1, h2, h3, h4, rfl⟩ := inDD_of R rx ry hk
        refine .inr ⟨p, ps, h1, h2, h3, h4, ?_⟩
        rw [if_neg Bool.false_ne_true]
        exact PostV.here R (.bl _) h
    · exact h.elim
  | NotIn =>
    refine OpR.imp (op_notIn_seq.or (op_notInG hu)) fun x y H Q h => ?_
    obtain ⟨α, st, b, d, e, R, rx, ry, XP, h⟩ := h
    have h := tri_mB.mp h
    have h : Tri (match itemsD st e with | some xs => mopt ((inAny st d e xs).map (!·)) st | none => .stuck) b _ _ := h
    split at h
    · rename_i xs e1
      obtain ⟨k, hk, h⟩ := tri_mopt h
      cases hc : (flatD d && xs.all flatD) with
      | true =>
        unfold inAny at hk
        rw [hc] at hk
        cases hk
        obtain ⟨c1, c2⟩ := Bool.and_eq_true_iff.mp hc
        obtain ⟨a, vs, rfl, q, rs⟩ := items_sq R ry e1
        obtain ⟨rfl, f1⟩ := rx.flat c1
        obtain ⟨rfl, f2⟩ := rs.flat c2
        refine .inl ⟨a, _, rfl, q, f1, f2, ?_⟩
        rw [if_pos rfl, inV_of]
        exact PostV.here R (.bl _) h
      | false =>
        unfold inAny at hk
        rw [hc] at hk
        dsimp only at hk
        cases hk2 : inDD st d e with
        | none => rw [hk2] at hk; cases hk
        | some k2 =>
          rw [hk2] at hk
          cases hk
          obtain ⟨p, ps, h1, h2, h3, h4, rfl⟩ := inDD_of R rx ry hk2
          refine .inr ⟨p, ps, h1, h2, h3, h4, ?_⟩
          rw [if_pos rfl]
          exact PostV.here R (.bl _) h
    · exact h.elim
end
end DI
end
section
namespace DI
open PySem L2
section
variable {K : PySem.W.Frag} {α : List Addr} {H : Hp} {b : Nat} {st : Store} {X : Cx}
theorem truth_ok (R : Rel K α H st b) {d : D} {v : V} (r : RD K α H d v) {Q : Bool → Hp → Prop} {P : Nat → Ex → Store → Prop} (h : Tri (truthD d st) b (PostC K α H Q) P) : ∃ k, TruV K v H k ∧ Q k H := by
  cases r with
  | non => exact ⟨false, rfl, h α H (.refl _ _) R⟩
  | bl k => exact ⟨k, rfl, h α H (.refl _ _) R⟩
  | int i => exact ⟨_, rfl, h α H (.refl _ _) R⟩
  | str x =>
    obtain ⟨hc, h⟩ := tri_mif h
    exact ⟨_, ⟨fits_le hc, rfl⟩, h α H (.refl _ _) R⟩
  | pr _ _ _ => exact h.elim
  | tup q rs => exact ⟨_, .inr (.inl ⟨_, q.sq, by rw [← rs.isEmpty]⟩), h α H (.refl _ _) R⟩
  | ref ha =>
    rename_i n a
    have h : Tri (match st[n]? with | some (.lst _ xs) => .ret (!xs.isEmpty, st) | _ => .stuck) b _ _ := h
    split at h
    · rename_i w xs e
      obtain ⟨vs, q1, q2⟩ := R.lst e ha
      exact ⟨_, .inl ⟨_, q1, by rw [← q2.isEmpty]⟩, h α H (.refl _ _) R⟩
    · exact h.elim
theorem atI_of {ds : List D} {vs : List V} {i : Int} {d : D} (r : RDs K α H ds vs) (h : atI ds i = some d) : ∃ v, atI vs i = some v ∧ RD K α H d v := by
  unfold atI at h ⊢
  rw [← r.length]
  cases e : ixN ds.length i with
  | none =>
    rw [e] at h
    cases h
  | some j =>
    rw [e] at h
    exact r.get h
theorem IxR.imp {r r' : R2} (h : IxR X r) (i : ∀ x y H Q, r' x y H Q → r x y H Q) : IxR X r' := fun a b pins s σ H x y u v Q I rx ry q => h a b pins s σ H x y u v Q I rx ry (i x y H Q q)
theorem ix_ok : IxR X (r2 X.K ixD) := by
  refine IxR.imp ix_seq fun x y H Q h => ?_
  obtain ⟨α, st, b, d, e, R, rx, ry, XP, h⟩ := h
  cases ry with
  | int k =>
    have other : ∀ xs : List D, itemsD st d = some xs → Tri (mopt (atI xs k) st) b (PostV X.K α H Q) XP → rIx X.K x (.int k) H Q := by
      intro xs e1 h
      obtain ⟨y, e2, h⟩ := tri_mopt h
      obtain ⟨a, vs, rfl, q, rs⟩ := items_sq R rx e1
      obtain ⟨v, e3, rd⟩ := atI_of rs e2
      rcases q with q | q
      · exact .inl ⟨a, vs, k, v, rfl, rfl, q, e3, PostV.here R rd h⟩
      · exact .inr (.inl ⟨a, vs, k, v, rfl, rfl, q, e3, PostV.here R rd h⟩)
    cases rx with
    | str z =>
      obtain ⟨hc, h⟩ := tri_mif h
      obtain ⟨y, e2, h⟩ := tri_mopt h
      cases e3 : atI z.cps.toList k with
      | none =>
        rw [e3] at e2
        cases e2
      | some c =>
        rw [e3] at e2
        cases e2
        exact .inr (.inr ⟨z, k, c, rfl, rfl, fits_le hc, e3, PostV.here R (.str _) h⟩)
    | tup q rs => exact other _ rfl h
    | ref ha =>
      rename_i n a
      have h : Tri (match itemsD st (.ref n) with | some xs => mopt (atI xs k) st | none => .stuck) b _ _ := h
      split at h
      · rename_i xs e1
        exact other xs e1 h
      · exact h.elim
    | _ => exact h.elim
  | _ => cases rx <;> exact h.elim
def rSl (K : PySem.W.Frag) : V → Option Int → Option Int → Hp → VK → Prop := fun x lo hi H Q => ∃ α st b d, Rel K α H st b ∧ RD K α H d x ∧ ∃ XP, Tri (sliceD d lo hi st) b (PostV K α H Q) XP
theorem cut_of {ds : List D} {vs : List V} {lo hi : Option Int} (r : RDs K α H ds vs) : RDs K α H (cutD ds lo hi) (cutV vs lo hi) := by
  unfold cutD cutV
  rw [r.length]
  exact (r.drop _).take _
theorem SlR.imp {r r' : V → Option Int → Option Int → Hp → VK → Prop} (h : SlR X r) (i : ∀ x lo hi H Q, r' x lo hi H Q → r x lo hi H Q) : SlR X r' :=
  fun pins s σ H x v vl vu lo hi sl Q I rx p1 p2 p3 q => h pins s σ H x v vl vu lo hi sl Q I rx p1 p2 p3 (i _ _ _ _ _ q)
theorem sl_ok : SlR X (rSl X.K) := by
  refine SlR.imp (sl_list.or (mk_cut.or sl_str)) fun x lo hi H Q h => ?_
  obtain ⟨α, st, b, d, R, rx, XP, h⟩ := h
  cases rx with
  | tup q rs =>
    refine .inr (.inl ⟨_, _, rfl, q.sq, fun hw => ?_, fun _ => PostV.newT R (cut_of rs) h⟩)
    refine PostV.here R (.tup q (ds := cutD _ lo hi) ?_) h
    unfold cutD
    rw [rs.length, hw.1, hw.2, List.drop_zero, Nat.sub_zero, ← rs.length, List.take_length]
    exact rs
  | ref ha =>
    rename_i n a
    have h : Tri (match st[n]? with | some (.lst _ xs) => mnew (cutD xs lo hi) st | _ => .stuck) b _ _ := h
    split at h
    · rename_i w xs e
      obtain ⟨vs, q1, q2⟩ := R.lst e ha
      exact .inl ⟨a, vs, rfl, q1, PostV.newL R (cut_of q2) h⟩
    · exact h.elim
  | str z =>
    obtain ⟨hc, h⟩ := tri_mif h
    exact .inr (.inr ⟨z, rfl, fits_le hc, PostV.here R (.str _) h⟩)
  | _ => exact h.elim

/-! ### built-in functions -/
theorem CallR.imp {f : Value} {r r' : List V → Hp → VK → Prop} (h : CallR X f r) (i : ∀ xs H Q, r' xs H Q → r xs H Q) : CallR X f r' := fun pins s σ H xs us Q I rx q => h pins s σ H xs us Q I rx (i xs H Q q)
abbrev rB (K : PySem.W.Frag) (f : Blt) : List V → Hp → VK → Prop := rl K (bltD f)
theorem call_len_ok : CallR X (.builtin "len") (rB X.K .len) := by
  refine CallR.imp (call_len_seq.or call_len_str) fun xs H Q h => ?_
  obtain ⟨α, st, b, ds, R, rs, XP, h⟩ := h
  cases rs with
  | nil => exact h.elim
  | cons rx rs =>
    cases rs with
    | cons _ _ => exact h.elim
    | nil =>
      rename_i d x
      have other : ∀ ys : List D, itemsD st d = some ys → Tri (T.ret (D.int ys.length, st)) b (PostV X.K α H Q) XP → ∃ p us, [x] = [V.ref p] ∧ (SqL X.K H p us ∨ SqT X.K H p us) ∧ Q (.int us.length) H := by
        intro ys e1 h
        obtain ⟨a, vs, rfl, q, r2⟩ := items_sq R rx e1
        refine ⟨a, vs, rfl, q, ?_⟩
        rw [← r2.length]
        exact PostV.here R (.int _) h
      cases rx with
      | str z =>
        obtain ⟨hc, h⟩ := tri_mif h
        exact .inr ⟨z, rfl, fits_le hc, PostV.here R (.int _) h⟩
      | tup q rs => exact .inl (other _ rfl h)
      | ref ha =>
        rename_i n a
        have h : Tri (match itemsD st (.ref n) with | some xs => T.ret (D.int xs.length, st) | none => .stuck) b _ _ := h
        split at h
        · rename_i xs e1
          exact .inl (other xs e1 h)
        · exact h.elim
      | _ => exact h.elim
theorem call_list_ok : CallR X (.type "list") (rB X.K .list) := by
  refine CallR.imp call_list_of fun xs H Q h => ?_
  obtain ⟨α, st, b, ds, R, rs, XP, h⟩ := h
  cases rs with
  | nil => exact h.elim
  | cons rx rs =>
    cases rs with
    | cons _ _ => exact h.elim
    | nil =>
      rename_i d x
      have h : Tri (match itemsD st d with | some xs => mnew xs st | none => .stuck) b _ _ := h
      split at h
      · rename_i ys e1
        obtain ⟨a, vs, rfl, q, r2⟩ := items_sq R rx e1
        exact ⟨a, vs, rfl, q, PostV.newL R r2 h⟩
      · exact h.elim
theorem call_tuple_ok : CallR X (.type "tuple") (rB X.K .tuple) := by
  refine CallR.imp mk_tuple fun xs H Q h => ?_
  obtain ⟨α, st, b, ds, R, rs, XP, h⟩ := h
  cases rs with
  | nil => exact h.elim
  | cons rx rs =>
    cases rs with
    | cons _ _ => exact h.elim
    | nil =>
      rename_i d x
      have h : Tri (match itemsD st d with | some xs => T.ret (D.tup xs, st) | none => .stuck) b _ _ := h
      split at h
      · rename_i ys e1
        obtain ⟨a, vs, rfl, q, r2⟩ := items_pl R rx e1
        rcases q with q | q
        · exact ⟨a, vs, rfl, .inl ⟨q, PostV.newT R r2 h⟩⟩
        · exact ⟨a, vs, rfl, .inr ⟨q.sq, PostV.here R (.tup q r2) h⟩⟩
      · exact h.elim
theorem bls_of : ∀ {xs : List D} {bs : List Bool} {vs : List V}, blsD xs = some bs → RDs K α H xs vs → vs = bs.map V.bl
  | [], _, _, h, r => by
    cases h
    cases r
    rfl
  | x :: xs, _, _, h, r => by
    cases r with
    | cons r rs =>
      cases r with
      | bl k =>
        have h : (blsD xs).map (k :: ·) = some _ := h
        cases e : blsD xs with
        | none =>
          rw [e] at h
          cases h
        | some bs =>
          rw [e] at h
          cases h
          rw [bls_of e rs]
          rfl
      | _ => cases h
theorem ints_of : ∀ {xs : List D} {bs : List Int} {vs : List V}, intsD xs = some bs → RDs K α H xs vs → vs = bs.map V.int
  | [], _, _, h, r => by
    cases h
    cases r
    rfl
  | x :: xs, _, _, h, r => by
    cases r with
    | cons r rs =>
      cases r with
      | int k =>
        have h : (intsD xs).map (k :: ·) = some _ := h
        cases e : intsD xs with
        | none =>
          rw [e] at h
          cases h
        | some bs =>
          rw [e] at h
          cases h
          rw [ints_of e rs]
          rfl
      | _ => cases h
theorem ints_back : ∀ ns : List Int, RDs K α H (ns.map D.int) (ns.map V.int)
  | [] => .nil
  | n :: ns => .cons (.int n) (ints_back ns)
theorem call_all_ok (hc : X.calm = true) : CallR X (.builtin "all") (rB X.K .all) := by
  refine CallR.imp (cr_all hc) fun xs H Q h => ?_
  obtain ⟨α, st, b, ds, R, rs, XP, h⟩ := h
  cases rs with
  | nil => exact h.elim
  | cons rx rs =>
    cases rs with
    | cons _ _ => cases rx <;> exact h.elim
    | nil =>
      cases rx with
      | ref ha =>
        rename_i n a
        have h : Tri (match st[n]? with | some (.lst _ xs) => (match blsD xs with | some bs => T.ret (D.bl (bs.all id), st) | none => .stuck) | _ => .stuck) b _ _ := h
        split at h
        · rename_i w xs e
          split at h
          · rename_i bs e2
            obtain ⟨vs, q1, q2⟩ := R.lst e ha
            have e3 := bls_of e2 q2
            subst e3
            exact ⟨a, bs, rfl, q1, PostV.here R (.bl _) h⟩
          · exact h.elim
        · exact h.elim
      | _ => exact h.elim
theorem call_any_ok (hc : X.calm = true) : CallR X (.builtin "any") (rB X.K .any) := by
  refine CallR.imp (cr_any hc) fun xs H Q h => ?_
  obtain ⟨α, st, b, ds, R, rs, XP, h⟩ := h
  cases rs with
  | nil => exact h.elim
  | cons rx rs =>
    cases rs with
    | cons _ _ => cases rx <;> exact h.elim
    | nil =>
      cases rx with
      | ref ha =>
        rename_i n a
        have h : Tri (match st[n]? with | some (.lst _ xs) => (match blsD xs with | some bs => T.ret (D.bl (bs.any id), st) | none => .stuck) | _ => .stuck) b _ _ := h
        split at h
        · rename_i w xs e
          split at h
          · rename_i bs e2
            obtain ⟨vs, q1, q2⟩ := R.lst e ha
            have e3 := bls_of e2 q2
            subst e3
            exact ⟨a, bs, rfl, q1, PostV.here R (.bl _) h⟩
          · exact h.elim
        · exact h.elim
      | _ => exact h.elim
theorem call_abs_ok : CallR X (.builtin "abs") (rB X.K .abs) := by
  refine CallR.imp call_abs fun xs H Q h => ?_
  obtain ⟨α, st, b, ds, R, rs, XP, h⟩ := h
  cases rs with
  | nil => exact h.elim
  | cons rx rs =>
    cases rs with
    | cons _ _ => cases rx <;> exact h.elim
    | nil =>
      cases rx with
      | int i => exact ⟨i, rfl, PostV.here R (.int _) h⟩
      | _ => exact h.elim
theorem call_int_ok : CallR X (.type "int") (rB X.K .int) := by
  refine CallR.imp call_int1 fun xs H Q h => ?_
  obtain ⟨α, st, b, ds, R, rs, XP, h⟩ := h
  cases rs with
  | nil => exact h.elim
  | cons rx rs =>
    cases rs with
    | cons _ _ => cases rx <;> exact h.elim
    | nil =>
      cases rx with
      | int i => exact .inl ⟨i, rfl, PostV.here R (.int _) h⟩
      | bl i => exact .inr ⟨i, rfl, PostV.here R (.int _) h⟩
      | _ => exact h.elim
theorem call_str_bl : CallR X (.type "str") (fun xs H Q => ∃ k : Bool, xs = [.bl k] ∧ Q (.str (if k then "True" else "False")) H) := by
  intro pins s σ H xs us Q I r h
  obtain ⟨k, rfl, q⟩ := h
  obtain ⟨u, rfl, h⟩ := Vals.one r
  cases h
  exact PySem.P.str_of_bool ⟨.str _, H, I.tok _, ⟨_, rfl⟩, q⟩
theorem call_str_ok : CallR X (.type "str") (rB X.K .str) := by
  refine CallR.imp (call_str_int.or call_str_bl) fun xs H Q h => ?_
  obtain ⟨α, st, b, ds, R, rs, XP, h⟩ := h
  cases rs with
  | nil => exact h.elim
  | cons rx rs =>
    cases rs with
    | cons _ _ => cases rx <;> exact h.elim
    | nil =>
      cases rx with
      | int i =>
        obtain ⟨hc, h⟩ := tri_mif h
        exact .inl ⟨i, rfl, of_decide_eq_true hc, PostV.here R (.str _) h⟩
      | bl k => exact .inr ⟨k, rfl, PostV.here R (.str _) h⟩
      | _ => exact h.elim
theorem two_int {f : Int → Int → D} {g : Int → Int → V} (hfg : ∀ i j α H, RD K α H (f i j) (g i j)) {c : Int → Int → Bool} {xs : List V} {H : Hp} {Q : VK} {m : List D → M D}
    (hm : ∀ ds st b P XP, Tri (m ds st) b P XP → ∃ i j, ds = [D.int i, D.int j] ∧ c i j = true ∧ P b (f i j, st)) (h : rl K m xs H Q) : ∃ i j, xs = [.int i, .int j] ∧ c i j = true ∧ Q (g i j) H := by
  obtain ⟨α, st, b, ds, R, rs, XP, h⟩ := h
  obtain ⟨i, j, rfl, c, h⟩ := hm ds st b _ _ h
  cases rs with
  | cons r1 rs =>
    cases rs with
    | cons r2 rs =>
      cases rs
      cases r1
      cases r2
      exact ⟨i, j, rfl, c, PostV.here R (hfg i j α H) h⟩
theorem blt2 {f : Blt} {h2 : Int → Int → D} {c : Int → Int → Bool} (e1 : ∀ i j st, bltD f [.int i, .int j] st = mif (c i j) (mret (h2 i j)) st) (e2 : ∀ ds st, (∀ i j, ds ≠ [D.int i, D.int j]) → bltD f ds st = .stuck) :
    ∀ ds st b (P : Nat → (D × Store) → Prop) (XP : Nat → Ex → Store → Prop), Tri (bltD f ds st) b P XP → ∃ i j, ds = [D.int i, D.int j] ∧ c i j = true ∧ P b (h2 i j, st) := by
  intro ds st b P XP h
  by_cases q : ∃ i j, ds = [D.int i, D.int j]
  · obtain ⟨i, j, rfl⟩ := q
    rw [e1] at h
    obtain ⟨c, h⟩ := tri_mif h
    exact ⟨i, j, rfl, c, h⟩
  · rw [e2 ds st fun i j e => q ⟨i, j, e⟩] at h
    exact h.elim
theorem call_min_ok (hc : X.calm = true) : CallR X (.builtin "min") (rB X.K .min2) := by
  refine CallR.imp (call_min2 hc) fun xs H Q h => ?_
  obtain ⟨i, j, e, _, q⟩ := two_int (f := fun i j => .int (if j < i then j else i)) (g := fun i j => .int (if j < i then j else i)) (c := fun _ _ => true) (fun _ _ _ _ => .int _) (blt2 (fun _ _ _ => rfl) fun ds st q => (by
    unfold bltD
    split <;> first | rfl | exact absurd rfl (q _ _) | (rename_i h1 _; cases h1; done) | (rename_i h1; cases h1; done))) h
  · exact ⟨i, j, e, q⟩
theorem call_max_ok (hc : X.calm = true) : CallR X (.builtin "max") (rB X.K .max2) := by
  refine CallR.imp (call_max2 hc) fun xs H Q h => ?_
  obtain ⟨i, j, e, _, q⟩ := two_int (f := fun i j => .int (if j > i then j else i)) (g := fun i j => .int (if j > i then j else i)) (c := fun _ _ => true) (fun _ _ _ _ => .int _) (blt2 (fun _ _ _ => rfl) fun ds st q => (by
    unfold bltD
    split <;> first | rfl | exact absurd rfl (q _ _) | (rename_i h1 _; cases h1; done) | (rename_i h1; cases h1; done))) h
  · exact ⟨i, j, e, q⟩
theorem call_lcm_ok : CallR X (.builtin "math.lcm") (rB X.K .lcm) := by
  intro pins s σ H vs us Q I r h
  obtain ⟨i, j, e, hc, q⟩ := two_int (f := fun i j => .int (Nat.lcm i.natAbs j.natAbs : Nat)) (g := fun i j => .int (Nat.lcm i.natAbs j.natAbs : Nat)) (c := fun i j => decide (i.natAbs < 2 ^ 64) && decide (j.natAbs < 2 ^ 64)) (fun _ _ _ _ => .int _)
    (blt2 (fun _ _ _ => rfl) fun ds st q => (by
    unfold bltD
    split <;> first | rfl | exact absurd rfl (q _ _) | (rename_i h1 _; cases h1; done) | (rename_i h1; cases h1; done))) h
  · subst e
    obtain ⟨t, u, rfl⟩ := Vals.int2 r
    obtain ⟨c1, c2⟩ := Bool.and_eq_true_iff.mp hc
    exact PySem.W.mc_lcm (of_decide_eq_true c1) (of_decide_eq_true c2) fun _ => ⟨.int _, H, I.tok _, ⟨_, rfl⟩, q⟩
theorem one_of {u : List Value} {v : V} (r : Vals [v] u) : ∃ w, u = [w] ∧ RelV v w := Vals.one r
theorem call_repr_ok (hg : X.A.guards = some []) (hu : X.A.units + 64 < cLine) : CallR X (.builtin "repr") (rB X.K .repr) := by
  intro pins s σ H vs us Q I r h
  obtain ⟨α, st, b, ds, R, rs, XP, h⟩ := h
  cases rs with
  | nil => exact h.elim
  | cons rx rs =>
    cases rs with
    | cons _ _ => exact h.elim
    | nil =>
      rename_i d x
      have h : Tri (match py deep st d with | some d => mif (d.showable && fits d.shown.length) (mret (D.str d.shown)) st | none => .stuck) b _ _ := h
      split at h
      · rename_i p e1
        obtain ⟨hc, h⟩ := tri_mif h
        obtain ⟨c1, c2⟩ := Bool.and_eq_true_iff.mp hc
        obtain ⟨u, rfl, ru⟩ := Vals.one r
        have dp := py_dp R _ _ _ _ rx e1
        obtain ⟨lay, dep⟩ := py_lay deep d p e1
        have q : Q (.str p.shown) H := PostV.here R (.str _) h
        have hnd := PyData.hasDict_of_canLay p lay
        cases dp with
        | non =>
          cases ru
          exact P.repr_of_none ⟨.str _, H, I.tok _, ⟨_, rfl⟩, q⟩
        | bl k =>
          cases ru
          exact P.repr_of_bool ⟨.str _, H, I.tok _, ⟨_, rfl⟩, q⟩
        | int i =>
          obtain ⟨t, rfl⟩ := ru
          exact P.repr_of_int (of_decide_eq_true c1) ⟨.str _, H, I.tok _, ⟨_, rfl⟩, q⟩
        | str z =>
          obtain ⟨t, rfl⟩ := ru
          exact P.repr_of_str ⟨.str _, H, I.tok _, ⟨_, rfl⟩, q⟩ (fits_le c2)
        | lst h1 h2 =>
          cases ru
          obtain ⟨as, rr⟩ := Dp.reads I _ _ _ (.lst h1 h2) rfl
          exact repr_of_reads' rr c1 (fun z => by rw [hnd] at z; cases z) hg (by have : (deep : Nat) = 24 := rfl; omega) (fun _ _ e => e) (fun h' u tk hk => ⟨.str _, H, I.kept hk, ⟨_, rfl⟩, q⟩) (fits_le c2)
        | tup h1 h2 =>
          cases ru
          obtain ⟨as, rr⟩ := Dp.reads I _ _ _ (.tup h1 h2) rfl
          exact repr_of_reads' rr c1 (fun z => by rw [hnd] at z; cases z) hg (by have : (deep : Nat) = 24 := rfl; omega) (fun _ _ e => e) (fun h' u tk hk => ⟨.str _, H, I.kept hk, ⟨_, rfl⟩, q⟩) (fits_le c2)
      · exact h.elim

/-! ### methods -/
theorem MtR.imp {id : String} {r r' : V → List V → Hp → VK → Prop} (h : MtR X id r) (i : ∀ x xs H Q, r' x xs H Q → r x xs H Q) : MtR X id r' := fun pins s σ H x xs u us Q I rx ry q => h pins s σ H x xs u us Q I rx ry (i x xs H Q q)
abbrev rMt (K : PySem.W.Frag) (m : Mth) : V → List V → Hp → VK → Prop := rm K (methD m)
theorem mt_append_ok : MtR X "list.append" (rMt X.K .append) := by
  refine MtR.imp mt_append fun x xs H Q h => ?_
  obtain ⟨α, st, b, d, ds, R, rx, rs, XP, h⟩ := h
  cases rx with
  | ref ha =>
    cases rs with
    | nil => exact h.elim
    | cons r1 rs =>
      cases rs with
      | cons _ _ => exact h.elim
      | nil =>
        rename_i n a y v
        have h : Tri (match st[n]? with | some (.lst true xs) => mif (fits (xs.length + 1)) (setL n (xs ++ [y]) .non) st | _ => .stuck) b _ _ := h
        split at h
        · rename_i ys e
          obtain ⟨hc, h⟩ := tri_mif h
          obtain ⟨vs, q1, q2⟩ := R.lstW e ha
          exact ⟨a, vs, v, rfl, rfl, q1, by rw [← q2.length]; exact fits_lt hc, PostV.setL R e ha (q2.append (.cons r1 .nil)) .non h⟩
        · exact h.elim
  | _ => exact h.elim
theorem mt_insert_ok : MtR X "list.insert" (rMt X.K .insert) := by
  refine MtR.imp mt_insert fun x xs H Q h => ?_
  obtain ⟨α, st, b, d, ds, R, rx, rs, XP, h⟩ := h
  cases rx with
  | ref ha =>
    cases rs with
    | nil => exact h.elim
    | cons r1 rs =>
      cases rs with
      | nil => cases r1 <;> exact h.elim
      | cons r2 rs =>
        cases rs with
        | cons _ _ => cases r1 <;> exact h.elim
        | nil =>
          cases r1 with
          | int i =>
            rename_i n a y v
            have h : Tri (match st[n]? with | some (.lst true xs) => mif (fits (xs.length + 1) && decide (0 ≤ i) && decide (i < 2 ^ 62)) (setL n (xs.take i.toNat ++ [y] ++ xs.drop i.toNat) .non) st | _ => .stuck) b _ _ := h
            split at h
            · rename_i ys e
              obtain ⟨hc, h⟩ := tri_mif h
              obtain ⟨hc1, hc2⟩ := Bool.and_eq_true_iff.mp hc
              obtain ⟨hc3, hc4⟩ := Bool.and_eq_true_iff.mp hc1
              have c2 := of_decide_eq_true hc2
              have c4 := of_decide_eq_true hc4
              obtain ⟨vs, q1, q2⟩ := R.lstW e ha
              exact ⟨a, vs, i, v, rfl, rfl, q1, by rw [← q2.length]; exact fits_lt hc3, c4, by omega, PostV.setL R e ha (((q2.take _).append (.cons r2 .nil)).append (q2.drop _)) .non h⟩
            · exact h.elim
          | _ => exact h.elim
  | _ => exact h.elim
theorem mt_pop_ok : MtR X "list.pop" (rMt X.K .pop) := by
  refine MtR.imp mt_pop fun x xs H Q h => ?_
  obtain ⟨α, st, b, d, ds, R, rx, rs, XP, h⟩ := h
  cases rx with
  | ref ha =>
    cases rs with
    | cons _ _ => exact h.elim
    | nil =>
      rename_i n a
      have h : Tri (match st[n]? with | some (.lst true xs) => (match xs[xs.length - 1]? with | some y => setL n xs.dropLast y st | none => .stuck) | _ => .stuck) b _ _ := h
      split at h
      · rename_i ys e
        split at h
        · rename_i y e2
          obtain ⟨vs, q1, q2⟩ := R.lstW e ha
          obtain ⟨v, e3, rv⟩ := q2.get e2
          exact ⟨a, vs, v, rfl, rfl, q1, by rw [← q2.length]; exact e3, PostV.setL R e ha q2.dropLast rv h⟩
        · exact h.elim
      · exact h.elim
  | _ => exact h.elim
theorem seqIx {i : Int} {n k : Nat} (h0 : 0 ≤ i) (h : i.toNat < n) (e : i.toNat = k) : seqIndex? i n = some k := by
  have q : ixN n i = some k := by
    unfold ixN
    rw [if_pos h0, if_pos (by omega), e]
  exact (ixN_seq q).1
theorem mt_popAt_ok : MtR X "list.pop" (rMt X.K .popAt) := by
  refine MtR.imp mt_popAt fun x xs H Q h => ?_
  obtain ⟨α, st, b, d, ds, R, rx, rs, XP, h⟩ := h
  cases rx with
  | ref ha =>
    cases rs with
    | nil => exact h.elim
    | cons r1 rs =>
      cases rs with
      | cons _ _ => cases r1 <;> exact h.elim
      | nil =>
        cases r1 with
        | int i =>
          rename_i n a
          have h : Tri (match st[n]? with | some (.lst true xs) => (match xs[i.toNat]? with | some y => mif (decide (0 ≤ i) && decide (i < 2 ^ 62)) (setL n (xs.eraseIdx i.toNat) y) st | none => .stuck) | _ => .stuck) b _ _ := h
          split at h
          · rename_i ys e
            split at h
            · rename_i y e2
              obtain ⟨hc, h⟩ := tri_mif h
              obtain ⟨hc1, hc2⟩ := Bool.and_eq_true_iff.mp hc
              have c := of_decide_eq_true hc1
              have c2 := of_decide_eq_true hc2
              obtain ⟨vs, q1, q2⟩ := R.lstW e ha
              obtain ⟨v, e3, rv⟩ := q2.get e2
              have hl := (List.getElem?_eq_some_iff.mp e3).1
              exact ⟨a, vs, i, i.toNat, v, rfl, rfl, q1, by omega, by omega, seqIx c hl rfl, e3, PostV.setL R e ha (q2.eraseIdx _) rv h⟩
            · exact h.elim
          · exact h.elim
        | _ => exact h.elim
  | _ => exact h.elim
theorem mt_upper_ok : MtR X "str.upper" (rMt X.K .upper) := by
  refine MtR.imp mt_upper fun x xs H Q h => ?_
  obtain ⟨α, st, b, d, ds, R, rx, rs, XP, h⟩ := h
  cases rx with
  | str z =>
    cases rs with
    | cons _ _ => exact h.elim
    | nil =>
      obtain ⟨hc, h⟩ := tri_mif h
      exact ⟨z, rfl, rfl, Nat.le_trans (Nat.le_of_ble_eq_true hc) (by decide), PostV.here R (.str _) h⟩
  | _ => exact h.elim
theorem eqV_toV {d e : D} {x y : V} (h1 : x = toV d) (h2 : y = toV e) : eqV x y = eqV (toV d) (toV e) := by rw [h1, h2]
theorem mt_index_ok : MtR X "tuple.index" (rMt X.K .index) := by
  refine MtR.imp mk_index fun x xs H Q h => ?_
  obtain ⟨α, st, b, d, ds, R, rx, rs, XP, h⟩ := h
  cases rx with
  | tup q r =>
    cases rs with
    | nil => exact h.elim
    | cons r1 rs =>
      cases rs with
      | cons _ _ => exact h.elim
      | nil =>
        rename_i its vs a y v
        have h : Tri (match its.findIdx? fun z => eqV (toV z) (toV y) with | some j => mif (flatD y && its.all flatD) (mret (D.int (j : Int))) st | none => .stuck) b _ _ := h
        split at h
        · rename_i j e
          obtain ⟨hc, h⟩ := tri_mif h
          obtain ⟨c1, c2⟩ := Bool.and_eq_true_iff.mp hc
          obtain ⟨e1, f1⟩ := r1.flat c1
          obtain ⟨e2, f2⟩ := r.flat c2
          obtain ⟨hj, hz, hno⟩ := List.findIdx?_eq_some_iff_getElem.mp e
          refine ⟨a, vs, v, j, toV its[j], rfl, rfl, q.sq, f1, f2, ?_, ?_, fun m z' hm hz' => ?_, PostV.here R (.int _) h⟩
          · rw [e2, List.getElem?_map, List.getElem?_eq_getElem hj]
            rfl
          · rw [e1]
            exact hz
          · rw [e2, List.getElem?_map] at hz'
            have hml : m < its.length := Nat.lt_trans hm hj
            rw [List.getElem?_eq_getElem hml] at hz'
            cases hz'
            rw [e1]
            have := hno m hm
            simpa using this
        · exact h.elim
  | _ => exact h.elim
end
end DI
end
section
/-! # sorted of anything that can be collected -/
namespace DI
open PySem PySem.Spec PyProof.Rows SrtO L2
section
variable {prog : Program} {w : World} {A : Around} {E : Value → Shared → Prop} {s : Shared}
/-- what stood stands, and the heap is no smaller -/
structure Kept (h h' : Heap) : Prop where
  get : ∀ b o, h.get? b = some o → h'.get? b = some o
  size : h.objs.size ≤ h'.objs.size
def nL : Obj := { cls := .type "list", data := .seq ([] : List Value).toArray }
/-- a list's or a tuple's items, collected -/
theorem col_seq {R : List Value → Shared → Prop} (a : Addr) {T : String} {o : Obj} {xs : Array Value} {n : Nat} (hT : T = "list" ∨ T = "tuple") (ho : s.heap.get? a = some o) (hc : o.cls = .type T) (hd : o.data = .seq xs n) (hz : xs.size ≤ sizeLine)
    (hR : ∀ h', Kept s.heap h' → R xs.toList { s with heap := h' }) : wpAny (model prog w) A (collect (.ref a)) R E s := by
  have e1 : (s.heap.push nL).get? s.heap.objs.size = some { cls := .type "list", data := .seq #[] 0 } := Heap.get?_push_size _ rfl
  have e2 := Heap.get?_update_self (Obj.mapSeq (· ++ xs)) e1 rfl
  have kp : Kept s.heap ((s.heap.push nL).update s.heap.objs.size (Obj.mapSeq (· ++ xs))) := by
    refine ⟨fun b u q => ?_, ?_⟩
    · exact (Heap.get?_update_other _ _ (Nat.ne_of_gt (Heap.lt_size q))).trans (Heap.get?_push_of_some _ q)
    · rw [Heap.size_update, size_push']
      omega
  have last : ∀ s1 : Shared, s1 = { s with heap := (s.heap.push nL).update s.heap.objs.size (Obj.mapSeq (· ++ xs)) } → wpAny (model prog w) A (do
      match (← load s.heap.objs.size).data with
      | Data.seq ys _ => pure ys.toList
      | _ => unsupported "internal:collect") R E s1 := by
    rintro s1 rfl
    refine wpAny_bind (wpAny_load e2 (wpAny_pure ?_))
    have z := hR _ kp
    rw [show xs.toList = ((#[] : Array Value) ++ xs).toList by simp] at z
    exact z
  unfold collect
  refine wpAny_bind (wpAny_runValue (codeAny_builtin PySem.F.entry_proto_collect ?_))
  rw [Around.under_plainId PySem.F.plain_proto_collect _]
  refine wpAny_bind (wpAny_newObj_type (wpAny_pure ⟨plainId_quiet PySem.F.plain_list_iadd _, codeAny_builtin PySem.F.entry_list_iadd ?_⟩))
  rw [Around.under_plainId PySem.F.plain_list_iadd _]
  have key := wpAny_extend_seq (hsz := hz) (A := A) (prog := prog) (w := w) (s := { s with heap := s.heap.push nL }) (R := fun r s1 => r = .ok (.ret (.ref s.heap.objs.size)) ∧ s1 = { s with heap := (s.heap.push nL).update s.heap.objs.size (Obj.mapSeq (· ++ xs)) }) s.heap.objs.size a (.ref s.heap.objs.size) 0 hT e1 (Heap.get?_push_of_some _ ho) hc hd ⟨rfl, rfl⟩
  refine wpAny_mono key (fun fin s1 z => ?_) fun e s1 z => nomatch z.1
  cases fin with
  | done f =>
    obtain ⟨z1, z2⟩ := z
    cases z1
    exact last s1 z2
  | again c =>
    refine ⟨z.1, codeAny_mono z.2 fun r s2 y => ?_⟩
    obtain ⟨rfl, y2⟩ := y
    exact last s2 y2
theorem srt_any {v : Value} {vs : List Value} {ltv : Value → Value → Bool} {Q : Value → Shared → Prop} (O : Swo ltv) (hz : vs.length ≤ sizeLine)
    (hc : ∀ {R : List Value → Shared → Prop}, (∀ h', Kept s.heap h' → R vs { s with heap := h' }) → wpAny (model prog w) A.in1 (collect v) R E s)
    (hS : 2 ≤ vs.length → ∀ h' : Heap, Kept s.heap h' → ∀ a, (∀ b o, s.heap.get? b = some o → b ≠ a) → SortableO prog w A.in1.in1 { s with heap := h' } a vs ltv)
    (h : ∀ (out : List Value) (a : Addr) (h' : Heap), Srtd ltv out → Stb ltv out vs → s.heap.objs.size ≤ a → (∀ b o, s.heap.get? b = some o → h'.get? b = some o) → (∃ ep, h'.get? a = some (seqObj "list" out.toArray ep)) → Q (.ref a) { s with heap := h' }) :
    wpAny (model prog w) A (call (.builtin "sorted") [v]) Q E s := by
  refine Calls.call_function_entry kind_sorted plain_sorted entry_sorted (args_sorted1 _) ?_
  unfold Builtin.«sorted»
  refine wpAny_bind (m := checkCount "sorted" 1 1 _) (wpAny_pure ?_)
  refine wpAny_bind (hc fun h1 k1 => ?_)
  refine wpAny_bind (wpAny_newList ?_ hz)
  have oA : (h1.push (seqObj "list" vs.toArray 0)).get? h1.objs.size = some (seqObj "list" vs.toArray 0) := Heap.get?_push_size _ rfl
  have kA : Kept s.heap (h1.push (seqObj "list" vs.toArray 0)) := ⟨fun b o e => Heap.get?_push_of_some _ (k1.get b o e), by rw [size_push']; have := k1.size; omega⟩
  have nA : ∀ b o, s.heap.get? b = some o → b ≠ h1.objs.size := fun b o e => Nat.ne_of_lt (Heap.lt_size (k1.get b o e))
  refine wpAny_bind (wpAny_holding (wpAny_call_entry slot_list_sort ⟨_, oA, rfl⟩ entry_list_sort (list_sort_ord O oA hz (fun h2 => hS h2 _ kA _ nA) fun out hs hb => ⟨_, rfl, ?_⟩) (args_list_sort _)))
  refine wpAny_pure ⟨_, rfl, h out _ _ hs hb k1.size (fun b o e => ?_) (sortedHeap_at oA)⟩
  exact (sortedHeap_old (nA b o e) (Heap.lt_size (kA.get b o e))).trans (kA.get b o e)
end
section
variable {X : Cx}
/-- sorted of ints, in a list or a tuple -/
def rSrt (K : PySem.W.Frag) : List V → Hp → VK → Prop := fun vs H Q => ∃ (a : Addr) (ns : List Int), vs = [V.ref a] ∧ (SqL K H a (ns.map V.int) ∨ SqT K H a (ns.map V.int)) ∧
  ∀ (ns' : List Int) (p : Addr), ns'.Perm ns → ns'.Pairwise (· ≤ ·) → H p = none → Q (.ref p) (upd H p (.lst (ns'.map V.int)))
theorem cr_srt : CallR X (.builtin "sorted") (rSrt X.K) := by
  intro pins s σ H vs us Q I r h
  obtain ⟨a, ns, rfl, hs, q⟩ := h
  have src : ∃ (its : List Value) (o : Obj) (T : String) (n : Nat), Vals (ns.map V.int) its ∧ (T = "list" ∨ T = "tuple") ∧ s.heap.get? a = some o ∧ o.cls = .type T ∧ o.data = .seq its.toArray n ∧ (ns.map V.int).length ≤ sizeLine := by
    rcases hs with hs | hs
    · obtain ⟨its, rv, ⟨o, n, e1, e2, e3, e4⟩, hz⟩ := I.list hs
      exact ⟨its, o, "list", n, rv, .inl rfl, e1, e2, e4, hz⟩
    · obtain ⟨its, rv, ⟨o, e1, e2, n, e4⟩, hz⟩ := I.tuple hs
      exact ⟨its, o, "tuple", n, rv, .inr rfl, e1, e2, e4, hz⟩
  obtain ⟨its, o, T, n, rv, hT, e1, e2, e3, hz⟩ := src
  rw [Vals.ref1 r]
  have hi := rv.ints
  refine srt_any swo_int (vs := its) (by rw [← rv.length]; exact hz) (fun k => col_seq a hT e1 e2 e3 (by rw [List.size_toArray, ← rv.length]; exact hz) k) (fun h2 h1 _ a' _ => ints_sortable hi h2) fun out p h1 s1 s2 hp hk he => ?_
  obtain ⟨k1, k2, k3⟩ := ints_out hi s1 s2
  obtain ⟨ep, he⟩ := he
  have hlen : ((out.map iv).map V.int).length ≤ sizeLine := by
    rw [List.length_map, k2.length_eq]
    rw [List.length_map] at hz
    exact hz
  exact ⟨.ref p, upd H p (.lst ((out.map iv).map V.int)), I.laid (t' := s.toks) hk hp ⟨hlen, out, ep, vals_of_ints k1, he⟩, rfl, q _ _ k2 k3 (I.hok.fresh hp)⟩
theorem insI_perm (x : Int) : ∀ l : List Int, (insI x l).Perm (x :: l)
  | [] => List.Perm.refl _
  | y :: r => by
    unfold insI
    split
    · exact List.Perm.refl _
    · exact ((insI_perm x r).cons y).trans (List.Perm.swap x y r)
theorem sortI_perm : ∀ l : List Int, (sortI l).Perm l
  | [] => List.Perm.refl _
  | x :: r => (insI_perm x _).trans ((sortI_perm r).cons x)
theorem insI_sorted {x : Int} : ∀ {l : List Int}, l.Pairwise (· ≤ ·) → (insI x l).Pairwise (· ≤ ·)
  | [], _ => List.pairwise_singleton _ _
  | y :: r, h => by
    obtain ⟨h1, h2⟩ := List.pairwise_cons.mp h
    unfold insI
    split
    · rename_i c
      refine List.pairwise_cons.mpr ⟨fun z hz => ?_, h⟩
      rcases List.mem_cons.mp hz with rfl | hz
      · exact c
      · have := h1 z hz
        omega
    · rename_i c
      refine List.pairwise_cons.mpr ⟨fun z hz => ?_, insI_sorted h2⟩
      rcases List.mem_cons.mp ((insI_perm x r).mem_iff.mp hz) with rfl | hz
      · omega
      · exact h1 z hz
theorem sortI_sorted : ∀ l : List Int, (sortI l).Pairwise (· ≤ ·)
  | [] => List.Pairwise.nil
  | x :: r => insI_sorted (sortI_sorted r)
theorem sorted_one : ∀ {l m : List Int}, l.Perm m → l.Pairwise (· ≤ ·) → m.Pairwise (· ≤ ·) → l = m
  | [], m, h, _, _ => (List.Perm.nil_eq h)
  | x :: l, [], h, _, _ => by have := h.length_eq; simp at this
  | x :: l, y :: m, h, h1, h2 => by
    obtain ⟨a1, a2⟩ := List.pairwise_cons.mp h1
    obtain ⟨b1, b2⟩ := List.pairwise_cons.mp h2
    have e : x = y := by
      have hx : x ∈ y :: m := h.mem_iff.mp List.mem_cons_self
      have hy : y ∈ x :: l := h.mem_iff.mpr List.mem_cons_self
      rcases List.mem_cons.mp hx with e | hx
      · exact e
      · rcases List.mem_cons.mp hy with e | hy
        · exact e.symm
        · have := a1 y hy
          have := b1 x hx
          omega
    subst e
    rw [sorted_one h.cons_inv a2 b2]
theorem call_sorted_ok : CallR X (.builtin "sorted") (rB X.K .sorted) := by
  refine CallR.imp cr_srt fun xs H Q h => ?_
  obtain ⟨α, st, b, ds, R, rs, XP, h⟩ := h
  cases rs with
  | nil => exact h.elim
  | cons rx rs =>
    cases rs with
    | cons _ _ => exact h.elim
    | nil =>
      rename_i d x
      have h : Tri (match itemsD st d with | some xs => (match intsD xs with | some ns => mif (fits ns.length) (mnew ((sortI ns).map D.int)) st | none => .stuck) | none => .stuck) b _ _ := h
      split at h
      · rename_i ys e1
        split at h
        · rename_i ns e2
          obtain ⟨hc, h⟩ := tri_mif h
          obtain ⟨a, vs, rfl, q, r2⟩ := items_sq R rx e1
          have e3 := ints_of e2 r2
          subst e3
          refine ⟨a, ns, rfl, q, fun ns' p hp hs hn => ?_⟩
          rw [sorted_one (hp.trans (sortI_perm ns).symm) hs (sortI_sorted ns)]
          exact PostV.newL R (ints_back _) h p hn
        · exact h.elim
      · exact h.elim
end
end DI
end
section
namespace DI
open PySem L2 PySem.Spec
open PyProof.Rows hiding St

/-! ### a def's promise, where no repr is under way -/
structure FnG (P : Program) (w : World) (K : PySem.W.Frag) (mg : Str → Option Value) (base : Heap) (k : Nat) (f : Addr) (fd : FuncData) (ps : List Str) (sp : Sp) : Prop where
  len : ∀ vs H Q E, sp vs H Q E → vs.length = ps.length
  run : ∀ (A : Around) (outer : List Env) (s : Shared) (H : Hp) (args : Args) (us : List Value) (vs : List V) (Q : VK) (E : XK),
    Room k A → A.guards = some [] → Env0 P w K mg base A outer s H → BindsTo s fd args (ps.zip us) → Vals vs us → sp vs H Q E →
    codeAny (model P w) A (.call (.ref f) args) (CR (L2.CX P w) outer P w H s Q E) s
theorem fnG_of {P : Program} {w : World} {K : PySem.W.Frag} {mg : Str → Option Value} {base : Heap} {k : Nat} {x qual : Str} {st : Stmt} {f : Addr} {fd : FuncData} {N ps : List Str} {sp : Sp} (F : Fun K x qual st f fd)
    (S : FnScope N ps (defScope st)) (len : ∀ vs H Q E, sp vs H Q E → vs.length = ps.length)
    (hbody : ∀ (cdv : Value) (A : Around) (outer : List Env) (s : Shared) (H : Hp) (vs : List V) (Q : VK) (E : XK), Room k (A.deeper (envOfC qual (defScope st) s.heap.objs.size f cdv)) → A.guards = some [] → sp vs H Q E →
      ∃ t, PSs (cxOf (L2.CX P w) P w K mg base N qual (defScope st) f cdv A outer s H E) (defBody st) t ∧ t { nx := fun _ H' => Q .non H', rt := Q } (start N vs) H) :
    FnG P w K mg base (k + 1) f fd ps sp := by
  obtain ⟨oc, od, kV, doc, pm, an, cdv, ct, osl, rfl, lk, hcd⟩ := F.ex
  refine ⟨len, fun A outer s H args us vs Q E hr hg e0 hb r hsp => ?_⟩
  have hl := len _ _ _ _ hsp
  have inH : K.In s.heap := e0.mod.kin.keeps fun b o e => (e0.bs b o e).1
  have nolim : s.heap.NoLimit := e0.mod.nolimit.keeps fun b o e => (e0.bs b o e).1
  have kinds : ∀ y ∈ ps.zip us, (defScope st).names.lookup y.1 = some .local ∨
      ((defScope st).names.lookup y.1 = some .cell ∧ ((cellsFrom (s.heap.objs.size + 1) (defScope st).names []).lookup y.1).isSome = true) := by
    rintro ⟨n, v⟩ hy
    rcases S.par n (List.of_mem_zip hy).1 with q | q
    · exact .inl q
    · exact .inr ⟨q, PySem.W.cellsFrom_some _ _ _ (.inl q)⟩
  refine codeAny_call_function hr.depth (inH _ _ lk) rfl S.co S.gen rfl (PySem.W.codeRec_of inH hcd) (hb _ _ _ _ ?_)
  refine wpAny_newFunctionEnv_cells S.kind kinds fun env he s1 y => ?_
  subst he
  refine ⟨nolim.keeps y.toInCall.keep, codeAny_func ?_⟩
  obtain ⟨t, ht, hq⟩ := hbody cdv A outer s H vs Q E (hr.deeper _) hg hsp
  have I := inv_start (CX := L2.CX P w) (E := E) S hr.hd e0 hl r y
  refine wpAny_mono (ht.run [] s1 (start N vs) H _ I hq) (fun fl s' hs => ?_) fun e s' hs => hs
  have fin : ∀ {σ' : L2.St} {H' : Hp} {v : V} {u : Value}, Inv (cxOf (L2.CX P w) P w K mg base N qual (defScope st) f cdv A outer s H E) [] σ' H' s' → RelV v u → Q v H' → CE outer P w H s Q u s' := by
    intro σ' H' v u J rv q
    exact ⟨v, H', J.os, J.bare, J.base, J.hok, rv, q⟩
  cases fl with
  | brk =>
    obtain ⟨_, _, _, q⟩ := hs
    exact q.elim
  | cont =>
    obtain ⟨_, _, _, q⟩ := hs
    exact q.elim
  | next =>
    obtain ⟨σ', H', J, q⟩ := hs
    exact fin (v := V.non) (u := Value.none) J rfl q
  | ret u =>
    obtain ⟨v, σ', H', J, rv, q⟩ := hs
    exact fin J rv q
section
variable {X : Cx} {k : Nat} {f : Addr} {fd : FuncData} {ps : List Str} {sp : Sp} {W : WX} {pins : List (Addr × Obj)} {σ : L2.St} {H : Hp} {s : Shared} {Q : VK}
/-- the callee runs; args: as it is called; us: as they are bound -/
theorem run_fnG (F : FnG X.prog X.w X.K X.mg X.base k f fd ps sp) (hr : Room k X.A) (hg : X.A.guards = some []) (tk : Takes X W) {args : Args} {us : List Value} {vs : List V} (hb : BindsTo s fd args (ps.zip us))
    (I : Inv X pins σ H s) (r : Vals vs us) (h : sp vs H Q (fun cls d H' => W cls d σ H')) : codeAny (model X.prog X.w) X.A (.call (.ref f) args) (fun r s' => match r with
      | .ok (.ret u) => EP X pins σ Q u s'
      | .ok _ => False
      | .error e => X.xe e s') s := by
  refine codeAny_mono (F.run X.A X.stack s H args us vs Q (fun cls d H' => W cls d σ H') hr hg I.env0 hb r h) fun r s' hq => ?_
  cases r with
  | error e => exact passAt tk σ pins H s e s' I hq
  | ok fl =>
    cases fl with
    | ret u => exact I.after hq
    | next => exact hq.elim
    | brk => exact hq.elim
    | cont => exact hq.elim
end

/-! ### what is known of the module -/
def PostE (K : PySem.W.Frag) (RX : XRel) (E : XK) (α : List Addr) (H : Hp) : Nat → Ex → Store → Prop := fun b x st => ∀ α' H' cls d, Ext K α H α' H' → Rel K α' H' st b → RX x cls d H' → E cls d H'
def spI (F : Tab) (RX : XRel) (K : PySem.W.Frag) (k : Nat) (f : Str) : Sp := fun vs H Q E => ∃ α st b ds, Rel K α H st b ∧ RDs K α H ds vs ∧ Tri (run F k f ds st) b (PostV K α H Q) (PostE K RX E α H)
def pickV {α : Type} (xs : List α) : List Nat → Option (List α)
  | [] => some []
  | i :: r => match xs[i]?, pickV xs r with
    | some x, some ys => some (x :: ys)
    | _, _ => none
/-- keywords ks behind n values come to the parameters in the order o -/
def KwOk (fd : FuncData) (ps : List Str) (n : Nat) (ks : List Str) (o : List Nat) : Prop :=
  ∀ (s : Shared) (us ws : List Value), us.length = n → ws.length = ks.length → ∃ zs, pickV (us ++ ws) o = some zs ∧ BindsTo s fd ⟨us, ks.zip ws⟩ (ps.zip zs)
/-- which keywords are used, by def -/
abbrev KwTab := List (Str × Nat × List Str)
structure FnFacts (F : Tab) (KW : KwTab) (RX : XRel) (P : Program) (w : World) (K : PySem.W.Frag) (mg : Str → Option Value) (base : Heap) (k : Nat) (f : Str) : Prop where
  ex : ∃ (fa : Addr) (fd : FuncData) (ps : List Str), mg f = some (.ref fa) ∧ PySem.W.keepIn K (.ref fa) = true ∧ Binds K fd ps [] ∧ FnG P w K mg base k fa fd ps (spI F RX K k f) ∧
    ∀ n ks, (f, n, ks) ∈ KW → ∀ o, kordT F f n ks = some o → KwOk fd ps n ks o
def bltNames : List Str := ["len", "list", "tuple", "all", "any", "abs", "int", "bool", "str", "repr", "min", "max", "sorted", "range", "enumerate", "zip", "isinstance"]
/-- what a module's name is: a builtin, or a written value -/
inductive GV where
  | blt (id : String) | strs (ss : List Str) | int (i : Int) | str (s : Str)
  deriving DecidableEq
def GvAt (K : PySem.W.Frag) : GV → Value → Prop
  | .blt id, v => v = .builtin id
  | .int i, v => ∃ t, v = .int i t
  | .str s, v => ∃ t, v = .str s t
  | .strs ss, v => ∃ (a : Addr) (o : Obj) (its : Array Value) (n : Nat), v = .ref a ∧ K.lookup a = some o ∧ o.cls = .type "tuple" ∧ o.dict = none ∧ o.data = .seq its n ∧ its.size ≤ sizeLine ∧ Vals (ss.map V.str) its.toList
structure Gd (F : Tab) (KW : KwTab) (mods : List (Str × GV)) (RX : XRel) (P : Program) (w : World) (K : PySem.W.Frag) (mg : Str → Option Value) (base : Heap) (k : Nat) : Prop where
  fns : ∀ f fn, F.lookup f = some fn → FnFacts F KW RX P w K mg base k f
  blt : ∀ x ∈ bltNames, mg x = none
  mods : ∀ x g, (x, g) ∈ mods → ∃ v, mg x = some v ∧ GvAt K g v

/-! ### the check of a text, and where it stands -/
structure CC where
  N : List Str
  sc : Scope
  sto : List (Str × NameKind)
def visB (c : CC) (x : Str) : Bool := match c.sc.names.lookup x with
  | some .local | some .cell | some .free => true
  | _ => false
def glB (c : CC) (x : Str) : Bool := match c.sc.names.lookup x with
  | some .globalImplicit => true
  | _ => false
def stoB (c : CC) (x : Str) : Bool := match c.sto.lookup x with
  | some .local | some .cell => true
  | _ => false
def nameB (x : Str) : Bool := !(x == ("__debug__" : Str)) && !(x == ("__classdict__" : Str)) && !(x == ("__name__" : Str))
/-- a comprehension's scope, as it runs -/
def relS (s sc : Scope) : Scope :=
  { s with names := s.names.map fun (n, k) => if (k == NameKind.free && sc.kind == ScopeKind.function && sc.names.lookup n == some NameKind.cell) then (n, NameKind.cell) else (n, k) }
def CC.blk (c : CC) (s : Scope) : CC := ⟨c.N, relS s c.sc, s.names⟩
structure GX (F : Tab) (KW : KwTab) (mods : List (Str × GV)) (RX : XRel) (k : Nat) (c : CC) (X : Cx) : Prop where
  gd : Gd F KW mods RX X.prog X.w X.K X.mg X.base k
  N : X.N = c.N
  sc : X.env.scope = c.sc
  nd : X.N.Nodup
  calm : X.calm = true
  room : Room k X.A
  guards : X.A.guards = some []
  sto : ∀ x, stoB c x = true → Loc X.env.scope x ∧ (X.fn x = true ∨ X.env.scope.names.lookup x = some .local)
section
variable {F : Tab} {KW : KwTab} {mods : List (Str × GV)} {RX : XRel} {k : Nat} {c : CC} {X : Cx}
theorem GX.vis (G : GX F KW mods RX k c X) {x : Str} (h : visB c x = true) : Vis X.env.scope x := by
  unfold visB at h
  rw [← G.sc] at h
  unfold Vis
  split at h
  · rename_i e; exact .inl e
  · rename_i e; exact .inr (.inl e)
  · rename_i e; exact .inr (.inr e)
  · cases h
theorem GX.gl (G : GX F KW mods RX k c X) {x : Str} (h : glB c x = true) : Gl X x := by
  unfold glB at h
  rw [← G.sc] at h
  unfold Gl
  split at h
  · rename_i e; exact e
  · cases h
theorem GX.blk (G : GX F KW mods RX k c X) (s : Shared) (H : Hp) (scope : Scope) (cl : List (Str × Addr)) (C : Addr) (fp : List Addr) : GX F KW mods RX k (c.blk scope) (X.blk s H scope (compEnvC scope cl C X.env) fp) where
  gd := G.gd
  N := G.N
  sc := by
    show relabel scope X.env = relS scope c.sc
    rw [← G.sc]
    rfl
  nd := G.nd
  calm := G.calm
  room := G.room
  guards := G.guards
  sto := fun x h => by
    unfold stoB at h
    have h : (match scope.names.lookup x with | some .local | some .cell => true | _ => false) = true := h
    split at h
    · rename_i e
      have q := lookup_relS_keep (sc := X.env.scope) (k := .local) (by decide) e
      exact ⟨.inl q, .inr q⟩
    · rename_i e
      have q := lookup_relS_keep (sc := X.env.scope) (k := .cell) (by decide) e
      refine ⟨.inr q, .inl ?_⟩
      show (scope.names.lookup x == some .cell) = true
      rw [e] <;> rfl
    · cases h
end
end DI
end
section
/-! # enumerate(a tuple) -/
namespace DI
open PySem L2 PySem.Spec Builtin
open PyProof.Rows hiding St
/-- the record of an enumerate at 0 over the iterator at i -/
def enO (i : Addr) : Obj := { cls := .type "enumerate", data := .fields #[.none, .bool false, .ref i, rawInt 0, .none, .none] }
set_option maxHeartbeats 1000000 in
theorem meets_en1 {v : Value} {o : Obj} {H : Heap → Prop} (B : Begins v o H) :
    Meets (Builtin.«enumerate.__new__» ⟨[.type "enumerate", v], []⟩)
      (fun _ R s => H s.heap ∧ R (.ok (.ret (.ref (s.heap.push o).objs.size))) { s with heap := (s.heap.push o).push (enO s.heap.objs.size) }) :=
  .of_wp fun prog w A R s h => by
    obtain ⟨hp, g, d, tk, os⟩ := s
    obtain ⟨h1, h⟩ := h
    have hsub := sub_enumerate
    have q1 : ∀ {A' : Around} {E : Value → Shared → Prop} {Q : Value → Shared → Prop}, Q (.ref hp.objs.size) ⟨hp.push o, g, d, tk, os⟩ →
        wpAny (model prog w) A' (pyIter v) Q E ⟨hp, g, d, tk, os⟩ := fun q => B.iter prog w _ _ ⟨hp, g, d, tk, os⟩ _ h1 q
    wp_walk using q1
    refine wpAny_stack_any fun st => ?_
    refine wpAny_pure ?_
    split
    · rename_i c _ _ _ _ _
      cases (c == Value.type "enumerate") <;> (wp_walk using q1; exact ⟨_, rfl, h⟩)
    · wp_walk using q1
      exact ⟨_, rfl, h⟩
theorem call_enum1 {prog : Program} {w : World} {A : Around} {E : Value → Shared → Prop} {s : Shared} {v : Value} {o : Obj} {H : Heap → Prop} {Q : Value → Shared → Prop} (B : Begins v o H) (h1 : H s.heap)
    (h : ∀ h', IsEnum h' (s.heap.objs.size + 1) s.heap.objs.size 0 .none → h'.get? s.heap.objs.size = some o → h'.objs.size = s.heap.objs.size + 2 →
      (∀ b ob, s.heap.get? b = some ob → h'.get? b = some ob) → Q (.ref (s.heap.objs.size + 1)) { s with heap := h' }) :
    wpAny (model prog w) A (call (.type "enumerate") [v]) Q E s := by
  refine callType_new F.called_enumerate (by decide) (F.typeCall_enumerate_1 _) (F.newCall_enumerate_1 _) (fun obj => F.args_object_init_2 obj _) F.entry_enumerate_new (meets_en1 B) ⟨h1, ?_⟩
  have hz : (s.heap.push o).objs.size = s.heap.objs.size + 1 := Heap.size_push ..
  have he : IsEnum ((s.heap.push o).push (enO s.heap.objs.size)) (s.heap.objs.size + 1) s.heap.objs.size 0 .none := by
    have q := Heap.get?_push_size (s.heap.push o) (o := enO s.heap.objs.size) rfl
    rw [hz] at q
    exact q
  show _ ∧ _
  rw [hz]
  refine ⟨⟨_, he, rfl⟩, h _ he ?_ ?_ ?_⟩
  · exact Heap.get?_push_of_some _ (Heap.get?_push_size _ B.free)
  · rw [Heap.size_push, hz]
  · intro b ob x
    exact Heap.get?_push_of_some _ (Heap.get?_push_of_some _ x)
def IteT (K : PySem.W.Frag) (a : Addr) : It where
  go := fun i H => ∃ (xs : List V) (x : V), SqT K H a xs ∧ xs[i]? = some x
  yld := fun i H v H' => ∃ T x, v = .ref T ∧ H T = none ∧ H' = upd H T (.tup [.int (i : Nat), x]) ∧ ∀ xs, SqT K H a xs → xs[i]? = some x
  stop := fun i H => ∃ xs : List V, SqT K H a xs ∧ xs.length = i
theorem turn_enumT {P : Program} {w : World} {K : PySem.W.Frag} {elts : List Expr} {kk : Nat} {tpos : Pos} (a e it : Addr) :
    Turn P w K (.Tuple elts kk tpos) (IteT K a) [e, it] e (fun i h => (∃ old, IsEnum h e it ((i : Nat) : Int) old) ∧ h.IsTupleIter it a i ∧ e ≠ it) where
  mem := by simp
  obj := by
    intro i h st b hb
    obtain ⟨⟨old, he⟩, ⟨o, ho, hc, hd⟩, _⟩ := st
    have e' : b = e ∨ b = it := by simpa using hb
    rcases e' with rfl | rfl
    · exact ⟨_, he, fun v q => nomatch q⟩
    · exact ⟨o, ho, fun v q => by rw [hd] at q; cases q⟩
  keep := by
    intro i h h' st k
    obtain ⟨⟨old, he⟩, hi, hne⟩ := st
    exact ⟨⟨old, k e (by simp) _ he⟩, hi.at fun o q => k it (by simp) o q, hne⟩
  item := by
    intro X hP hw hK hc i pins s σ H E I hf st hg
    subst hP hw hK
    obtain ⟨⟨old, he⟩, hit, hne⟩ := st
    obtain ⟨xs, x, hq, hx⟩ := hg
    obtain ⟨its, rv, p, hz⟩ := I.tuple hq
    obtain ⟨u, hu, ru⟩ := rv.get hx
    have hel : e < s.heap.objs.size := Heap.lt_size he
    have hil : it < s.heap.objs.size := by
      obtain ⟨_, q, _⟩ := hit
      exact Heap.lt_size q
    have pt : s.heap.IsTuple a its.toArray := p
    have nai : a ≠ it := by
      intro z
      obtain ⟨o1, q1, c1, _⟩ := hit
      obtain ⟨o2, q2, c2, _⟩ := p
      rw [z, q1] at q2
      cases q2
      rw [c1] at c2
      exact absurd c2 (by decide)
    have nae : a ≠ e := by
      intro z
      obtain ⟨o2, q2, c2, _⟩ := p
      rw [z, he] at q2
      cases q2
      exact absurd (show Value.type "enumerate" = Value.type "tuple" from c2) (by decide)
    have D := Draws.tuple (prog := X.prog) (w := X.w) (A := X.A.in1) (I.ok.hd hc) it a nai its.toArray
    have hlt : i < its.toArray.size := by
      have := (List.getElem?_eq_some_iff.mp hu).1
      simpa using this
    refine wpAny_pyNext_enum_itemD D he ⟨hit, pt⟩ hlt hne (by simp [hne, Ne.symm nae]) fun y h' tk hP ho hst hT hsz hk => ?_
    have ey : y = u := by
      have q : its.toArray[i]? = some y := hP
      have q2 : its.toArray[i]? = some u := by simpa using hu
      rw [q2] at q
      exact (Option.some.inj q).symm
    subst ey
    refine ⟨_, rfl, wpAny_letOwnedTupleGo_enum (s := { s with heap := h', toks := tk + 1 }) ho fun h'' he' sb => ?_⟩
    have hT2 : h''.get? s.heap.objs.size = some { cls := .type "tuple", data := .seq #[.int i tk, y] } := (sb.2 _ (Nat.ne_of_gt hel)).trans hT
    have new : ObjOk X.prog X.w (upd H s.heap.objs.size (.tup [.int (i : Nat), x])) h'' s.heap.objs.size (.tup [.int (i : Nat), x]) := by
      refine ⟨by show 2 ≤ sizeLine; decide, [.int i tk, y], ?_, ⟨_, hT2, rfl, _, rfl⟩⟩
      exact .cons ⟨_, rfl⟩ (.cons ru .nil)
    have I1 : Inv X pins σ (upd H s.heap.objs.size (.tup [.int (i : Nat), x])) { s with heap := h'', toks := tk + 1 } := by
      refine I.turnedNew (ch := [e, it]) (fun b ob hb q => ?_) hf (Nat.le_refl _) new
      refine (sb.2 b (fun z => hb (by simp [z]))).trans ?_
      exact hk b ob (fun z => hb (by simp [z])) (fun z => hb (by simp [z])) q
    refine ⟨.ref s.heap.objs.size, _, I1, rfl, ⟨_, x, rfl, I.hok.fresh (Nat.le_refl _), rfl, ?_⟩, ⟨⟨y, ?_⟩, ?_, hne⟩, fun b hb => ?_⟩
    · intro ys hy
      rw [I.tuple_inj hy hq]
      exact hx
    · have e1 : ((i + 1 : Nat) : Int) = (i : Int) + 1 := by omega
      rw [e1]
      exact he'
    · exact hst.1.at fun o q => (sb.2 it (Ne.symm hne)).trans q
    · have hb' : b < s.heap.objs.size := by
        have e' : b = e ∨ b = it := by simpa using hb
        rcases e' with z | z
        · rw [z]
          exact hel
        · rw [z]
          exact hil
      rw [upd_ne (Nat.ne_of_lt hb')]
      exact (hf b hb).1
  done := by
    intro X hP hw hK hc i pins s σ H E I hf st hg
    subst hP hw hK
    obtain ⟨⟨old, he⟩, hit, hne⟩ := st
    obtain ⟨xs, hq, hx⟩ := hg
    obtain ⟨its, rv, p, hz⟩ := I.tuple hq
    have pt : s.heap.IsTuple a its.toArray := p
    have nai : a ≠ it := by
      intro z
      obtain ⟨o1, q1, c1, _⟩ := hit
      obtain ⟨o2, q2, c2, _⟩ := p
      rw [z, q1] at q2
      cases q2
      rw [c1] at c2
      exact absurd c2 (by decide)
    have D := Draws.tuple (prog := X.prog) (w := X.w) (A := X.A.in1) (I.ok.hd hc) it a nai its.toArray
    have hl : its.toArray.size = i := by
      have := rv.length
      simp
      omega
    obtain ⟨f0, f1, f2, f3, f4, f5⟩ := hf it (by simp)
    refine wpAny_pyNext_enum_endD D he ⟨by rw [hl]; exact hit, pt⟩ fun h' eb => ⟨rfl, ?_⟩
    exact I.turned (t' := s.toks) (fun b o hb q => eb b o hb q) f0 f1 f3 f4 f5
  self := by
    intro A i s Q E st h
    obtain ⟨⟨_, he⟩, _⟩ := st
    exact wpAny_pyIter_enum he h
end DI
end
section
namespace DI
open PySem L2 PySem.Spec
open PyProof.Rows hiding St
section
variable {K : PySem.W.Frag} {α α' : List Addr} {H H' : Hp} {b : Nat} {st : Store}
/-- the iterator of a plan -/
def PlJ (K : PySem.W.Frag) (α : List Addr) (H : Hp) : Pl → It → Prop
  | .lst n _, J => ∃ a, α[n]? = some a ∧ J = Itl K a
  | .tup xs, J => ∃ a vs, SqT K H a vs ∧ RDs K α H xs vs ∧ J = Itt K a
  | .rng lo n, J => J = Itr lo n
  | .enumL n _, J => ∃ a, α[n]? = some a ∧ J = Ite K a
  | .enumT xs, J => ∃ a vs, SqT K H a vs ∧ RDs K α H xs vs ∧ J = IteT K a
  | .zipL n m _ _, J => ∃ a c, α[n]? = some a ∧ α[m]? = some c ∧ J = Itz K a c
  | .zipT xs ys, J => ∃ a c vs us, SqT K H a vs ∧ RDs K α H xs vs ∧ SqT K H c us ∧ RDs K α H ys us ∧ J = RZ.ItzT K a c
theorem PlJ.ext {pl : Pl} {J : It} (e : Ext K α H α' H') (h : PlJ K α H pl J) : PlJ K α' H' pl J := by
  cases pl with
  | lst n l =>
    obtain ⟨a, h1, h2⟩ := h
    exact ⟨a, e.pre _ _ h1, h2⟩
  | tup xs =>
    obtain ⟨a, vs, h1, h2, h3⟩ := h
    exact ⟨a, vs, e.tup _ _ h1, h2.ext e, h3⟩
  | rng lo n => exact h
  | enumL n l =>
    obtain ⟨a, h1, h2⟩ := h
    exact ⟨a, e.pre _ _ h1, h2⟩
  | enumT xs =>
    obtain ⟨a, vs, h1, h2, h3⟩ := h
    exact ⟨a, vs, e.tup _ _ h1, h2.ext e, h3⟩
  | zipL n m l l2 =>
    obtain ⟨a, c, h1, h2, h3⟩ := h
    exact ⟨a, c, e.pre _ _ h1, e.pre _ _ h2, h3⟩
  | zipT xs ys =>
    obtain ⟨a, c, vs, us, h1, h2, h3, h4, h5⟩ := h
    exact ⟨a, c, vs, us, e.tup _ _ h1, h2.ext e, e.tup _ _ h3, h4.ext e, h5⟩
theorem lstAt_of {n l : Nat} {xs : List D} (h : lstAt st n l = some xs) : (∃ w, st[n]? = some (.lst w xs)) ∧ xs.length = l := by
  unfold lstAt at h
  split at h
  · rename_i w ys e
    split at h
    · rename_i q
      cases h
      exact ⟨⟨w, e⟩, q⟩
    · cases h
  · cases h
/-- what a turn gives -/
def Gives (K : PySem.W.Frag) (α : List Addr) (H : Hp) (st : Store) (b : Nat) (x : D) (v : V) (H' : Hp) : Prop := Ext K α H α H' ∧ Rel K α H' st b ∧ RD K α H' x v
theorem gives_pair (R : Rel K α H st b) {x y : D} {v u : V} {T : Addr} (hT : H T = none) (rx : RD K α H x v) (ry : RD K α H y u) : Gives K α H st b (.pr x y) (.ref T) (upd H T (.tup [v, u])) := by
  have e : Ext K α H α (upd H T (.tup [v, u])) := ext_new hT
  exact ⟨e, R.newT hT, .pr (.inl (.of upd_same)) (rx.ext e) (ry.ext e)⟩
theorem plJ_go (R : Rel K α H st b) {pl : Pl} {J : It} {i : Nat} {x : D} (h : PlJ K α H pl J) (hx : plItem st pl i = some x) : J.go i H ∧ ∀ v H', J.yld i H v H' → Gives K α H st b x v H' := by
  cases pl with
  | lst n l =>
    obtain ⟨a, h1, rfl⟩ := h
    have hx : (lstAt st n l).bind (fun xs => xs[i]?) = some x := hx
    cases e : lstAt st n l with
    | none =>
      rw [e] at hx
      cases hx
    | some xs =>
      rw [e] at hx
      obtain ⟨⟨w, e1⟩, _⟩ := lstAt_of e
      obtain ⟨vs, q1, q2⟩ := R.lst e1 h1
      obtain ⟨v, q3, q4⟩ := q2.get hx
      refine ⟨⟨vs, v, q1, q3⟩, fun v' H' hy => ?_⟩
      obtain ⟨rfl, hy⟩ := hy
      have := (hy vs q1).symm.trans q3
      cases this
      exact ⟨.refl _ _, R, q4⟩
  | tup xs =>
    obtain ⟨a, vs, q1, q2, rfl⟩ := h
    obtain ⟨v, q3, q4⟩ := q2.get hx
    refine ⟨⟨vs, v, q1, q3⟩, fun v' H' hy => ?_⟩
    obtain ⟨rfl, hy⟩ := hy
    have := (hy vs q1).symm.trans q3
    cases this
    exact ⟨.refl _ _, R, q4⟩
  | rng lo n =>
    have h : J = Itr lo n := h
    subst h
    have hx : (if i < n then some (D.int (lo + i)) else none) = some x := hx
    split at hx
    · rename_i hi
      cases hx
      refine ⟨hi, fun v' H' hy => ?_⟩
      obtain ⟨rfl, rfl⟩ := hy
      exact ⟨.refl _ _, R, .int _⟩
    · cases hx
  | enumL n l =>
    obtain ⟨a, h1, rfl⟩ := h
    have hx : (lstAt st n l).bind (fun xs => (xs[i]?).map fun x => D.pr (.int i) x) = some x := hx
    cases e : lstAt st n l with
    | none =>
      rw [e] at hx
      cases hx
    | some xs =>
      rw [e] at hx
      have hx : (xs[i]?).map (fun x => D.pr (.int i) x) = some x := hx
      obtain ⟨⟨w, e1⟩, _⟩ := lstAt_of e
      obtain ⟨vs, q1, q2⟩ := R.lst e1 h1
      cases e2 : xs[i]? with
      | none =>
        rw [e2] at hx
        cases hx
      | some y =>
        rw [e2] at hx
        cases hx
        obtain ⟨v, q3, q4⟩ := q2.get e2
        refine ⟨⟨vs, v, q1, q3⟩, fun v' H' hy => ?_⟩
        obtain ⟨T, x', rfl, hT, rfl, hy⟩ := hy
        have := (hy vs q1).symm.trans q3
        cases this
        exact gives_pair R hT (.int _) q4
  | enumT xs =>
    obtain ⟨a, vs, q1, q2, rfl⟩ := h
    have hx : (xs[i]?).map (fun x => D.pr (.int i) x) = some x := hx
    cases e2 : xs[i]? with
    | none =>
      rw [e2] at hx
      cases hx
    | some y =>
      rw [e2] at hx
      cases hx
      obtain ⟨v, q3, q4⟩ := q2.get e2
      refine ⟨⟨vs, v, q1, q3⟩, fun v' H' hy => ?_⟩
      obtain ⟨T, x', rfl, hT, rfl, hy⟩ := hy
      have := (hy vs q1).symm.trans q3
      cases this
      exact gives_pair R hT (.int _) q4
  | zipL n m l l2 =>
    obtain ⟨a, c, h1, h2, rfl⟩ := h
    have hx : (lstAt st n l).bind (fun xs => (lstAt st m l2).bind fun ys => (xs[i]?).bind fun x => (ys[i]?).map fun y => D.pr x y) = some x := hx
    cases e : lstAt st n l with
    | none =>
      rw [e] at hx
      cases hx
    | some xs =>
      cases e' : lstAt st m l2 with
      | none =>
        rw [e, e'] at hx
        cases hx
      | some ys =>
        rw [e, e'] at hx
        have hx : ((xs[i]?).bind fun x => (ys[i]?).map fun y => D.pr x y) = some x := hx
        obtain ⟨⟨w, e1⟩, _⟩ := lstAt_of e
        obtain ⟨⟨w', e1'⟩, _⟩ := lstAt_of e'
        obtain ⟨vs, q1, q2⟩ := R.lst e1 h1
        obtain ⟨us, q1', q2'⟩ := R.lst e1' h2
        cases e2 : xs[i]? with
        | none =>
          rw [e2] at hx
          cases hx
        | some y =>
          cases e3 : ys[i]? with
          | none =>
            rw [e2, e3] at hx
            cases hx
          | some z =>
            rw [e2, e3] at hx
            cases hx
            obtain ⟨v, q3, q4⟩ := q2.get e2
            obtain ⟨u, q3', q4'⟩ := q2'.get e3
            refine ⟨⟨vs, us, v, u, q1, q1', q3, q3'⟩, fun v' H' hy => ?_⟩
            obtain ⟨T, x', y', rfl, hT, rfl, hy1, hy2⟩ := hy
            have z1 := (hy1 vs q1).symm.trans q3
            have z2 := (hy2 us q1').symm.trans q3'
            cases z1
            cases z2
            exact gives_pair R hT q4 q4'
  | zipT xs ys =>
    obtain ⟨a, c, vs, us, q1, q2, q1', q2', rfl⟩ := h
    have hx : ((xs[i]?).bind fun x => (ys[i]?).map fun y => D.pr x y) = some x := hx
    cases e2 : xs[i]? with
    | none =>
      rw [e2] at hx
      cases hx
    | some y =>
      cases e3 : ys[i]? with
      | none =>
        rw [e2, e3] at hx
        cases hx
      | some z =>
        rw [e2, e3] at hx
        cases hx
        obtain ⟨v, q3, q4⟩ := q2.get e2
        obtain ⟨u, q3', q4'⟩ := q2'.get e3
        refine ⟨⟨vs, us, v, u, q1, q1', q3, q3'⟩, fun v' H' hy => ?_⟩
        obtain ⟨T, x', y', rfl, hT, rfl, hy1, hy2⟩ := hy
        have z1 := (hy1 vs q1).symm.trans q3
        have z2 := (hy2 us q1').symm.trans q3'
        cases z1
        cases z2
        exact gives_pair R hT q4 q4'
theorem plJ_stop (R : Rel K α H st b) {pl : Pl} {J : It} {i : Nat} (h : PlJ K α H pl J) (he : plEnd st pl = true) (hi : i = plLen pl) : J.stop i H := by
  subst hi
  cases pl with
  | lst n l =>
    obtain ⟨a, h1, rfl⟩ := h
    obtain ⟨xs, e⟩ := Option.isSome_iff_exists.mp he
    obtain ⟨⟨w, e1⟩, hl⟩ := lstAt_of e
    obtain ⟨vs, q1, q2⟩ := R.lst e1 h1
    exact ⟨vs, q1, by rw [← q2.length, hl]; exact Nat.le_refl _⟩
  | tup xs =>
    obtain ⟨a, vs, q1, q2, rfl⟩ := h
    exact ⟨vs, q1, by rw [← q2.length]; exact Nat.le_refl _⟩
  | rng lo n =>
    have h : J = Itr lo n := h
    subst h
    exact Nat.le_refl n
  | enumL n l =>
    obtain ⟨a, h1, rfl⟩ := h
    obtain ⟨xs, e⟩ := Option.isSome_iff_exists.mp he
    obtain ⟨⟨w, e1⟩, hl⟩ := lstAt_of e
    obtain ⟨vs, q1, q2⟩ := R.lst e1 h1
    exact ⟨vs, q1, by rw [← q2.length, hl]; exact Nat.le_refl _⟩
  | enumT xs =>
    obtain ⟨a, vs, q1, q2, rfl⟩ := h
    exact ⟨vs, q1, by rw [← q2.length]; rfl⟩
  | zipL n m l l2 =>
    obtain ⟨a, c, h1, h2, rfl⟩ := h
    obtain ⟨he1, he2⟩ := Bool.and_eq_true_iff.mp he
    obtain ⟨xs, e⟩ := Option.isSome_iff_exists.mp he1
    obtain ⟨ys, e'⟩ := Option.isSome_iff_exists.mp he2
    obtain ⟨⟨w, e1⟩, hl⟩ := lstAt_of e
    obtain ⟨⟨w', e1'⟩, hl'⟩ := lstAt_of e'
    obtain ⟨vs, q1, q2⟩ := R.lst e1 h1
    obtain ⟨us, q1', q2'⟩ := R.lst e1' h2
    refine ⟨vs, us, q1, q1', ?_⟩
    rw [← q2.length, ← q2'.length, hl, hl']
    show l ≤ min l l2 ∨ l2 ≤ min l l2
    omega
  | zipT xs ys =>
    obtain ⟨a, c, vs, us, q1, q2, q1', q2', rfl⟩ := h
    refine ⟨vs, us, q1, q1', ?_⟩
    rw [← q2.length, ← q2'.length]
    show xs.length ≤ min xs.length ys.length ∨ ys.length ≤ min xs.length ys.length
    omega
/-- the reading of what is walked -/
def ti (K : PySem.W.Frag) (RX : XRel) (W : WX) (C : Cfg) (it : IIt) : TI := fun σ H R => ∃ α st b env, Rel K α H st b ∧ REnv K α H env σ ∧
  Tri (evIt C it env st) b (fun b' p => ∀ α' H' J, Ext K α H α' H' → Rel K α' H' p.2 b' → PlJ K α' H' p.1 J → R J H') (PostX K RX W σ α H)
end
end DI
end
section
namespace DI
open PySem L2 PySem.Spec
open PyProof.Rows hiding St
/-! ### plain expressions -/
def plainE : Expr → Bool
  | .Starred .. | .Set .. | .Slice .. | .NamedExpr .. | .Await .. | .Yield .. | .YieldFrom .. | .Lambda .. => false
  | _ => true
/-- no special road as a test -/
def plainT : Expr → Bool
  | .UnaryOp .. | .BoolOp .. | .IfExp .. | .Compare .. => false
  | _ => true
/-- not a comprehension -/
def noComp : Expr → Bool
  | .ListComp .. | .SetComp .. | .DictComp .. => false
  | _ => true
def baseB : Expr → Bool
  | .Name .. | .Subscript .. | .Constant .. | .Attribute .. => true
  | _ => false
theorem star_plain {e : Expr} {es : List Expr} {env : Env} (h : plainE e = true) : starEach (e :: es) env = (false, eval e env) :: starEach es env := by
  cases e <;> first | rfl | cases h
theorem truth_plain {e : Expr} {env : Env} (h : plainT e = true) : ∀ whole, isTrue e env whole = (do let v ← whole; standAt e.pos; holding [v] (truthy v)) := by
  intro whole
  cases e <;> first | rfl | cases h
theorem folded_plain {e : Expr} {env : Env} (h : plainE e = true) : ∀ x, foldedSetIterable e env x = pure x := by
  intro x
  cases e <;> first | rfl | cases h
theorem ix_plain {e : Expr} (h : plainE e = true) : PlainIx e := by
  intro o i
  cases e <;> first | rfl | cases h
theorem base_plain {e : Expr} {name : Str} {env : Env} (h : baseB e = true) : attributeBase e name env (eval e env) = eval e env := by
  cases e <;> first | rfl | cases h
theorem swap_none {e : Expr} {l : Nat} {env : Env} (h : noComp e = true) : swapsWith e none l env = pure false := by
  cases e <;> first | rfl | cases h
theorem swap_some {e : Expr} {t : Expr} {l : Nat} {env : Env} (h : noComp e = true) : swapsWith e (some t) l env = pure false := by
  cases e <;> first | rfl | cases h
def plainEs (es : List Expr) : Bool := es.all plainE
theorem star_all {es : List Expr} {env : Env} (h : plainEs es = true) : starEach es env = es.map fun e => (false, eval e env) := by
  induction es with
  | nil => rfl
  | cons e es ih =>
    obtain ⟨h1, h2⟩ := Bool.and_eq_true_iff.mp (show (plainE e && es.all plainE) = true from h)
    rw [star_plain h1, ih h2]
    rfl
theorem back_any {es : List Expr} {env : Env} {pos : Pos} (h : plainEs es = true) : (backTo pos (starEach es env)).any (·.1) = false := by
  rw [star_all h]
  unfold backTo
  rw [List.map_map, List.any_map]
  rw [List.any_eq_false]
  intro x hx
  simp
theorem back_all {es : List Expr} {env : Env} {pos : Pos} (h : plainEs es = true) : (backTo pos (starEach es env)).all (fun x => !x.1) = true := by
  rw [star_all h]
  unfold backTo
  rw [List.map_map, List.all_map, List.all_eq_true]
  intro x hx
  simp

/-! ### readings imply readings -/
section
variable {X : Cx} {RX : XRel} {W : WX} {C : Cfg} {K : PySem.W.Frag} {α α' : List Addr} {H H' : Hp} {b : Nat} {st : Store} {env : Evr} {σ : L2.St}
theorem PE.imp {e : Expr} {t t' : TE} (h : PE X e t) (i : ∀ σ H Q, t' σ H Q → t σ H Q) : PE X e t' := ⟨fun pins s σ H Q I q => h.run pins s σ H Q I (i σ H Q q)⟩
theorem PT.imp {e : Expr} {t t' : TT} (h : PT X e t) (i : ∀ σ H Q, t' σ H Q → t σ H Q) : PT X e t' := ⟨fun pins s σ H Q I q => h.run pins s σ H Q I (i σ H Q q)⟩
theorem PA.imp {e : List Expr} {t t' : TA} (h : PA X e t) (i : ∀ σ H Q, t' σ H Q → t σ H Q) : PA X e t' := ⟨fun pos pins s σ H Q I q => h.run pos pins s σ H Q I (i σ H Q q)⟩
theorem PO.imp {e : Option Expr} {t t' : TO} (h : PO X e t) (i : ∀ σ H Q, t' σ H Q → t σ H Q) : PO X e t' := ⟨fun pins s σ H Q I q => h.run pins s σ H Q I (i σ H Q q)⟩
abbrev XPo (K : PySem.W.Frag) (RX : XRel) (W : WX) (σ : L2.St) (α : List Addr) (H : Hp) := PostX K RX W σ α H
theorem triV {t : T (D × Store)} {Q : VK} (e : Ext K α H α' H') (h : Tri t b (PostV K α H Q) (PostX K RX W σ α H)) : Tri t b (PostV K α' H' Q) (PostX K RX W σ α' H') :=
  tri_mono h (fun _ _ _ q => q.ext e) fun _ _ _ _ q => q.ext e
theorem triA {t : T (List D × Store)} {Q : List V → Hp → Prop} (e : Ext K α H α' H') (h : Tri t b (PostA K α H Q) (PostX K RX W σ α H)) : Tri t b (PostA K α' H' Q) (PostX K RX W σ α' H') :=
  tri_mono h (fun _ _ _ q => q.ext e) fun _ _ _ _ q => q.ext e
theorem triC {β : Type} {t : T (β × Store)} {Q : β → Hp → Prop} (e : Ext K α H α' H') (h : Tri t b (PostC K α H Q) (PostX K RX W σ α H)) : Tri t b (PostC K α' H' Q) (PostX K RX W σ α' H') :=
  tri_mono h (fun _ _ _ q => q.ext e) fun _ _ _ _ q => q.ext e
/-- first an expression, then what is done with its value -/
theorem te_then {ia : IE} {β : Type} {m : D → M β} {P : Nat → (β × Store) → Prop} {R : VK} (Re : Rel K α H st b) (E : REnv K α H env σ) (h : Tri ((mbind (ev C ia env) m) st) b P (PostX K RX W σ α H))
    (k : ∀ α1 H1 v st1 b1 d, Ext K α H α1 H1 → Rel K α1 H1 st1 b1 → REnv K α1 H1 env σ → RD K α1 H1 d v → Tri (m d st1) b1 P (PostX K RX W σ α1 H1) → R v H1) : te K RX W C ia σ H R :=
  ⟨α, st, b, env, Re, E, tri_mono (tri_bind.mp h) (fun b1 p _ h1 α1 H1 v e1 R1 rd => k α1 H1 v p.2 b1 p.1 e1 R1 (E.ext e1) rd (tri_mono h1 (fun _ _ _ q => q) fun _ _ _ _ q => q.ext e1)) fun _ _ _ _ q => q⟩
theorem ta_then {is : IEs} {β : Type} {m : List D → M β} {P : Nat → (β × Store) → Prop} {R : List V → Hp → Prop} (Re : Rel K α H st b) (E : REnv K α H env σ) (h : Tri ((mbind (evs C is env) m) st) b P (PostX K RX W σ α H))
    (k : ∀ α1 H1 vs st1 b1 ds, Ext K α H α1 H1 → Rel K α1 H1 st1 b1 → REnv K α1 H1 env σ → RDs K α1 H1 ds vs → Tri (m ds st1) b1 P (PostX K RX W σ α1 H1) → R vs H1) : ta K RX W C is σ H R :=
  ⟨α, st, b, env, Re, E, tri_mono (tri_bind.mp h) (fun b1 p _ h1 α1 H1 v e1 R1 rd => k α1 H1 v p.2 b1 p.1 e1 R1 (E.ext e1) rd (tri_mono h1 (fun _ _ _ q => q) fun _ _ _ _ q => q.ext e1)) fun _ _ _ _ q => q⟩
theorem to_then {o : IO} {β : Type} {m : Option Int → M β} {P : Nat → (β × Store) → Prop} {R : Option Int → Hp → Prop} (Re : Rel K α H st b) (E : REnv K α H env σ) (h : Tri ((mbind (evO C o env) m) st) b P (PostX K RX W σ α H))
    (k : ∀ α1 H1 st1 b1 i, Ext K α H α1 H1 → Rel K α1 H1 st1 b1 → REnv K α1 H1 env σ → Tri (m i st1) b1 P (PostX K RX W σ α1 H1) → R i H1) : to K RX W C o σ H R :=
  ⟨α, st, b, env, Re, E, tri_mono (tri_bind.mp h) (fun b1 p _ h1 α1 H1 e1 R1 => k α1 H1 p.2 b1 p.1 e1 R1 (E.ext e1) (tri_mono h1 (fun _ _ _ q => q) fun _ _ _ _ q => q.ext e1)) fun _ _ _ _ q => q⟩
theorem tt_then {ia : IE} {β : Type} {m : Bool → M β} {P : Nat → (β × Store) → Prop} {R : Bool → Hp → Prop} (Re : Rel K α H st b) (E : REnv K α H env σ) (h : Tri ((mbind (mbind (ev C ia env) truthD) m) st) b P (PostX K RX W σ α H))
    (k : ∀ α1 H1 st1 b1 i, Ext K α H α1 H1 → Rel K α1 H1 st1 b1 → REnv K α1 H1 env σ → Tri (m i st1) b1 P (PostX K RX W σ α1 H1) → R i H1) : tt K RX W C ia σ H R :=
  ⟨α, st, b, env, Re, E, tri_mono (tri_bind.mp h) (fun b1 p _ h1 α1 H1 e1 R1 => k α1 H1 p.2 b1 p.1 e1 R1 (E.ext e1) (tri_mono h1 (fun _ _ _ q => q) fun _ _ _ _ q => q.ext e1)) fun _ _ _ _ q => q⟩
theorem ti_then {it : IIt} {β : Type} {m : Pl → M β} {P : Nat → (β × Store) → Prop} {R : It → Hp → Prop} (Re : Rel K α H st b) (E : REnv K α H env σ) (h : Tri ((mbind (evIt C it env) m) st) b P (PostX K RX W σ α H))
    (k : ∀ α1 H1 st1 b1 pl J, Ext K α H α1 H1 → Rel K α1 H1 st1 b1 → REnv K α1 H1 env σ → PlJ K α1 H1 pl J → Tri (m pl st1) b1 P (PostX K RX W σ α1 H1) → R J H1) : ti K RX W C it σ H R :=
  ⟨α, st, b, env, Re, E, tri_mono (tri_bind.mp h) (fun b1 p _ h1 α1 H1 J e1 R1 pj => k α1 H1 p.2 b1 p.1 J e1 R1 (E.ext e1) pj (tri_mono h1 (fun _ _ _ q => q) fun _ _ _ _ q => q.ext e1)) fun _ _ _ _ q => q⟩
theorem mbind_assoc {β γ δ : Type} (m : M β) (f : β → M γ) (g : γ → M δ) : mbind (mbind m f) g = mbind m fun x => mbind (f x) g := by
  have key : ∀ (t : T (β × Store)), (t.bind fun p => f p.1 p.2).bind (fun p => g p.1 p.2) = t.bind fun p => (f p.1 p.2).bind fun p => g p.1 p.2 := by
    intro t
    induction t with
    | ret a => rfl
    | draw n k ih =>
      show T.draw n _ = T.draw n _
      congr 1
      funext v
      exact ih v
    | exc x st => rfl
    | stuck => rfl
  funext st
  exact key (m st)

/-! ### one construct, one theorem -/
variable {e e1 e2 e3 : Expr} {ia ib ic : IE} {pos : Pos}
theorem pe_varI {i : Nat} {x : Str} (hN : X.N[i]? = some x) (hv : Vis X.env.scope x) (hd : (x == ("__debug__" : Str)) = false) (hcd : (x == ("__classdict__" : Str)) = false) : PE X (.Name x pos) (te X.K RX W C (.var i)) := by
  refine PE.imp (pe_var hN hv hd hcd) fun σ H Q h => ?_
  obtain ⟨α, st, b, env, R, E, h⟩ := h
  obtain ⟨d, h1, h2⟩ := tri_mopt h
  cases e : env[i]? with
  | none =>
    rw [e] at h1
    cases h1
  | some o =>
    rw [e] at h1
    have h1 : o = some d := h1
    subst h1
    obtain ⟨v, q1, q2⟩ := E.at_ i d e
    exact ⟨v, q1, PostV.here R q2 h2⟩
theorem pe_intI {i : Int} {j : Nat} : PE X (.Constant (.int i) j pos) (te X.K RX W C (.cint i)) := PE.imp pe_int fun σ H Q ⟨α, st, b, env, R, E, h⟩ => PostV.here R (.int i) h
theorem pe_strI {x : Str} {j : Nat} : PE X (.Constant (.str x) j pos) (te X.K RX W C (.cstr x)) := PE.imp pe_str fun σ H Q ⟨α, st, b, env, R, E, h⟩ => PostV.here R (.str x) h
theorem pe_blI {x : Bool} {j : Nat} : PE X (.Constant (.bool x) j pos) (te X.K RX W C (.cbl x)) := PE.imp pe_bl fun σ H Q ⟨α, st, b, env, R, E, h⟩ => PostV.here R (.bl x) h
theorem pe_nonI {j : Nat} : PE X (.Constant .none j pos) (te X.K RX W C .cnon) := PE.imp pe_non fun σ H Q ⟨α, st, b, env, R, E, h⟩ => PostV.here R .non h
theorem pe_binI {op : Operator} (ho : op = .Add ∨ op = .Sub ∨ op = .Mult ∨ op = .FloorDiv ∨ op = .Mod ∨ op = .Pow) (ha : PE X e1 (te X.K RX W C ia)) (hb : PE X e2 (te X.K RX W C ib)) :
    PE X (.BinOp e1 op e2 pos) (te X.K RX W C (.bin op ia ib)) := by
  refine PE.imp (pe_op (op_bin ho) ha hb) fun σ H Q h => ?_
  obtain ⟨α, st, b, env, R, E, h⟩ := h
  refine te_then R E h fun α1 H1 v st1 b1 d x1 R1 E1 r1 h1 => ?_
  refine te_then R1 E1 h1 fun α2 H2 u st2 b2 e x2 R2 E2 r2 h2 => ?_
  exact ⟨α2, st2, b2, d, e, R2, r1.ext x2, r2, _, tri_mono h2 (fun _ _ _ q => q.ext (x1.trans x2)) fun _ _ _ _ q => q⟩
theorem pe_negI (ha : PE X e1 (te X.K RX W C ia)) : PE X (.UnaryOp .USub e1 pos) (te X.K RX W C (.neg ia)) := by
  refine PE.imp (pe_un un_neg ha) fun σ H Q h => ?_
  obtain ⟨α, st, b, env, R, E, h⟩ := h
  refine te_then R E h fun α1 H1 v st1 b1 d x1 R1 E1 r1 h1 => ?_
  cases r1 with
  | int i => exact ⟨i, rfl, PostV.here R1 (.int _) (PostV.ext x1 h1)⟩
  | _ => exact h1.elim
theorem pe_cmpI {op : CmpOp} (hu : X.A.units + 65 < cLine) (ha : PE X e1 (te X.K RX W C ia)) (hb : PE X e2 (te X.K RX W C ib)) (hm : behindInMarks op e2 = false) : PE X (.Compare e1 [op] [e2] pos) (te X.K RX W C (.cmp op ia ib)) := by
  refine PE.imp (pe_cmpR (op_cmp hu) ha hb hm) fun σ H Q h => ?_
  obtain ⟨α, st, b, env, R, E, h⟩ := h
  refine te_then R E h fun α1 H1 v st1 b1 d x1 R1 E1 r1 h1 => ?_
  refine te_then R1 E1 h1 fun α2 H2 u st2 b2 e x2 R2 E2 r2 h2 => ?_
  exact ⟨α2, st2, b2, d, e, R2, r1.ext x2, r2, _, tri_mono h2 (fun _ _ _ q => q.ext (x1.trans x2)) fun _ _ _ _ q => q⟩
theorem pt_cmpI {op : CmpOp} (hu : X.A.units + 65 < cLine) (ha : PE X e1 (te X.K RX W C ia)) (hb : PE X e2 (te X.K RX W C ib)) (hm : behindInMarks op e2 = false) : PT X (.Compare e1 [op] [e2] pos) (tt X.K RX W C (.cmp op ia ib)) := by
  refine PT.imp (pt_cmpR (op_cmp hu) ha hb hm) fun σ H Q h => ?_
  obtain ⟨α, st, b, env, R, E, h⟩ := h
  unfold ev at h
  rw [mbind_assoc] at h
  refine te_then R E h fun α1 H1 v st1 b1 d x1 R1 E1 r1 h1 => ?_
  rw [mbind_assoc] at h1
  refine te_then R1 E1 h1 fun α2 H2 u st2 b2 e x2 R2 E2 r2 h2 => ?_
  refine ⟨α2, st2, b2, d, e, R2, r1.ext x2, r2, _, tri_mB.mpr (tri_mono (tri_mB.mp (tri_bind.mp h2)) (fun b3 p _ h3 α3 H3 v3 x3 R3 r3 => ?_) fun _ _ _ _ q => q)⟩
  cases r3
  exact ⟨_, rfl, (PostC.ext ((x1.trans x2).trans x3) h3) α3 H3 (.refl _ _) R3⟩
theorem pe_chainI {o1 o2 : CmpOp} (hu : X.A.units + 65 < cLine) (ha : PE X e1 (te X.K RX W C ia)) (hb : PE X e2 (te X.K RX W C ib)) (hc : PE X e3 (te X.K RX W C ic)) (hm : lastMarks [o1, o2] [e2, e3] = false) :
    PE X (.Compare e1 [o1, o2] [e2, e3] pos) (te X.K RX W C (.chain o1 o2 ia ib ic)) := by
  refine PE.imp (pe_chain (op_cmp hu) (op_cmp hu) ha hb hc hm) fun σ H Q h => ?_
  obtain ⟨α, st, b, env, R, E, h⟩ := h
  refine te_then R E h fun α1 H1 v st1 b1 d x1 R1 E1 r1 h1 => ?_
  refine te_then R1 E1 h1 fun α2 H2 u st2 b2 e x2 R2 E2 r2 h2 => ?_
  refine ⟨α2, st2, b2, d, e, R2, r1.ext x2, r2, _, tri_mB.mpr (tri_mono (tri_bind.mp h2) (fun b3 p _ h3 α3 H3 v3 x3 R3 r3 => ?_) fun _ _ _ _ q => q)⟩
  obtain ⟨k, st3⟩ := p
  cases r3
  refine ⟨k, rfl, ?_⟩
  cases k with
  | false => exact iteF (PostV.here R3 (.bl _) (PostV.ext ((x1.trans x2).trans x3) h3))
  | true =>
    refine iteT (te_then R3 (E2.ext x3) (tri_mono h3 (fun _ _ _ q => q) fun _ _ _ _ q => q.ext x3) fun α4 H4 w st4 b4 f x4 R4 E4 r4 h4 => ?_)
    exact ⟨α4, st4, b4, e, f, R4, (r2.ext x3).ext x4, r4, _, tri_mono h4 (fun _ _ _ q => q.ext (((x1.trans x2).trans x3).trans x4)) fun _ _ _ _ q => q⟩
/-- an expression that is a bool, as a test -/
theorem pt_of_bool {e : Expr} (h : PE X e (te X.K RX W C ia)) (hb : ∀ env st b (P : Nat → (D × Store) → Prop) XP, Tri (ev C ia env st) b P XP → Tri (ev C ia env st) b (fun b' p => P b' p ∧ ∃ k, p.1 = .bl k) XP)
    (he : ∀ (t : TE), PE X e t → PT X e (tB t)) : PT X e (tt X.K RX W C ia) := by
  refine PT.imp (he _ h) fun σ H Q h => ?_
  obtain ⟨α, st, b, env, R, E, h⟩ := h
  have h2 := hb env st b _ _ (tri_bind.mp h)
  refine ⟨α, st, b, env, R, E, tri_mono h2 (fun b1 p _ q α1 H1 v x1 R1 r1 => ?_) fun _ _ _ _ q => q⟩
  obtain ⟨d, st1⟩ := p
  obtain ⟨q, k, e⟩ := q
  have e : d = .bl k := e
  subst e
  cases r1
  exact ⟨k, rfl, (PostC.ext x1 q) α1 H1 (.refl _ _) R1⟩
theorem pt_truthI {e : Expr} (hp : plainT e = true) (ha : PE X e (te X.K RX W C ia)) : PT X e (tt X.K RX W C ia) := by
  refine PT.imp (pt_truth ha (truth_plain hp)) fun σ H Q h => ?_
  obtain ⟨α, st, b, env, R, E, h⟩ := h
  refine te_then R E h fun α1 H1 v st1 b1 d x1 R1 E1 r1 h1 => ?_
  exact truth_ok R1 r1 (tri_mono h1 (fun _ _ _ q => q.ext x1) fun _ _ _ _ q => q)
theorem asB_of {d : D} {P : Nat → (Bool × Store) → Prop} {XP : Nat → Ex → Store → Prop} (h : Tri (asB d st) b P XP) : ∃ k, d = .bl k ∧ P b (k, st) := by
  cases d with
  | bl k => exact ⟨k, rfl, h⟩
  | _ => exact h.elim
theorem pe_andI {r : List Expr} (ha : PE X e1 (te X.K RX W C ia)) (hb : PE X (.BoolOp .And (e2 :: r) pos) (te X.K RX W C ib)) : PE X (.BoolOp .And (e1 :: e2 :: r) pos) (te X.K RX W C (.and ia ib)) := by
  refine PE.imp (pe_and ha hb) fun σ H Q h => ?_
  obtain ⟨α, st, b, env, R, E, h⟩ := h
  refine te_then R E h fun α1 H1 v st1 b1 d x1 R1 E1 r1 h1 => ?_
  obtain ⟨k, rfl, h1⟩ := asB_of (tri_bind.mp h1)
  cases r1
  refine ⟨k, rfl, ?_⟩
  cases k with
  | true => exact iteT ⟨α1, st1, b1, env, R1, E1, tri_mono h1 (fun _ _ _ q => q.ext x1) fun _ _ _ _ q => q⟩
  | false => exact iteF (PostV.here R1 (.bl _) (PostV.ext x1 h1))
theorem pe_orI {r : List Expr} (ha : PE X e1 (te X.K RX W C ia)) (hb : PE X (.BoolOp .Or (e2 :: r) pos) (te X.K RX W C ib)) : PE X (.BoolOp .Or (e1 :: e2 :: r) pos) (te X.K RX W C (.or ia ib)) := by
  refine PE.imp (pe_or ha hb) fun σ H Q h => ?_
  obtain ⟨α, st, b, env, R, E, h⟩ := h
  refine te_then R E h fun α1 H1 v st1 b1 d x1 R1 E1 r1 h1 => ?_
  obtain ⟨k, rfl, h1⟩ := asB_of (tri_bind.mp h1)
  cases r1
  refine ⟨k, rfl, ?_⟩
  cases k with
  | true => exact iteT (PostV.here R1 (.bl _) (PostV.ext x1 h1))
  | false => exact iteF ⟨α1, st1, b1, env, R1, E1, tri_mono h1 (fun _ _ _ q => q.ext x1) fun _ _ _ _ q => q⟩
theorem pe_notI (ha : PE X e1 (te X.K RX W C ia)) : PE X (.UnaryOp .Not e1 pos) (te X.K RX W C (.not ia)) := by
  refine PE.imp (pe_notT ha) fun σ H Q h => ?_
  obtain ⟨α, st, b, env, R, E, h⟩ := h
  refine te_then R E h fun α1 H1 v st1 b1 d x1 R1 E1 r1 h1 => ?_
  obtain ⟨k, q1, q2⟩ := truth_ok R1 r1 (Q := fun k H2 => H2 = H1 → Q (.bl (!k)) H1) (tri_mono (tri_bind.mp h1) (fun b2 p _ q α2 H2 x2 R2 e => by
    subst e
    exact PostV.here R2 (.bl _) (PostV.ext (x1.trans x2) q)) fun _ _ _ _ q => q)
  exact ⟨k, q1, q2 rfl⟩
/-- tests of and, or, not -/
theorem tt_asB {ia : IE} {env : Evr} : True := trivial
theorem pt_notI (ha : PT X e1 (tt X.K RX W C ia)) : PT X (.UnaryOp .Not e1 pos) (tt X.K RX W C (.not ia)) := by
  refine PT.imp (pt_not ha) fun σ H Q h => ?_
  obtain ⟨α, st, b, env, R, E, h⟩ := h
  unfold ev at h
  rw [mbind_assoc] at h
  refine ⟨α, st, b, env, R, E, ?_⟩
  refine tri_bind.mpr (tri_mono (tri_bind.mp h) (fun b1 p _ h1 => ?_) fun _ _ _ _ q => q)
  exact tri_mono (tri_bind.mp (tri_bind.mp h1)) (fun b2 p2 _ h2 => h2) fun _ _ _ _ q => q
/-- the value of an and, an or, as a test: its first part is a bool -/
theorem pw_andI {r : List Expr} (ha : PT X e1 (tt X.K RX W C ia)) (hb : PW X (.BoolOp .And (e2 :: r) pos) (tt X.K RX W C ib)) : PW X (.BoolOp .And (e1 :: e2 :: r) pos) (tt X.K RX W C (.and ia ib)) := by
  refine ⟨fun wh pins s σ H Q I h => (pw_and ha hb).run wh pins s σ H Q I ?_⟩
  obtain ⟨α, st, b, env, R, E, h⟩ := h
  unfold ev at h
  rw [mbind_assoc] at h
  refine ⟨α, st, b, env, R, E, tri_bind.mpr (tri_mono (tri_bind.mp h) (fun b1 p _ h1 => ?_) fun _ _ _ _ q => q)⟩
  obtain ⟨d, st1⟩ := p
  have h1 := tri_bind.mp h1
  obtain ⟨k, rfl, h2⟩ := asB_of (tri_bind.mp h1)
  show Tri (T.ret (k, st1)) b1 _ _
  intro α1 H1 x1 R1
  cases k with
  | true => exact iteT ⟨α1, st1, b1, env, R1, E.ext x1, tri_bind.mpr (tri_mono h2 (fun _ _ _ q => tri_mono q (fun _ _ _ q => q.ext x1) fun _ _ _ _ q => q.ext x1) fun _ _ _ _ q => q.ext x1)⟩
  | false => exact iteF (h2 α1 H1 x1 R1)
theorem pw_orI {r : List Expr} (ha : PT X e1 (tt X.K RX W C ia)) (hb : PW X (.BoolOp .Or (e2 :: r) pos) (tt X.K RX W C ib)) : PW X (.BoolOp .Or (e1 :: e2 :: r) pos) (tt X.K RX W C (.or ia ib)) := by
  refine ⟨fun wh pins s σ H Q I h => (pw_or ha hb).run wh pins s σ H Q I ?_⟩
  obtain ⟨α, st, b, env, R, E, h⟩ := h
  unfold ev at h
  rw [mbind_assoc] at h
  refine ⟨α, st, b, env, R, E, tri_bind.mpr (tri_mono (tri_bind.mp h) (fun b1 p _ h1 => ?_) fun _ _ _ _ q => q)⟩
  obtain ⟨d, st1⟩ := p
  have h1 := tri_bind.mp h1
  obtain ⟨k, rfl, h2⟩ := asB_of (tri_bind.mp h1)
  show Tri (T.ret (k, st1)) b1 _ _
  intro α1 H1 x1 R1
  cases k with
  | true => exact iteT (h2 α1 H1 x1 R1)
  | false => exact iteF ⟨α1, st1, b1, env, R1, E.ext x1, tri_bind.mpr (tri_mono h2 (fun _ _ _ q => tri_mono q (fun _ _ _ q => q.ext x1) fun _ _ _ _ q => q.ext x1) fun _ _ _ _ q => q.ext x1)⟩
theorem pw1 {op : BoolOp} (ha : PT X e1 (tt X.K RX W C ia)) : PW X (.BoolOp op [e1] pos) (tt X.K RX W C ia) := by
  cases op with
  | And => exact pw_and1 ha
  | Or => exact pw_or1 ha
theorem pt_chainI {o1 o2 : CmpOp} (hu : X.A.units + 65 < cLine) (ha : PE X e1 (te X.K RX W C ia)) (hb : PE X e2 (te X.K RX W C ib)) (hc : PE X e3 (te X.K RX W C ic)) (hm : lastMarks [o1, o2] [e2, e3] = false) :
    PT X (.Compare e1 [o1, o2] [e2, e3] pos) (tt X.K RX W C (.chain o1 o2 ia ib ic)) := by
  refine PT.imp (pt_chain (op_cmp hu) (op_cmp hu) ha hb hc hm) fun σ H Q h => ?_
  obtain ⟨α, st, b, env, R, E, h⟩ := h
  unfold ev at h
  rw [mbind_assoc] at h
  refine te_then R E h fun α1 H1 v st1 b1 d x1 R1 E1 r1 h1 => ?_
  rw [mbind_assoc] at h1
  refine te_then R1 E1 h1 fun α2 H2 u st2 b2 e x2 R2 E2 r2 h2 => ?_
  rw [mbind_assoc] at h2
  refine ⟨α2, st2, b2, d, e, R2, r1.ext x2, r2, _, tri_mB.mpr (tri_mono (tri_bind.mp h2) (fun b3 p _ h3 α3 H3 v3 x3 R3 r3 => ?_) fun _ _ _ _ q => q)⟩
  obtain ⟨k, st3⟩ := p
  cases r3
  refine ⟨k, rfl, ?_⟩
  cases k with
  | false => exact iteF ⟨_, rfl, (PostC.ext ((x1.trans x2).trans x3) h3) α3 H3 (.refl _ _) R3⟩
  | true =>
    have h3 : Tri ((mbind (mbind (ev C ic env) fun z => mbind (cmpD o2 e z) fun k => mret (.bl k)) truthD) st3) b3 _ _ := h3
    rw [mbind_assoc] at h3
    refine iteT (te_then R3 (E2.ext x3) (tri_mono h3 (fun _ _ _ q => q) fun _ _ _ _ q => q.ext x3) fun α4 H4 w st4 b4 f x4 R4 E4 r4 h4 => ?_)
    refine ⟨α4, st4, b4, e, f, R4, (r2.ext x3).ext x4, r4, _, tri_mB.mpr (tri_mono (tri_mB.mp (tri_bind.mp h4)) (fun b5 p _ h5 α5 H5 v5 x5 R5 r5 => ?_) fun _ _ _ _ q => q)⟩
    cases r5
    exact ⟨_, rfl, (PostC.ext ((((x1.trans x2).trans x3).trans x4).trans x5) h5) α5 H5 (.refl _ _) R5⟩
theorem pe_iteI (hc : PT X e1 (tt X.K RX W C ia)) (ha : PE X e2 (te X.K RX W C ib)) (hb : PE X e3 (te X.K RX W C ic)) : PE X (.IfExp e1 e2 e3 pos) (te X.K RX W C (.ite ia ib ic)) := by
  refine PE.imp (pe_ifExp hc ha hb) fun σ H Q h => ?_
  obtain ⟨α, st, b, env, R, E, h⟩ := h
  have h : Tri ((mbind (ev C ia env) fun x => mbind (truthD x) fun k => match k with | true => ev C ib env | false => ev C ic env) st) b _ _ := h
  rw [← mbind_assoc] at h
  refine tt_then R E h fun α1 H1 st1 b1 k x1 R1 E1 h1 => ?_
  cases k with
  | true => exact iteT ⟨α1, st1, b1, env, R1, E1, tri_mono h1 (fun _ _ _ q => q.ext x1) fun _ _ _ _ q => q⟩
  | false => exact iteF ⟨α1, st1, b1, env, R1, E1, tri_mono h1 (fun _ _ _ q => q.ext x1) fun _ _ _ _ q => q⟩
theorem pe_ixI (ha : PE X e1 (te X.K RX W C ia)) (hb : PE X e2 (te X.K RX W C ib)) (hp : plainE e2 = true) : PE X (.Subscript e1 e2 pos) (te X.K RX W C (.ix ia ib)) := by
  refine PE.imp (pe_ix ix_ok ha hb (ix_plain hp)) fun σ H Q h => ?_
  obtain ⟨α, st, b, env, R, E, h⟩ := h
  refine te_then R E h fun α1 H1 v st1 b1 d x1 R1 E1 r1 h1 => ?_
  refine te_then R1 E1 h1 fun α2 H2 u st2 b2 e x2 R2 E2 r2 h2 => ?_
  exact ⟨α2, st2, b2, d, e, R2, r1.ext x2, r2, _, tri_mono h2 (fun _ _ _ q => q.ext (x1.trans x2)) fun _ _ _ _ q => q⟩
variable {lo hi : IO} {l u : Option Expr} {p2 : Pos}
theorem pe_sliceI (ha : PE X e1 (te X.K RX W C ia)) (hl : PO X l (to X.K RX W C lo)) (hh : PO X u (to X.K RX W C hi)) : PE X (.Subscript e1 (.Slice l u none p2) pos) (te X.K RX W C (.slice ia lo hi)) := by
  refine PE.imp (pe_slice sl_ok ha hl hh) fun σ H Q h => ?_
  obtain ⟨α, st, b, env, R, E, h⟩ := h
  refine te_then R E h fun α1 H1 v st1 b1 d x1 R1 E1 r1 h1 => ?_
  refine to_then R1 E1 h1 fun α2 H2 st2 b2 i x2 R2 E2 h2 => ?_
  refine to_then R2 E2 h2 fun α3 H3 st3 b3 j x3 R3 E3 h3 => ?_
  exact ⟨α3, st3, b3, d, R3, (r1.ext x2).ext x3, _, tri_mono h3 (fun _ _ _ q => q.ext ((x1.trans x2).trans x3)) fun _ _ _ _ q => q⟩
theorem po_noneI : PO X none (to X.K RX W C .none) := PO.imp po_none fun σ H Q ⟨α, st, b, env, R, E, h⟩ => h α H (.refl _ _) R
theorem po_someI (ha : PE X e1 (te X.K RX W C ia)) : PO X (some e1) (to X.K RX W C (.some ia)) := by
  refine PO.imp (po_some ha) fun σ H Q h => ?_
  obtain ⟨α, st, b, env, R, E, h⟩ := h
  have h : Tri ((mbind (ev C ia env) fun x => match x with | .int i => mret (some i) | _ => mstuck) st) b (PostC X.K α H Q) (PostX X.K RX W σ α H) := h
  refine te_then R E h fun α1 H1 v st1 b1 d x1 R1 E1 r1 h1 => ?_
  cases r1 with
  | int i => exact ⟨i, rfl, (PostC.ext x1 h1) α1 H1 (.refl _ _) R1⟩
  | _ => exact h1.elim
theorem pe_revI {k : Nat} {p1 p3 p4 : Pos} (ha : PE X e1 (te X.K RX W C ia)) : PE X (.Subscript e1 (.Slice none none (some (.UnaryOp .USub (.Constant (.int 1) k p1) p3)) p4) pos) (te X.K RX W C (.rev ia)) := by
  refine PE.imp (pe_revL ha) fun σ H Q h => ?_
  obtain ⟨α, st, b, env, R, E, h⟩ := h
  refine te_then R E h fun α1 H1 v st1 b1 d x1 R1 E1 r1 h1 => ?_
  cases r1 with
  | ref hn =>
    rename_i n a
    have h1 : Tri (match st1[n]? with | some (.lst true xs) => mnew xs.reverse st1 | _ => .stuck) b1 _ _ := h1
    split at h1
    · rename_i xs e
      obtain ⟨vs, q1, q2⟩ := R1.lstW e hn
      exact ⟨a, vs, rfl, .of q1, PostV.newL R1 q2.reverse (PostV.ext x1 h1)⟩
    · exact h1.elim
  | _ => exact h1.elim

/-! ### argument lists -/
variable {es : List Expr} {is : IEs}
theorem pa_nilI : PA X [] (ta X.K RX W C .nil) := PA.imp pa_nil fun σ H Q ⟨α, st, b, env, R, E, h⟩ => h α H [] (.refl _ _) R .nil
theorem pa_consI (hp : plainE e1 = true) (ha : PE X e1 (te X.K RX W C ia)) (hr : PA X es (ta X.K RX W C is)) : PA X (e1 :: es) (ta X.K RX W C (.cons ia is)) := by
  refine PA.imp (pa_cons ha hr (star_plain hp)) fun σ H Q h => ?_
  obtain ⟨α, st, b, env, R, E, h⟩ := h
  refine te_then R E h fun α1 H1 v st1 b1 d x1 R1 E1 r1 h1 => ?_
  refine ta_then R1 E1 h1 fun α2 H2 vs st2 b2 ds x2 R2 E2 r2 h2 => ?_
  exact (PostA.ext (x1.trans x2) h2) α2 H2 _ (.refl _ _) R2 (.cons (r1.ext x2) r2)
theorem pe_tupI {k : Nat} (ha : PA X es (ta X.K RX W C is)) : PE X (.Tuple es k pos) (te X.K RX W C (.tup is)) := by
  refine PE.imp (mk_disp ha) fun σ H Q h => ?_
  obtain ⟨α, st, b, env, R, E, h⟩ := h
  refine ta_then R E h fun α1 H1 vs st1 b1 ds x1 R1 E1 r1 h1 => ?_
  obtain ⟨hc, h1⟩ := tri_mif h1
  exact ⟨by rw [← r1.length]; exact fits_le hc, PostV.newT R1 r1 (PostV.ext x1 h1)⟩
theorem pe_lstI (ha : PA X es (ta X.K RX W C is)) : PE X (.List es pos) (te X.K RX W C (.lst is)) := by
  refine PE.imp (pe_lst ha) fun σ H Q h => ?_
  obtain ⟨α, st, b, env, R, E, h⟩ := h
  refine ta_then R E h fun α1 H1 vs st1 b1 ds x1 R1 E1 r1 h1 => ?_
  obtain ⟨hc, h1⟩ := tri_mif h1
  exact ⟨by rw [← r1.length]; exact fits_le hc, PostV.newL R1 r1 (PostV.ext x1 h1)⟩
/-- a built-in function by values -/
theorem cb_read {f : Blt} {σ : L2.St} {H : Hp} {Q : VK} (h : te X.K RX W C (.blt f is) σ H Q) : tCB (rB X.K f) (ta X.K RX W C is) σ H Q := by
  obtain ⟨α, st, b, env, R, E, h⟩ := h
  refine ta_then R E h fun α1 H1 vs st1 b1 ds x1 R1 E1 r1 h1 => ?_
  exact ⟨α1, st1, b1, ds, R1, r1, _, tri_mono h1 (fun _ _ _ q => q.ext x1) fun _ _ _ _ q => q⟩
end
end DI
end
section
namespace DI
open PySem L2 PySem.Spec
open PyProof.Rows hiding St
section
variable {X : Cx} {RX : XRel} {W : WX} {F : Tab} {KW : KwTab} {mods : List (Str × GV)} {k : Nat} {c : CC} {f : Str} {e e1 e2 : Expr} {es : List Expr} {is ws : IEs} {ia ib : IE} {pos p : Pos} {kws : List Keyword}
/-- the configuration at a level -/
def cfg (F : Tab) (k : Nat) : Cfg := ⟨run F k, kordT F⟩
theorem run_call {fa : Addr} {fd : FuncData} {ps : List Str} {sp : Sp} {pins : List (Addr × Obj)} {σ : L2.St} {H : Hp} {s : Shared} {Q : VK} (Fo : FnG X.prog X.w X.K X.mg X.base k fa fd ps sp) (hr : Room k X.A) (hg : X.A.guards = some []) (tk : Takes X W)
    {us0 us : List Value} {kv : List (Str × Value)} {vs : List V} (hb : BindsTo s fd ⟨us0, kv⟩ (ps.zip us)) (I : L2.Inv X pins σ H s) (r : Vals vs us) (h : sp vs H Q (fun cls d H' => W cls d σ H')) :
    wpAny (model X.prog X.w) X.A (call (.ref fa) us0 kv) (EP X pins σ Q) X.xe s := by
  refine wpAny_call (codeAny_mono (run_fnG Fo hr hg tk hb I r h) fun r s' hq => ?_)
  cases r with
  | error e => exact hq
  | ok fl =>
    cases fl with
    | ret u => exact hq
    | next => exact hq.elim
    | brk => exact hq.elim
    | cont => exact hq.elim
theorem pe_call0I (G : GX F KW mods RX k c X) (tk : Takes X W) {fn : Fn} (hF : F.lookup f = some fn) (hg : Gl X f) (hdb : (f == ("__debug__" : Str)) = false) : PE X (.Call (.Name f p) [] [] pos) (te X.K RX W (cfg F k) (.call f .nil)) := by
  obtain ⟨fa, fd, ps, hm, hk, hb, Fo, _⟩ := (G.gd.fns f fn hF).ex
  refine ⟨fun pins s σ H Q I h => ?_⟩
  obtain ⟨α, st, b, env, R, E, h⟩ := h
  refine wpAny_Call_Name_kw (ld_glob I hg hm ?_ hdb)
  refine PySem.W.callWith_K0 I.kIn hk ?_
  have h1 : spI F RX X.K k f [] H Q (fun cls d H' => W cls d σ H') := ⟨α, st, b, [], R, .nil, h⟩
  refine run_call Fo G.room G.guards tk (us := []) (vs := []) ?_ I .nil h1
  exact hb s [] I.kIn (Fo.len _ _ _ _ h1)
theorem pe_callI (G : GX F KW mods RX k c X) (tk : Takes X W) {fn : Fn} (hF : F.lookup f = some fn) (hg : Gl X f) (hdb : (f == ("__debug__" : Str)) = false) (h1 : plainE e = true) (h2 : plainEs es = true) (ha : PA X (e :: es) (ta X.K RX W (cfg F k) is)) :
    PE X (.Call (.Name f p) (e :: es) [] pos) (te X.K RX W (cfg F k) (.call f is)) := by
  obtain ⟨fa, fd, ps, hm, hk, hb, Fo, _⟩ := (G.gd.fns f fn hF).ex
  refine ⟨fun pins s σ H Q I h => ?_⟩
  obtain ⟨α, st, b, env, R, E, h⟩ := h
  have key : ta X.K RX W (cfg F k) is σ H (fun vs H1 => spI F RX X.K k f vs H1 Q (fun cls d H' => W cls d σ H')) := by
    refine ta_then R E h fun α1 H1 vs st1 b1 ds x1 R1 E1 r1 h1 => ?_
    exact ⟨α1, st1, b1, ds, R1, r1, tri_mono h1 (fun _ _ _ q => q.ext x1) fun _ _ _ _ q => q⟩
  refine wpAny_Call_Name_kw (ld_glob I hg hm ?_ hdb)
  refine PySem.W.callWith_K (h₀ := X.base) I.ok.mod.kin hk (thn (ha.run pos pins s σ H _ I key) fun us s1 ⟨vs, H1, I1, r, q⟩ => ⟨I1.kIn, ?_⟩) (star_plain h1) (back_any h2)
  refine run_call Fo G.room G.guards tk (us := us) (vs := vs) ?_ I1 r q
  have hl : us.length = ps.length := by
    rw [← r.length]
    exact Fo.len _ _ _ _ q
  have q2 := hb s1 us I1.kIn (by rw [List.append_nil]; exact hl)
  rw [List.append_nil] at q2
  exact q2

/-! ### keywords -/
theorem kw_map {env : PySem.Env} : ∀ kws : List Keyword, keywordEach kws env = kws.map fun kw => (kw.arg, eval kw.value env)
  | [] => rfl
  | ⟨nm, v, p⟩ :: r => by
    show (nm, eval v env) :: keywordEach r env = _
    rw [kw_map r]
    rfl
theorem kw_names {env : PySem.Env} {kws : List Keyword} {ks : List Str} (h : kws.map (·.arg) = ks.map some) : (backToKw pos (keywordEach kws env)).filterMap (·.1) = ks := by
  rw [kw_map]
  unfold backToKw
  rw [List.map_map, List.filterMap_map]
  have e : (fun kw : Keyword => kw.arg) = ((fun x => x.1) ∘ (fun (x : Option Str × Sem Value) => match x with | (name, t) => (name, (do let v ← t; standAt pos; pure v : Sem Value))) ∘ fun kw : Keyword => (kw.arg, eval kw.value env)) := rfl
  show kws.filterMap (fun kw => kw.arg) = ks
  have q : kws.filterMap (fun kw => kw.arg) = (kws.map (·.arg)).filterMap id := by
    rw [List.filterMap_map]
    rfl
  rw [q, h, List.filterMap_map]
  show ks.filterMap (fun x => some x) = ks
  exact List.filterMap_some
theorem kw_some {env : PySem.Env} {kws : List Keyword} {ks : List Str} (h : kws.map (·.arg) = ks.map some) : (backToKw pos (keywordEach kws env)).all (·.1.isSome) = true := by
  rw [kw_map]
  unfold backToKw
  rw [List.map_map, List.all_map]
  show kws.all (fun kw => kw.arg.isSome) = true
  have q : kws.all (fun kw => kw.arg.isSome) = (kws.map (·.arg)).all Option.isSome := by
    rw [List.all_map]
    rfl
  rw [q, h, List.all_map, List.all_eq_true]
  intro x _
  rfl
theorem kw_none {env : PySem.Env} {kws : List Keyword} {ks : List Str} (h : kws.map (·.arg) = ks.map some) : (backToKw pos (keywordEach kws env)).any (·.1.isNone) = false := by
  have q := kw_some (pos := pos) (env := env) h
  rw [List.any_eq_false]
  intro x hx
  rw [List.all_eq_true] at q
  have := q x hx
  cases e : x.1 with
  | none =>
    rw [e] at this
    cases this
  | some _ => simp
theorem PK.imp {kws : List Keyword} {t t' : TA} (h : PK X kws t) (i : ∀ σ H Q, t' σ H Q → t σ H Q) : PK X kws t' := ⟨fun pos pins s σ H Q I q => h.run pos pins s σ H Q I (i σ H Q q)⟩
variable {C : Cfg} {nm : Option Str} {kp : Pos}
theorem pk_nilI : PK X [] (ta X.K RX W C .nil) := PK.imp pk_nil fun σ H Q ⟨α, st, b, env, R, E, h⟩ => h α H [] (.refl _ _) R .nil
theorem pk_consI (ha : PE X e1 (te X.K RX W C ia)) (hr : PK X kws (ta X.K RX W C is)) : PK X (⟨nm, e1, kp⟩ :: kws) (ta X.K RX W C (.cons ia is)) := by
  refine PK.imp (pk_cons ha hr) fun σ H Q h => ?_
  obtain ⟨α, st, b, env, R, E, h⟩ := h
  refine te_then R E h fun α1 H1 v st1 b1 d x1 R1 E1 r1 h1 => ?_
  refine ta_then R1 E1 h1 fun α2 H2 vs st2 b2 ds x2 R2 E2 r2 h2 => ?_
  exact (PostA.ext (x1.trans x2) h2) α2 H2 _ (.refl _ _) R2 (.cons (r1.ext x2) r2)
theorem pick_rel {K : PySem.W.Frag} {α : List Addr} {H : Hp} {ds : List D} {vs : List V} (r : RDs K α H ds vs) : ∀ {o : List Nat} {zs : List D}, pickD ds o = some zs → ∃ ys, pickV vs o = some ys ∧ RDs K α H zs ys
  | [], _, h => by
    cases h
    exact ⟨[], rfl, .nil⟩
  | i :: o, _, h => by
    unfold pickD at h
    split at h
    · rename_i x xs e1 e2
      cases h
      obtain ⟨v, q1, q2⟩ := r.get e1
      obtain ⟨ys, q3, q4⟩ := pick_rel r e2
      refine ⟨v :: ys, ?_, .cons q2 q4⟩
      unfold pickV
      rw [q1, q3]
    · cases h
theorem pick_vals {vs : List V} {us : List Value} (r : Vals vs us) : ∀ {o : List Nat} {zs : List V}, pickV vs o = some zs → ∃ ys, pickV us o = some ys ∧ Vals zs ys
  | [], _, h => by
    cases h
    exact ⟨[], rfl, .nil⟩
  | i :: o, _, h => by
    unfold pickV at h
    split at h
    · rename_i x xs e1 e2
      cases h
      obtain ⟨v, q1, q2⟩ := r.get e1
      obtain ⟨ys, q3, q4⟩ := pick_vals r e2
      refine ⟨v :: ys, ?_, .cons q2 q4⟩
      unfold pickV
      rw [q1, q3]
    · cases h
theorem kwBody (G : GX F KW mods RX k c X) (tk : Takes X W) {fa : Addr} {fd : FuncData} {ps : List Str} (Fo : FnG X.prog X.w X.K X.mg X.base k fa fd ps (spI F RX X.K k f)) {n : Nat} {ks : List Str} {o : List Nat} (ho : kordT F f n ks = some o)
    (hkw : KwOk fd ps n ks o) {α1 : List Addr} {H : Hp} {st1 : Store} {b1 : Nat} {ds es : List D} {vs zs : List V} {us ws : List Value} {pins : List (Addr × Obj)} {σ : L2.St} {s : Shared} {Q : VK} (R : Rel X.K α1 H st1 b1) (r1 : RDs X.K α1 H ds vs) (r2 : RDs X.K α1 H es zs)
    (hn : ds.length = n) (hk : es.length = ks.length) (rv : Vals vs us) (rz : Vals zs ws) (I : L2.Inv X pins σ H s)
    (h : Tri ((match (cfg F k).kord f ds.length ks with | some o => (match pickD (ds ++ es) o with | some zs => (cfg F k).call f zs | none => mstuck) | none => mstuck) st1) b1 (PostV X.K α1 H Q) (PostX X.K RX W σ α1 H)) :
    wpAny (model X.prog X.w) X.A (call (.ref fa) us (ks.zip ws)) (EP X pins σ Q) X.xe s := by
  have e : (cfg F k).kord f ds.length ks = some o := by
    rw [hn]
    exact ho
  rw [e] at h
  have h : Tri ((match pickD (ds ++ es) o with | some zs => (cfg F k).call f zs | none => mstuck) st1) b1 (PostV X.K α1 H Q) (PostX X.K RX W σ α1 H) := h
  cases e2 : pickD (ds ++ es) o with
  | none =>
    rw [e2] at h
    exact h.elim
  | some ys =>
    rw [e2] at h
    obtain ⟨y2, q1, q2⟩ := pick_rel (r1.append r2) e2
    obtain ⟨u2, q3, q4⟩ := pick_vals (rv.append rz) q1
    obtain ⟨u3, q5, q6⟩ := hkw s us ws (by rw [← rv.length, ← r1.length, hn]) (by rw [← rz.length, ← r2.length, hk])
    rw [q3] at q5
    cases q5
    exact run_call Fo G.room G.guards tk q6 I q4 ⟨α1, st1, b1, ys, R, q2, h⟩
theorem evs_len {C : Cfg} : ∀ (is : IEs) {env : Evr} {st : Store} {b : Nat} {P : Nat → (List D × Store) → Prop} {XP : Nat → Ex → Store → Prop}, Tri (evs C is env st) b P XP → Tri (evs C is env st) b (fun b' p => P b' p ∧ p.1.length = IEs.len is) XP := by
  intro is
  induction is using IEs.rec (motive_1 := fun _ => True) (motive_3 := fun _ => True) (motive_4 := fun _ => True) with
  | nil => intro env st b P XP h; exact ⟨h, rfl⟩
  | cons e es _ ih =>
    intro env st b P XP h
    have h := tri_bind.mp h
    refine tri_bind.mpr (tri_mono h (fun b1 p _ h1 => ?_) fun _ _ _ _ q => q)
    have h1 := tri_bind.mp h1
    refine tri_bind.mpr (tri_mono (ih h1) (fun b2 q _ h2 => ⟨h2.1, by show (p.1 :: q.1).length = _; rw [List.length_cons, h2.2]; rfl⟩) fun _ _ _ _ q => q)
  | _ => trivial
theorem pe_callKI (G : GX F KW mods RX k c X) (tk : Takes X W) {fn : Fn} (hF : F.lookup f = some fn) (hg : Gl X f) (hdb : (f == ("__debug__" : Str)) = false) {ks : List Str} {o : List Nat} (hkn : kws.map (·.arg) = ks.map some) (h1 : plainE e = true) (h2 : plainEs es = true)
    (hK : (f, is.len, ks) ∈ KW) (ho : kordT F f is.len ks = some o) (hw : ws.len = ks.length) (ha : PA X (e :: es) (ta X.K RX W (cfg F k) is)) (hkw : PK X kws (ta X.K RX W (cfg F k) ws)) :
    PE X (.Call (.Name f p) (e :: es) kws pos) (te X.K RX W (cfg F k) (.callK f is ks ws)) := by
  obtain ⟨fa, fd, ps, hm, hk, hb, Fo, hkk⟩ := (G.gd.fns f fn hF).ex
  refine ⟨fun pins s σ H Q I h => ?_⟩
  obtain ⟨α, st, b, env, R, E, h⟩ := h
  refine wpAny_Call_Name_kw (ld_glob I hg hm ?_ hdb)
  have key : ta X.K RX W (cfg F k) is σ H (fun vs H1 => ta X.K RX W (cfg F k) ws σ H1 fun zs H2 => ∃ α2 st2 b2 ds ds2, Rel X.K α2 H2 st2 b2 ∧ RDs X.K α2 H2 ds vs ∧ RDs X.K α2 H2 ds2 zs ∧ ds.length = is.len ∧ ds2.length = ws.len ∧
      Tri ((match (cfg F k).kord f ds.length ks with | some o => (match pickD (ds ++ ds2) o with | some zs => (cfg F k).call f zs | none => mstuck) | none => mstuck) st2) b2 (PostV X.K α2 H2 Q) (PostX X.K RX W σ α2 H2)) := by
    have h := tri_bind.mp h
    refine ⟨α, st, b, env, R, E, tri_mono (evs_len is h) (fun b1 p _ hh α1 H1 v x1 R1 rd => ?_) fun _ _ _ _ q => q⟩
    obtain ⟨hh, l1⟩ := hh
    have hh := tri_bind.mp hh
    refine ⟨α1, p.2, b1, env, R1, E.ext x1, tri_mono (evs_len ws hh) (fun b2 p2 _ hq α2 H2 v2 x2 R2 rd2 => ?_) fun _ _ _ _ q => q.ext x1⟩
    obtain ⟨hq, l2⟩ := hq
    exact ⟨α2, p2.2, b2, p.1, p2.1, R2, rd.ext x2, rd2, l1, l2, tri_mono hq (fun _ _ _ q => q.ext (x1.trans x2)) fun _ _ _ _ q => q.ext (x1.trans x2)⟩
  refine PySem.W.callWith_KW (h₀ := X.base) I.ok.mod.kin hk (kw_some hkn) (thn (ha.run pos pins s σ H _ I key) fun us s1 ⟨vs, H1, I1, r, q⟩ => ?_) ?_ (star_plain h1)
  · refine thn (hkw.run pos pins s1 σ H1 _ I1 q) fun ws' s2 ⟨zs, H2, I2, rz, q2⟩ => ⟨I2.kIn, ?_⟩
    rw [kw_names hkn]
    obtain ⟨α2, st2, b2, ds, ds2, R2, rd, rd2, l1, l2, hq⟩ := q2
    exact kwBody G tk Fo ho (hkk _ _ hK _ ho) R2 rd rd2 l1 (by rw [l2, hw]) r rz I2 hq
  · rw [kw_none hkn, back_any (by show (plainE e && es.all plainE) = true; rw [h1]; exact h2)] <;> rfl
theorem pe_callK0I (G : GX F KW mods RX k c X) (tk : Takes X W) {fn : Fn} (hF : F.lookup f = some fn) (hg : Gl X f) (hdb : (f == ("__debug__" : Str)) = false) {ks : List Str} {o : List Nat} (hkn : kws.map (·.arg) = ks.map some)
    (hK : (f, 0, ks) ∈ KW) (ho : kordT F f 0 ks = some o) (hw : ws.len = ks.length) (hkw : PK X kws (ta X.K RX W (cfg F k) ws)) :
    PE X (.Call (.Name f p) [] kws pos) (te X.K RX W (cfg F k) (.callK f .nil ks ws)) := by
  obtain ⟨fa, fd, ps, hm, hk, hb, Fo, hkk⟩ := (G.gd.fns f fn hF).ex
  refine ⟨fun pins s σ H Q I h => ?_⟩
  obtain ⟨α, st, b, env, R, E, h⟩ := h
  refine wpAny_Call_Name_kw (ld_glob I hg hm ?_ hdb)
  have h : Tri ((mbind (evs (cfg F k) ws env) fun ys => match (cfg F k).kord f ([] : List D).length ks with | some o => (match pickD ([] ++ ys) o with | some zs => (cfg F k).call f zs | none => mstuck) | none => mstuck) st) b (PostV X.K α H Q) (PostX X.K RX W σ α H) := h
  have key : ta X.K RX W (cfg F k) ws σ H fun zs H2 => ∃ α2 st2 b2 ds2, Rel X.K α2 H2 st2 b2 ∧ RDs X.K α2 H2 ds2 zs ∧ ds2.length = ws.len ∧
      Tri ((match (cfg F k).kord f ([] : List D).length ks with | some o => (match pickD ([] ++ ds2) o with | some zs => (cfg F k).call f zs | none => mstuck) | none => mstuck) st2) b2 (PostV X.K α2 H2 Q) (PostX X.K RX W σ α2 H2) := by
    have hh := tri_bind.mp h
    refine ⟨α, st, b, env, R, E, tri_mono (evs_len ws hh) (fun b2 p2 _ hq α2 H2 v2 x2 R2 rd2 => ?_) fun _ _ _ _ q => q⟩
    obtain ⟨hq, l2⟩ := hq
    exact ⟨α2, p2.2, b2, p2.1, R2, rd2, l2, tri_mono hq (fun _ _ _ q => q.ext x2) fun _ _ _ _ q => q.ext x2⟩
  refine PySem.W.callWith_KW0 (h₀ := X.base) I.ok.mod.kin hk (kw_some hkn) (thn (hkw.run pos pins s σ H _ I key) fun ws' s2 ⟨zs, H2, I2, rz, q2⟩ => ⟨I2.kIn, ?_⟩) ?_
  · rw [kw_names hkn]
    obtain ⟨α2, st2, b2, ds2, R2, rd2, l2, hq⟩ := q2
    exact kwBody (ds := []) (vs := []) (us := []) G tk Fo ho (hkk _ _ hK _ ho) R2 .nil rd2 rfl (by rw [l2, hw]) .nil rz I2 hq
  · rw [kw_none hkn] <;> rfl
end
end DI
end
section
namespace DI
open PySem L2 PySem.Spec
open PyProof.Rows hiding St
/-! ### targets -/
def setSg : List Nat → List V → L2.St → L2.St
  | [], _, σ => σ
  | _, [], σ => σ
  | i :: is, v :: vs, σ => setSg is vs (σ.set i (some v))
def tgI (K : PySem.W.Frag) : ITg → TG
  | .name i => gName i
  | .tup ts => fun v σ H Q => ∃ a vs, v = .ref a ∧ (SqT K H a vs ∨ SqL K H a vs) ∧ vs.length = ts.length ∧ Q (setSg ts vs σ) H
/-- the places that a target writes -/
def tgSlots : ITg → List Nat
  | .name i => [i]
  | .tup ts => ts
/-- the target's places among the names -/
def okTgs (c : CC) : List Nat → List Expr → Bool
  | [], [] => true
  | i :: is, .Name x _ :: es => decide (c.N[i]? = some x) && stoB c x && okTgs c is es
  | _, _ => false
def okTg (c : CC) : ITg → Expr → Bool
  | .name i, .Name x _ => decide (c.N[i]? = some x) && stoB c x
  | .tup ts, .Tuple es _ _ => okTgs c ts es
  | _, _ => false
section
variable {X : Cx} {RX : XRel} {W : WX} {F : Tab} {KW : KwTab} {mods : List (Str × GV)} {k : Nat} {c : CC}
theorem PG.imp {e : Expr} {t t' : TG} (h : PG X e t) (i : ∀ v σ H Q, t' v σ H Q → t v σ H Q) : PG X e t' := ⟨fun pins s σ H v u Q I r q => h.run pins s σ H v u Q I r (i v σ H Q q)⟩
theorem pg_nameI (G : GX F KW mods RX k c X) {i : Nat} {x : Str} {pos : Pos} (h1 : c.N[i]? = some x) (h2 : stoB c x = true) : PG X (.Name x pos) (gName i) := by
  obtain ⟨hl, hf⟩ := G.sto x h2
  exact pg_name G.nd (by rw [G.N]; exact h1) hl hf
theorem pgs_I (G : GX F KW mods RX k c X) : ∀ {ts : List Nat} {es : List Expr}, okTgs c ts es = true → (assignEach es X.env).length = ts.length ∧ (assignEach es X.env).findIdx? (·.1) = none ∧
    ∃ t : TGs, PGs X es t ∧ ∀ vs σ H Q, vs.length = ts.length → Q (setSg ts vs σ) H → t vs σ H Q
  | [], [], _ => ⟨rfl, rfl, gNil, pgs_nil, fun vs σ H Q hl q => by
      cases vs with
      | nil => exact ⟨rfl, q⟩
      | cons _ _ => cases hl⟩
  | i :: is, .Name x p :: es, h => by
    obtain ⟨h12, h3⟩ := Bool.and_eq_true_iff.mp (show (decide (c.N[i]? = some x) && stoB c x && okTgs c is es) = true from h)
    obtain ⟨h1, h2⟩ := Bool.and_eq_true_iff.mp h12
    obtain ⟨q1, q2, t, q3, q4⟩ := pgs_I G h3
    have e : assignEach (.Name x p :: es) X.env = (false, assign (.Name x p) X.env) :: assignEach es X.env := rfl
    refine ⟨by rw [e, List.length_cons, List.length_cons, q1], ?_, gCons (gName i) t, pgs_cons (pg_nameI G (of_decide_eq_true h1) h2) q3 rfl, fun vs σ H Q hl q => ?_⟩
    · rw [e, List.findIdx?_cons]
      show (if false = true then some 0 else _) = none
      rw [if_neg Bool.false_ne_true, q2]
      rfl
    · cases vs with
      | nil => cases hl
      | cons v vs => exact ⟨v, vs, rfl, q4 vs _ H Q (Nat.succ.inj hl) q⟩
  | [], _ :: _, h => by cases h
  | _ :: _, [], h => by cases h
  | i :: is, e :: es, h => by
    cases e with
    | Name x p =>
      obtain ⟨h12, h3⟩ := Bool.and_eq_true_iff.mp (show (decide (c.N[i]? = some x) && stoB c x && okTgs c is es) = true from h)
      obtain ⟨h1, h2⟩ := Bool.and_eq_true_iff.mp h12
      obtain ⟨q1, q2, t, q3, q4⟩ := pgs_I G h3
      have e : assignEach (.Name x p :: es) X.env = (false, assign (.Name x p) X.env) :: assignEach es X.env := rfl
      refine ⟨by rw [e, List.length_cons, List.length_cons, q1], ?_, gCons (gName i) t, pgs_cons (pg_nameI G (of_decide_eq_true h1) h2) q3 rfl, fun vs σ H Q hl q => ?_⟩
      · rw [e, List.findIdx?_cons]
        show (if false = true then some 0 else _) = none
        rw [if_neg Bool.false_ne_true, q2]
        rfl
      · cases vs with
        | nil => cases hl
        | cons v vs => exact ⟨v, vs, rfl, q4 vs _ H Q (Nat.succ.inj hl) q⟩
    | _ => cases h
theorem pg_I (G : GX F KW mods RX k c X) {tg : ITg} {e : Expr} (h : okTg c tg e = true) : PG X e (tgI X.K tg) := by
  cases tg with
  | name i =>
    cases e with
    | Name x p =>
      obtain ⟨h1, h2⟩ := Bool.and_eq_true_iff.mp (show (decide (c.N[i]? = some x) && stoB c x) = true from h)
      exact pg_nameI G (of_decide_eq_true h1) h2
    | _ => cases h
  | tup ts =>
    cases e with
    | Tuple es n p =>
      obtain ⟨q1, q2, t, q3, q4⟩ := pgs_I G (show okTgs c ts es = true from h)
      refine ⟨fun pins s σ H v u Q I r hq => ?_⟩
      obtain ⟨a, vs, rfl, h1, h2, h3⟩ := hq
      rcases h1 with h1 | h1
      · exact (pg_tup G.calm q3 q1 q2).run pins s σ H _ u Q I r ⟨a, vs, rfl, h1, h2, q4 vs σ H Q h2 h3⟩
      · exact (pg_lst G.calm q3 q1 q2).run pins s σ H _ u Q I r ⟨a, vs, rfl, h1, h2, q4 vs σ H Q h2 h3⟩
    | _ => cases h
variable {K : PySem.W.Frag} {α : List Addr} {H : Hp} {b : Nat} {st : Store} {env : Evr} {σ : L2.St}
theorem setEnvs_of : ∀ {ts : List Nat} {ds : List D} {vs : List V} {env env' : Evr} {σ : L2.St}, REnv K α H env σ → RDs K α H ds vs → setEnvs ts ds env = some env' → vs.length = ts.length ∧ REnv K α H env' (setSg ts vs σ)
  | [], _, _, _, _, _, E, .nil, h => by
    cases h
    exact ⟨rfl, E⟩
  | [], _, _, _, _, _, E, .cons _ _, h => by cases h
  | i :: is, _, _, _, _, _, E, .nil, h => by cases h
  | i :: is, _, _, _, _, _, E, .cons r rs, h => by
    obtain ⟨h1, h2⟩ := setEnvs_of (E.set i r) rs h
    exact ⟨by rw [List.length_cons, List.length_cons, h1], h2⟩
/-- a target takes its value -/
theorem tgI_of {tg : ITg} {d : D} {v : V} {env' : Evr} {Q : L2.St → Hp → Prop} (E : REnv K α H env σ) (r : RD K α H d v) (h : bindTg tg d env = some env') (hq : ∀ σ', REnv K α H env' σ' → (∃ us, σ' = setSg (tgSlots tg) us σ) → Q σ' H) : tgI K tg v σ H Q := by
  cases tg with
  | name i =>
    have h : some (env.set i (some d)) = some env' := h
    cases h
    exact hq _ (E.set i r) ⟨[v], rfl⟩
  | tup ts =>
    cases r with
    | tup q rs =>
      obtain ⟨h1, h2⟩ := setEnvs_of E rs h
      exact ⟨_, _, rfl, .inl q.sq, h1, hq _ h2 ⟨_, rfl⟩⟩
    | pr q rx ry =>
      obtain ⟨h1, h2⟩ := setEnvs_of E (.cons rx (.cons ry .nil)) h
      exact ⟨_, _, rfl, .inl q, h1, hq _ h2 ⟨_, rfl⟩⟩
    | _ => cases h
theorem wipe_set {σ : L2.St} {i : Nat} {v : V} : ∀ {vs : List Nat}, i ∈ vs → L2.wipe (σ.set i (some v)) vs = L2.wipe σ vs
  | [], h => by cases h
  | j :: vs, h => by
    show (L2.wipe (σ.set i (some v)) vs).set j none = (L2.wipe σ vs).set j none
    by_cases hm : i ∈ vs
    · rw [wipe_set hm]
    · have e : i = j := by
        rcases List.mem_cons.mp h with z | z
        · exact z
        · exact absurd z hm
      subst e
      clear h
      induction vs with
      | nil =>
        show (σ.set i (some v)).set i none = σ.set i none
        rw [List.set_set]
      | cons l vs ih =>
        have hl : l ≠ i := fun z => hm (by rw [z]; exact List.mem_cons_self)
        have hv : i ∉ vs := fun z => hm (List.mem_cons_of_mem _ z)
        show (((L2.wipe (σ.set i (some v)) vs).set l none).set i none) = (((L2.wipe σ vs).set l none).set i none)
        rw [List.set_comm _ _ hl, List.set_comm _ _ hl, ih hv]
theorem wipe_setSg : ∀ {ts : List Nat} {us : List V} {σ : L2.St} {vs : List Nat}, (∀ i ∈ ts, i ∈ vs) → L2.wipe (setSg ts us σ) vs = L2.wipe σ vs
  | [], _, _, _, _ => rfl
  | _ :: _, [], _, _, _ => rfl
  | i :: is, u :: us, σ, vs, h => by
    show L2.wipe (setSg is us (σ.set i (some u))) vs = _
    rw [wipe_setSg (fun j hj => h j (List.mem_cons_of_mem _ hj)), wipe_set (h i List.mem_cons_self)]
theorem wipe_idem (σ : L2.St) : ∀ vs : List Nat, L2.wipe (L2.wipe σ vs) vs = L2.wipe σ vs := by
  intro vs
  refine List.ext_getElem? fun j => ?_
  by_cases hj : j ∈ vs
  · have key : ∀ (τ : L2.St) (ws : List Nat), j ∈ ws → (L2.wipe τ ws)[j]? = if j < τ.length then some none else none := by
      intro τ ws
      induction ws with
      | nil => intro h; cases h
      | cons l ws ih =>
        intro h
        show ((L2.wipe τ ws).set l none)[j]? = _
        by_cases hl : l = j
        · subst hl
          rw [List.getElem?_set]
          simp [L2.wipe_length]
        · rw [List.getElem?_set_ne hl]
          rcases List.mem_cons.mp h with z | z
          · exact absurd z.symm hl
          · exact ih z
    rw [key _ _ hj, key _ _ hj, L2.wipe_length]
  · rw [L2.wipe_out hj]
/-- a value unpacked, a list too -/
theorem tgI_list {ts : List Nat} {d : D} {v : V} {env' : Evr} {Q : L2.St → Hp → Prop} (R : Rel K α H st b) (E : REnv K α H env σ) (r : RD K α H d v) (h : bindTg (.tup ts) (asTup st d) env = some env') (hq : ∀ σ', REnv K α H env' σ' → (∃ us, σ' = setSg ts us σ) → Q σ' H) : tgI K (.tup ts) v σ H Q := by
  cases r with
  | ref ha =>
    rename_i n a
    have h : bindTg (.tup ts) (match st[n]? with | some (.lst _ xs) => D.tup xs | _ => D.ref n) env = some env' := h
    split at h
    · rename_i w xs e1
      obtain ⟨vs, q, rs⟩ := R.lst e1 ha
      obtain ⟨h1, h2⟩ := setEnvs_of E rs h
      exact ⟨_, _, rfl, .inr q, h1, hq _ h2 ⟨_, rfl⟩⟩
    · cases h
  | tup q rs => exact tgI_of (tg := .tup ts) E (.tup q rs) h hq
  | pr q rx ry => exact tgI_of (tg := .tup ts) E (.pr q rx ry) h hq
  | _ => cases h
end
end DI
end
section
namespace DI
open PySem L2 PySem.Spec
open PyProof.Rows hiding St
section
variable {X : Cx} {RX : XRel} {W : WX} {C : Cfg} {F : Tab} {KW : KwTab} {mods : List (Str × GV)} {k : Nat} {c : CC} {e e1 e2 e3 : Expr} {ia ib : IE} {is : IEs} {pos p tpos : Pos} {tg : Expr}

/-! ### what is walked -/
theorem pi_seqI (ha : PE X e (te X.K RX W C ia)) : PI X tg e (ti X.K RX W C (.seq ia)) := by
  refine ⟨fun pins s σ H R I h => ?_⟩
  obtain ⟨α, st, b, env, Re, E, h⟩ := h
  have key : te X.K RX W C ia σ H (fun x H1 => ∃ a, x = .ref a ∧ (((∃ xs, SqL X.K H1 a xs) ∧ R (Itl X.K a) H1) ∨ ((∃ xs, SqT X.K H1 a xs) ∧ R (Itt X.K a) H1))) := by
    have h : Tri ((mbind (ev C ia env) fun x => fun st => match x with
      | .tup xs => .ret (Pl.tup xs, st)
      | .ref n => (match st[n]? with
        | some (.lst _ xs) => .ret (.lst n xs.length, st)
        | _ => .stuck)
      | _ => .stuck) st) b (fun b' p => ∀ α' H' J, Ext X.K α H α' H' → Rel X.K α' H' p.2 b' → PlJ X.K α' H' p.1 J → R J H') (PostX X.K RX W σ α H) := h
    refine te_then Re E h fun α1 H1 v st1 b1 d x1 R1 E1 r1 h1 => ?_
    cases r1 with
    | tup q rs => exact ⟨_, rfl, .inr ⟨⟨_, q.sq⟩, h1 α1 H1 _ x1 R1 ⟨_, _, q.sq, rs, rfl⟩⟩⟩
    | ref hn =>
      rename_i n a
      have h1 : Tri (match st1[n]? with | some (.lst _ xs) => T.ret (Pl.lst n xs.length, st1) | _ => .stuck) b1 _ _ := h1
      split at h1
      · rename_i w xs e1
        obtain ⟨vs, q1, q2⟩ := R1.lst e1 hn
        exact ⟨a, rfl, .inl ⟨⟨vs, q1⟩, h1 α1 H1 _ x1 R1 ⟨a, hn, rfl⟩⟩⟩
      · exact h1.elim
    | _ => exact h1.elim
  refine thn (ha.run pins s σ H _ I key) fun v s1 ⟨x, H1, I1, r1, q1⟩ => ?_
  obtain ⟨a, rfl, q1⟩ := q1
  cases r1
  have fresh := I1.hok.fresh (Nat.le_refl s1.heap.objs.size)
  have fp : ∀ b ∈ [s1.heap.objs.size], FpOk X pins H1 b := by
    intro b hb
    have e : b = s1.heap.objs.size := by simpa using hb
    subst e
    exact I1.fpOk (Nat.le_refl _) fresh
  rcases q1 with ⟨⟨xs, q⟩, hR⟩ | ⟨⟨xs, q⟩, hR⟩
  · obtain ⟨its, rv, p, hz⟩ := I1.list q
    refine wpAny_pyIter_list p.isList ⟨s1.heap.objs.size, [s1.heap.objs.size], _, _, H1, rfl, ?_, turn_list a _, ?_, fp, hR⟩
    · exact I1.kept (t' := s1.toks) fun b o e => Heap.get?_push_of_some _ e
    · exact ⟨_, Heap.get?_push_size _ rfl, rfl, rfl⟩
  · obtain ⟨its, rv, p, hz⟩ := I1.tuple q
    refine wpAny_pyIter_tuple (show s1.heap.IsTuple a its.toArray from p) ⟨s1.heap.objs.size, [s1.heap.objs.size], _, _, H1, rfl, ?_, turn_tuple a _, ?_, fp, hR⟩
    · exact I1.kept (t' := s1.toks) fun b o e => Heap.get?_push_of_some _ e
    · exact ⟨_, Heap.get?_push_size _ rfl, rfl, rfl⟩
theorem PI.imp {iter : Expr} {t t' : TI} (h : PI X tg iter t) (i : ∀ σ H R, t' σ H R → t σ H R) : PI X tg iter t' := ⟨fun pins s σ H R I q => h.run pins s σ H R I (i σ H R q)⟩
theorem pi_range1I (G : GX F KW mods RX k c X) (hg : Gl X "range") (hp : plainE e = true) (ha : PE X e (te X.K RX W C ia)) : PI X tg (.Call (.Name "range" p) [e] [] pos) (ti X.K RX W C (.range1 ia)) := by
  have hs : starEach [e] X.env = [(false, eval e X.env)] := star_plain (es := []) hp
  refine PI.imp (pi_range1 hg (G.gd.blt "range" (by decide)) (pa_consI hp ha pa_nilI) hs) fun σ H R h => ?_
  obtain ⟨α, st, b, env, Re, E, h⟩ := h
  have h : Tri ((mbind (ev C ia env) fun x => match x with
      | .int j => mif (decide (-(2 ^ 62) ≤ j) && decide (j < 2 ^ 62)) (mret (Pl.rng 0 j.toNat))
      | _ => mstuck) st) b (fun b' p => ∀ α' H' J, Ext X.K α H α' H' → Rel X.K α' H' p.2 b' → PlJ X.K α' H' p.1 J → R J H') (PostX X.K RX W σ α H) := h
  refine ⟨α, st, b, env, Re, E, tri_bind.mpr (tri_mono (tri_bind.mp h) (fun b1 p _ h1 => ?_) fun _ _ _ _ q => q)⟩
  obtain ⟨d, st1⟩ := p
  show PostA X.K α H _ b1 ([d], st1)
  intro α1 H1 vs x1 R1 rs
  cases rs with
  | cons r rs =>
    cases rs
    cases r with
    | int j =>
      obtain ⟨hc, h1⟩ := tri_mif h1
      obtain ⟨c1, c2⟩ := Bool.and_eq_true_iff.mp hc
      exact ⟨j, rfl, of_decide_eq_true c1, of_decide_eq_true c2, h1 α1 H1 _ x1 R1 rfl⟩
    | _ => exact h1.elim
theorem pi_range2I (G : GX F KW mods RX k c X) (hg : Gl X "range") (hp : plainE e1 = true) (hp2 : plainE e2 = true) (ha : PE X e1 (te X.K RX W C ia)) (hb : PE X e2 (te X.K RX W C ib)) :
    PI X tg (.Call (.Name "range" p) [e1, e2] [] pos) (ti X.K RX W C (.range2 ia ib)) := by
  have hs2 : starEach [e2] X.env = [(false, eval e2 X.env)] := star_plain (es := []) hp2
  have hs : starEach [e1, e2] X.env = [(false, eval e1 X.env), (false, eval e2 X.env)] := by
    rw [star_plain hp, hs2]
  refine PI.imp (pi_range2 hg (G.gd.blt "range" (by decide)) (pa_consI hp ha (pa_consI hp2 hb pa_nilI)) hs hs2) fun σ H R h => ?_
  obtain ⟨α, st, b, env, Re, E, h⟩ := h
  have h : Tri ((mbind (ev C ia env) fun x => mbind (ev C ib env) fun y => match x, y with
      | .int i, .int j => mif (decide (-(2 ^ 62) ≤ i) && decide (i < 2 ^ 62) && decide (-(2 ^ 62) ≤ j) && decide (j < 2 ^ 62)) (mret (Pl.rng i (j - i).toNat))
      | _, _ => mstuck) st) b (fun b' p => ∀ α' H' J, Ext X.K α H α' H' → Rel X.K α' H' p.2 b' → PlJ X.K α' H' p.1 J → R J H') (PostX X.K RX W σ α H) := h
  refine ⟨α, st, b, env, Re, E, tri_bind.mpr (tri_mono (tri_bind.mp h) (fun b1 p _ h1 => ?_) fun _ _ _ _ q => q)⟩
  obtain ⟨d, st1⟩ := p
  have h1 := tri_bind.mp h1
  refine tri_bind.mpr (tri_bind.mpr (tri_mono h1 (fun b2 p2 _ h2 => ?_) fun _ _ _ _ q => q))
  obtain ⟨d2, st2⟩ := p2
  show PostA X.K α H _ b2 ([d, d2], st2)
  intro α1 H1 vs x1 R1 rs
  cases rs with
  | cons r rs =>
    cases rs with
    | cons r2 rs =>
      cases rs
      cases r with
      | int i =>
        cases r2 with
        | int j =>
          obtain ⟨hc, h2⟩ := tri_mif h2
          obtain ⟨c1, c2⟩ := Bool.and_eq_true_iff.mp hc
          obtain ⟨c3, c4⟩ := Bool.and_eq_true_iff.mp c1
          obtain ⟨c5, c6⟩ := Bool.and_eq_true_iff.mp c3
          exact ⟨i, j, rfl, ⟨of_decide_eq_true c5, of_decide_eq_true c6, of_decide_eq_true c4, of_decide_eq_true c2⟩, h2 α1 H1 _ x1 R1 rfl⟩
        | _ => exact h2.elim
      | _ => cases r2 <;> exact h2.elim
theorem pi_zipI (G : GX F KW mods RX k c X) (hg : Gl X "zip") (hp : plainE e1 = true) (hp2 : plainE e2 = true) (ha : PE X e1 (te X.K RX W C ia)) (hb : PE X e2 (te X.K RX W C ib)) {elts : List Expr} {kk : Nat} :
    PI X (.Tuple elts kk tpos) (.Call (.Name "zip" p) [e1, e2] [] pos) (ti X.K RX W C (.zip ia ib)) := by
  have hs2 : starEach [e2] X.env = [(false, eval e2 X.env)] := star_plain (es := []) hp2
  refine PI.imp (RZ.pi_zipA hg (G.gd.blt "zip" (by decide)) (pa_consI hp ha (pa_consI hp2 hb pa_nilI)) (star_plain hp) (back_any (es := [e2]) (by show (plainE e2 && true) = true; rw [hp2] <;> rfl))) fun σ H R h => ?_
  obtain ⟨α, st, b, env, Re, E, h⟩ := h
  have h : Tri ((mbind (ev C ia env) fun x => mbind (ev C ib env) fun y => fun st => match x, y with
      | .tup xs, .tup ys => .ret (Pl.zipT xs ys, st)
      | .ref n, .ref m => (match st[n]?, st[m]? with
        | some (.lst _ xs), some (.lst _ ys) => .ret (.zipL n m xs.length ys.length, st)
        | _, _ => .stuck)
      | _, _ => .stuck) st) b (fun b' p => ∀ α' H' J, Ext X.K α H α' H' → Rel X.K α' H' p.2 b' → PlJ X.K α' H' p.1 J → R J H') (PostX X.K RX W σ α H) := h
  refine ⟨α, st, b, env, Re, E, tri_bind.mpr (tri_mono (tri_bind.mp h) (fun b1 p _ h1 => ?_) fun _ _ _ _ q => q)⟩
  obtain ⟨d, st1⟩ := p
  have h1 := tri_bind.mp h1
  refine tri_bind.mpr (tri_bind.mpr (tri_mono h1 (fun b2 p2 _ h2 => ?_) fun _ _ _ _ q => q))
  obtain ⟨d2, st2⟩ := p2
  show PostA X.K α H _ b2 ([d, d2], st2)
  intro α1 H1 vs x1 R1 rs
  cases rs with
  | cons r rs =>
    cases rs with
    | cons r2 rs =>
      cases rs
      cases r with
      | tup q1 q2 =>
        cases r2 with
        | tup q3 q4 => exact ⟨_, _, _, _, rfl, .inr ⟨q1.sq, q3.sq, h2 α1 H1 _ x1 R1 ⟨_, _, _, _, q1.sq, q2, q3.sq, q4, rfl⟩⟩⟩
        | _ => exact h2.elim
      | @ref n a hn =>
        cases r2 with
        | @ref m c hm =>
          have h2 : Tri (match st2[n]?, st2[m]? with | some (.lst _ xs), some (.lst _ ys) => T.ret (Pl.zipL n m xs.length ys.length, st2) | _, _ => .stuck) b2 _ _ := h2
          split at h2
          · rename_i w xs w' ys e1 e2
            obtain ⟨us, q1, q2⟩ := R1.lst e1 hn
            obtain ⟨ws, q3, q4⟩ := R1.lst e2 hm
            exact ⟨a, c, us, ws, rfl, .inl ⟨q1, q3, h2 α1 H1 _ x1 R1 ⟨a, c, hn, hm, rfl⟩⟩⟩
          · exact h2.elim
        | _ => exact h2.elim
      | _ => cases r2 <;> exact h2.elim
theorem pi_enumI (G : GX F KW mods RX k c X) (hg : Gl X "enumerate") (hp : plainE e = true) (ha : PE X e (te X.K RX W C ia)) {elts : List Expr} {kk : Nat} :
    PI X (.Tuple elts kk tpos) (.Call (.Name "enumerate" p) [e] [] pos) (ti X.K RX W C (.enum ia)) := by
  have hs : starEach [e] X.env = [(false, eval e X.env)] := star_plain (es := []) hp
  refine ⟨fun pins s σ H R I h => ?_⟩
  obtain ⟨α, st, b, env, Re, E, h⟩ := h
  have key : ta X.K RX W C (.cons ia .nil) σ H (fun vs H1 => ∃ a, vs = [.ref a] ∧ (((∃ xs, SqL X.K H1 a xs) ∧ R (Ite X.K a) H1) ∨ ((∃ xs, SqT X.K H1 a xs) ∧ R (IteT X.K a) H1))) := by
    have h : Tri ((mbind (ev C ia env) fun x => fun st => match x with
      | .tup xs => .ret (Pl.enumT xs, st)
      | .ref n => (match st[n]? with
        | some (.lst _ xs) => .ret (.enumL n xs.length, st)
        | _ => .stuck)
      | _ => .stuck) st) b (fun b' p => ∀ α' H' J, Ext X.K α H α' H' → Rel X.K α' H' p.2 b' → PlJ X.K α' H' p.1 J → R J H') (PostX X.K RX W σ α H) := h
    refine ⟨α, st, b, env, Re, E, tri_bind.mpr (tri_mono (tri_bind.mp h) (fun b1 p _ h1 => ?_) fun _ _ _ _ q => q)⟩
    obtain ⟨d, st1⟩ := p
    show PostA X.K α H _ b1 ([d], st1)
    intro α1 H1 vs x1 R1 rs
    cases rs with
    | cons r rs =>
      cases rs
      cases r with
      | tup q rs => exact ⟨_, rfl, .inr ⟨⟨_, q.sq⟩, h1 α1 H1 _ x1 R1 ⟨_, _, q.sq, rs, rfl⟩⟩⟩
      | ref hn =>
        rename_i n a
        have h1 : Tri (match st1[n]? with | some (.lst _ xs) => T.ret (Pl.enumL n xs.length, st1) | _ => .stuck) b1 _ _ := h1
        split at h1
        · rename_i w xs e1
          obtain ⟨vs, q1, q2⟩ := R1.lst e1 hn
          exact ⟨a, rfl, .inl ⟨⟨vs, q1⟩, h1 α1 H1 _ x1 R1 ⟨a, hn, rfl⟩⟩⟩
        · exact h1.elim
      | _ => exact h1.elim
  have pa : PA X [e] (ta X.K RX W C (.cons ia .nil)) := pa_consI hp ha pa_nilI
  refine Call_ (ld_blt I hg (G.gd.blt "enumerate" (by decide)) boot_enumerate (PyProof.Rows.callWith_type1 (thn (pa.run pos pins s σ H _ I key) fun us s1 ⟨vs, H1, I1, r1, q1⟩ => ?_) hs rfl))
  obtain ⟨a, rfl, q1⟩ := q1
  cases r1 with
  | cons r rr =>
    cases rr
    cases r
    have fp : ∀ b ∈ [s1.heap.objs.size + 1, s1.heap.objs.size], FpOk X pins H1 b := by
      intro b hb
      have hle : s1.heap.objs.size ≤ b := by
        have e' : b = s1.heap.objs.size + 1 ∨ b = s1.heap.objs.size := by simpa using hb
        rcases e' with z | z
        · rw [z]
          exact Nat.le_add_right _ _
        · rw [z]
          exact Nat.le_refl _
      exact I1.fpOk hle (I1.hok.fresh hle)
    rcases q1 with ⟨⟨xs, q⟩, hR⟩ | ⟨⟨xs, q⟩, hR⟩
    · obtain ⟨its, rv, p', hz⟩ := I1.list q
      refine call_enumerate_list p'.isList fun h' he hit hsz hk => wpAny_pyIter_enum he ?_
      refine ⟨s1.heap.objs.size + 1, [s1.heap.objs.size + 1, s1.heap.objs.size], _, _, H1, rfl, I1.kept (t' := s1.toks) hk, turn_enum a _ _, ?_, fp, hR⟩
      exact ⟨⟨.none, he⟩, hit, Nat.succ_ne_self _⟩
    · obtain ⟨its, rv, p', hz⟩ := I1.tuple q
      refine call_enum1 (begins_tuple a its.toArray) (show s1.heap.IsTuple a its.toArray from p') fun h' he hit hsz hk => wpAny_pyIter_enum he ?_
      refine ⟨s1.heap.objs.size + 1, [s1.heap.objs.size + 1, s1.heap.objs.size], _, _, H1, rfl, I1.kept (t' := s1.toks) hk, turn_enumT a _ _, ?_, fp, hR⟩
      exact ⟨⟨.none, he⟩, ⟨_, hit, rfl, rfl⟩, Nat.succ_ne_self _⟩

/-! ### comprehensions -/
def WF : WX := fun _ _ _ _ => False
/-- a comprehension's test -/
def tcI (K : PySem.W.Frag) (RX : XRel) (C : Cfg) (o : IO) : TT := fun σ H Q => ∃ α st b env, Rel K α H st b ∧ REnv K α H env σ ∧ Tri (evC C o env st) b (PostC K α H Q) (PostX K RX WF σ α H)
theorem pts_noneI : PTs X [] (tcI X.K RX C .none) := ⟨fun s pins σ H Q I h => by
  obtain ⟨α, st, b, env, R, E, h⟩ := h
  exact pts_nil.run s pins σ H Q I (h α H (.refl _ _) R)⟩
theorem pts_someI (h : PT X e (tt X.K RX WF C ia)) : PTs X [e] (tcI X.K RX C (.some ia)) := pts_one h
theorem pe_lcI {elt iter : Expr} {ifs : List Expr} {scope : Scope} {own : List (Str × Nat)} {tgi : ITg} {it : IIt} {cn : IO} (G : GX F KW mods RX k c X) (ok : BlkOk X.N X.env.scope scope own) (hown : ∀ i ∈ tgSlots tgi, i ∈ own.map (·.2))
    (hi : PI X tg iter (ti X.K RX W C it)) (hg : ∀ (s : Shared) (H : Hp) (C' : Addr) (cl : List (Str × Addr)) (fp : List Addr), PG (X.blk s H scope (compEnvC scope cl C' X.env) fp) tg (tgI X.K tgi))
    (ht : ∀ (s : Shared) (H : Hp) (C' : Addr) (cl : List (Str × Addr)) (fp : List Addr), PTs (X.blk s H scope (compEnvC scope cl C' X.env) fp) ifs (tcI X.K RX C cn))
    (he : ∀ (s : Shared) (H : Hp) (C' : Addr) (cl : List (Str × Addr)) (fp : List Addr), PE (X.blk s H scope (compEnvC scope cl C' X.env) fp) elt (te X.K RX WF C ia)) (hp : plainE iter = true) :
    PE X (.ListComp elt [⟨tg, iter, ifs, 0⟩] scope pos) (tLc (ti X.K RX W C it) (tgI X.K tgi) (tcI X.K RX C cn) (te X.K RX WF C ia) (own.map (·.2))) :=
  pe_lc G.calm G.nd hi ok hg ht he (folded_plain hp)
/-- what a turn of a comprehension does -/
def lcTurn (C : Cfg) (tgi : ITg) (cn : IO) (ia : IE) (vs : List Nat) (env : Evr) : D → M (Option D) := fun x => match bindTg tgi x (wipeE env vs) with
  | none => mstuck
  | some env' => mbind (evC C cn env') fun k => match k with
    | false => mret none
    | true => mbind (ev C ia env') fun y => mret (some y)
theorem lc_read {own : List (Str × Nat)} {tgi : ITg} {it : IIt} {cn : IO} {K : PySem.W.Frag} (hown : ∀ i ∈ tgSlots tgi, i ∈ own.map (·.2)) {σ : L2.St} {H : Hp} {Q : VK} (h : te K RX W C (.lc own tgi it cn ia) σ H Q) :
    tLc (ti K RX W C it) (tgI K tgi) (tcI K RX C cn) (te K RX WF C ia) (own.map (·.2)) σ H Q := by
  obtain ⟨α, st, b, env, Re, E, h⟩ := h
  have h : Tri ((mbind (evIt C it env) fun pl => fun st => (lcLoop (lcTurn C tgi cn ia (own.map (·.2)) env) pl st.length (plLen pl) 0 (st ++ [.lst true []])).bind fun p => .ret (D.ref st.length, p.2)) st) b (PostV K α H Q) (PostX K RX W σ α H) := h
  refine ti_then Re E h fun α1 H1 st1 b1 pl J x1 R1 E1 pj h1 => ?_
  intro Da hD
  have h1 := tri_bind.mp h1
  clear h
  have hD0 : (α1 ++ [Da])[st1.length]? = some Da := R1.last
  refine ⟨fun i m H2 => ∃ α2 st2 b2, Ext K (α1 ++ [Da]) (upd H1 Da (.lst [])) α2 H2 ∧ Rel K α2 H2 st2 b2 ∧ i + m = plLen pl ∧
    Tri (lcLoop (lcTurn C tgi cn ia (own.map (·.2)) env) pl st1.length m i st2) b2 (fun b' p => PostV K α H Q b' (D.ref st1.length, p.2)) (PostX K RX W σ α1 H1),
    ⟨plLen pl, α1 ++ [Da], _, b1, .refl _ _, R1.newL hD .nil, by omega, h1⟩, ?_⟩
  rintro i m H2 ⟨α2, st2, b2, x2, R2, him, h2⟩
  have xD : Ext K α1 H1 (α1 ++ [Da]) (upd H1 Da (.lst [])) := ext_newA hD
  have x12 : Ext K α1 H1 α2 H2 := xD.trans x2
  have pj2 := pj.ext x12
  have hD2 : α2[st1.length]? = some Da := x2.pre _ _ hD0
  cases m with
  | zero =>
    obtain ⟨hc, h2⟩ := tri_mif h2
    have hi : i = plLen pl := by omega
    refine .inl ⟨plJ_stop R2 pj2 hc hi, ?_⟩
    exact h2 α2 H2 _ (x1.trans x12) R2 (.ref hD2)
  | succ m =>
    have h2 : Tri (match plItem st2 pl i with
      | none => T.stuck
      | some x => (lcTurn C tgi cn ia (own.map (·.2)) env x st2).nox.bind fun p => match p.1 with
        | none => lcLoop (lcTurn C tgi cn ia (own.map (·.2)) env) pl st1.length m (i + 1) p.2
        | some y => match p.2[st1.length]? with
          | some (.lst true xs) => (match fits (xs.length + 1) with
            | true => lcLoop (lcTurn C tgi cn ia (own.map (·.2)) env) pl st1.length m (i + 1) (p.2.set st1.length (.lst true (xs ++ [y])))
            | false => .stuck)
          | _ => .stuck) b2 _ _ := h2
    cases ex : plItem st2 pl i with
    | none =>
      rw [ex] at h2
      exact h2.elim
    | some x =>
      rw [ex] at h2
      have h2 := tri_bind.mp h2
      obtain ⟨go, gv⟩ := plJ_go R2 pj2 ex
      refine .inr ⟨go, fun H3 => ∃ m', m' < m + 1 ∧ ∃ α2 st2 b2, Ext K (α1 ++ [Da]) (upd H1 Da (.lst [])) α2 H3 ∧ Rel K α2 H3 st2 b2 ∧ (i + 1) + m' = plLen pl ∧
        Tri (lcLoop (lcTurn C tgi cn ia (own.map (·.2)) env) pl st1.length m' (i + 1) st2) b2 (fun b' p => PostV K α H Q b' (D.ref st1.length, p.2)) (PostX K RX W σ α1 H1), fun H3 q => q, fun v H3 hy => ?_⟩
      obtain ⟨x3, R3, r3⟩ := gv v H3 hy
      have h3 : Tri (lcTurn C tgi cn ia (own.map (·.2)) env x st2) b2 _ (PostX K RX WF σ α1 H1) := tri_nox h2
      unfold lcTurn at h3
      cases eb : bindTg tgi x (wipeE env (own.map (·.2))) with
      | none =>
        rw [eb] at h3
        exact h3.elim
      | some env' =>
        rw [eb] at h3
        have h3 := tri_bind.mp h3
        have E3 : REnv K α2 H3 (wipeE env (own.map (·.2))) (L2.wipe σ (own.map (·.2))) := ((E1.ext x12).ext x3).wipe _
        refine tgI_of E3 r3 eb fun σ' E4 hs => ?_
        obtain ⟨us, rfl⟩ := hs
        refine ⟨by rw [wipe_setSg hown, wipe_idem], α2, st2, b2, env', R3, E4, tri_mono h3 (fun b4 p _ h4 α4 H4 x4 R4 => ?_) fun _ _ _ _ q => ?_⟩
        · obtain ⟨kk, st4⟩ := p
          cases kk with
          | false =>
            refine iteF ⟨m, Nat.lt_succ_self _, α4, st4, b4, (x2.trans x3).trans x4, R4, by omega, ?_⟩
            exact h4
          | true =>
            have h4 := tri_bind.mp h4
            refine iteT ⟨α4, st4, b4, env', R4, E4.ext x4, tri_mono h4 (fun b5 p _ h5 α5 H5 y x5 R5 r5 => ?_) fun _ _ _ _ q => ?_⟩
            · obtain ⟨yd, st5⟩ := p
              have hD5 : α5[st1.length]? = some Da := x5.pre _ _ (x4.pre _ _ hD2)
              have h5 : Tri (match st5[st1.length]? with
                | some (.lst true xs) => (match fits (xs.length + 1) with
                  | true => lcLoop (lcTurn C tgi cn ia (own.map (·.2)) env) pl st1.length m (i + 1) (st5.set st1.length (.lst true (xs ++ [yd])))
                  | false => T.stuck)
                | _ => T.stuck) b5 (fun b' p => PostV K α H Q b' (D.ref st1.length, p.2)) (PostX K RX W σ α1 H1) := h5
              split at h5
              · rename_i xs e5
                split at h5
                · rename_i hf
                  obtain ⟨acc, q1, q2⟩ := R5.lstW e5 hD5
                  refine ⟨acc, q1, by rw [← q2.length]; exact fits_lt hf, m, Nat.lt_succ_self _, α5, _, b5, (((x2.trans x3).trans x4).trans x5).trans (ext_upd q1), R5.setL e5 hD5 (q2.append (.cons r5 .nil)), by omega, h5⟩
                · exact h5.elim
              · exact h5.elim
            · intro a1 H' cls d e R' rx
              exact q a1 H' cls d ((((x12.trans x3).trans x4).trans (.refl _ _)).trans e) R' rx
        · intro a1 H' cls d e R' rx
          exact q a1 H' cls d ((x12.trans x3).trans e) R' rx
end
end DI
end
section
namespace DI
open PySem L2 PySem.Spec
open PyProof.Rows hiding St
/-! ### isinstance of built-in types -/
def tyNames : List String := ["int", "bool", "str", "list", "tuple"]
theorem kit_all : ∀ a ∈ ["NoneType", "bool", "int", "str", "tuple", "list"], ∀ t ∈ tyNames, kitB a t = some (isTy a t) := by decide +kernel
theorem boot_all : ∀ t ∈ tyNames, bootBuiltins (Str.ofString t) = some (.type t) ∧ Str.ofString t ≠ "__name__" ∧ (Str.ofString t == ("__debug__" : Str)) = false := by decide +kernel
theorem names_all : ∀ t ∈ tyNames, Str.ofString t ∈ bltNames := by decide +kernel
/-- the types that a class argument names -/
def okTy (c : CC) (t : String) : Expr → Bool
  | .Name x _ => decide (x = Str.ofString t) && glB c x && tyNames.contains t
  | _ => false
def okTys (c : CC) : List String → List Expr → Bool
  | [], [] => true
  | t :: ts, e :: es => okTy c t e && okTys c ts es
  | _, _ => false
section
variable {X : Cx} {RX : XRel} {W : WX} {C : Cfg} {F : Tab} {KW : KwTab} {mods : List (Str × GV)} {k : Nat} {c : CC} {e e1 e2 e3 : Expr} {ia ib : IE} {is : IEs} {pos p tpos : Pos} {tg : Expr}
theorem ty_of {K : PySem.W.Frag} {α : List Addr} {H : Hp} {st : Store} {b : Nat} {d : D} {v : V} {a : String} (R : Rel K α H st b) (r : RD K α H d v) (h : tyD st d = some a) : TyX K H v (.type a) ∧ a ∈ ["NoneType", "bool", "int", "str", "tuple", "list"] := by
  cases r with
  | non => cases h; exact ⟨.base .non, by decide⟩
  | bl _ => cases h; exact ⟨.base (.bl _), by decide⟩
  | int _ => cases h; exact ⟨.base (.int _), by decide⟩
  | str _ => cases h; exact ⟨.base (.str _), by decide⟩
  | pr _ _ _ => cases h
  | tup q rs =>
    cases h
    refine ⟨?_, by decide⟩
    rcases q.sq with (q | ⟨o, q⟩) | ⟨o, its, n, h1, h2, _⟩
    · exact .base (.tup q)
    · exact .fTuple q
    · exact .kTuple h1 h2
  | @ref n a hn =>
    have h : (match st[n]? with | some (.lst _ _) => some "list" | _ => none) = some _ := h
    split at h
    · rename_i w xs e
      cases h
      refine ⟨?_, by decide⟩
      obtain ⟨vs, q, _⟩ := R.lst e hn
      rcases q with (q | ⟨o, q⟩) | ⟨o, its, n, h1, h2, _⟩
      · exact .base (.lst q)
      · exact .base (.frz q)
      · exact .kList h1 h2
    · cases h
theorem pe_ty (G : GX F KW mods RX k c X) {t : String} {e : Expr} (h : okTy c t e = true) : PE X e (tC (.ty t)) ∧ plainE e = true := by
  cases e with
  | Name x q =>
    obtain ⟨h12, h3⟩ := Bool.and_eq_true_iff.mp (show (decide (x = Str.ofString t) && glB c x && tyNames.contains t) = true from h)
    obtain ⟨h1, h2⟩ := Bool.and_eq_true_iff.mp h12
    have h1 := of_decide_eq_true h1
    subst h1
    have hm : t ∈ tyNames := List.contains_iff_mem.mp h3
    obtain ⟨b1, b2, b3⟩ := boot_all t hm
    exact ⟨pe_bltn (G.gl h2) (G.gd.blt _ (names_all t hm)) b1 rfl b2 b3, rfl⟩
  | _ => cases h
def tyArgs : List String → TA
  | [] => tNil
  | t :: ts => tCons (tC (.ty t)) (tyArgs ts)
theorem pa_tys (G : GX F KW mods RX k c X) : ∀ {ts : List String} {es : List Expr}, okTys c ts es = true → PA X es (tyArgs ts) ∧ plainEs es = true
  | [], [], _ => ⟨pa_nil, rfl⟩
  | [], _ :: _, h => by cases h
  | _ :: _, [], h => by cases h
  | t :: ts, e :: es, h => by
    obtain ⟨h1, h2⟩ := Bool.and_eq_true_iff.mp (show (okTy c t e && okTys c ts es) = true from h)
    obtain ⟨q1, q2⟩ := pe_ty G h1
    obtain ⟨q3, q4⟩ := pa_tys G h2
    exact ⟨pa_cons q1 q3 (star_plain q2), by show (plainE e && es.all plainE) = true; rw [q2]; exact q4⟩
theorem tyArgs_run : ∀ {ts : List String} {σ : L2.St} {H : Hp} {Q : List V → Hp → Prop}, Q (ts.map V.ty) H → tyArgs ts σ H Q
  | [], _, _, _, q => q
  | t :: ts, σ, H, Q, q => tyArgs_run (ts := ts) (Q := fun xs H2 => Q (V.ty t :: xs) H2) q
theorem okTys_mem : ∀ {ts : List String} {es : List Expr} {c : CC}, okTys c ts es = true → ∀ t ∈ ts, t ∈ tyNames
  | [], _, _, _, t, ht => by cases ht
  | _ :: _, [], _, h, _, _ => by cases h
  | t :: ts, e :: es, c, h, u, hu => by
    obtain ⟨h1, h2⟩ := Bool.and_eq_true_iff.mp (show (okTy c t e && okTys c ts es) = true from h)
    rcases List.mem_cons.mp hu with rfl | hu
    · cases e with
      | Name x q =>
        obtain ⟨_, h3⟩ := Bool.and_eq_true_iff.mp (show (decide (x = Str.ofString u) && glB c x && tyNames.contains u) = true from h1)
        exact List.contains_iff_mem.mp h3
      | _ => cases h1
    · exact okTys_mem h2 u hu
theorem kit_any {K : PySem.W.Frag} {a : String} (ha : a ∈ ["NoneType", "bool", "int", "str", "tuple", "list"]) : ∀ {ts : List String}, (∀ t ∈ ts, t ∈ tyNames) → PySem.W.kitAny K (.type a) (ts.map Value.type) = some (ts.any (isTy a))
  | [], _ => kitAny_nil
  | t :: ts, h => by
    refine kitAny_cons (kit_ty (kit_all a ha t (h t List.mem_cons_self))) (fun e => ?_) fun e => ?_
    · rw [kit_any ha fun u hu => h u (List.mem_cons_of_mem _ hu), List.any_cons, e] <;> rfl
    · rw [List.any_cons, e] <;> rfl
theorem paired_ty : ∀ ts : List String, Paired ClsV (ts.map V.ty) (ts.map Value.type)
  | [] => .nil
  | t :: ts => .cons (.ty t) (paired_ty ts)
theorem pe_isiT (G : GX F KW mods RX k c X) (hg : Gl X "isinstance") {ts : List String} {es : List Expr} {kk : Nat} (h : okTys c ts es = true) (hp : plainE e = true) (hf : fits ts.length = true) (ha : PE X e (te X.K RX W C ia)) :
    PE X (.Call (.Name "isinstance" p) [e, .Tuple es kk tpos] [] pos) (te X.K RX W C (.isi ia ts)) := by
  obtain ⟨q1, q2⟩ := pa_tys G h
  have q3 : PE X (.Tuple es kk tpos) (tTup (tyArgs ts)) := pe_tup q1
  refine PE.imp (pe_callB call_isiT hg (G.gd.blt "isinstance" (by decide)) (by decide +kernel) (pa_cons ha (pa_cons q3 pa_nil rfl) (star_plain hp)) (by decide) (by decide) (star_plain hp) rfl) fun σ H Q h' => ?_
  obtain ⟨α, st, b, env, R, E, h'⟩ := h'
  refine te_then R E h' fun α1 H1 v st1 b1 d x1 R1 E1 r1 h1 => ?_
  refine tyArgs_run ⟨by rw [List.length_map]; exact fits_le hf, fun tp htp => ?_⟩
  have h1 : Tri (mopt ((tyD st1 d).map fun a => D.bl (ts.any (isTy a))) st1) b1 _ _ := h1
  obtain ⟨r, e1, h1⟩ := tri_mopt h1
  cases e2 : tyD st1 d with
  | none =>
    rw [e2] at e1
    cases e1
  | some a =>
    rw [e2] at e1
    cases e1
    have x2 : Ext X.K α1 H1 α1 (upd H1 tp (.tup (ts.map V.ty))) := ext_new htp
    have R2 := R1.newT (o := .tup (ts.map V.ty)) htp
    obtain ⟨t1, t2⟩ := ty_of R2 (r1.ext x2) e2
    refine ⟨v, tp, _, _, _, _, rfl, upd_same, paired_ty ts, t1, kit_any t2 (okTys_mem h), ?_⟩
    exact PostV.here R2 (.bl _) (PostV.ext (x1.trans x2) h1)
theorem pe_isi1 (G : GX F KW mods RX k c X) (hg : Gl X "isinstance") {t : String} (h : okTy c t e2 = true) (hp : plainE e = true) (ha : PE X e (te X.K RX W C ia)) :
    PE X (.Call (.Name "isinstance" p) [e, e2] [] pos) (te X.K RX W C (.isi ia [t])) := by
  obtain ⟨q1, q2⟩ := pe_ty G h
  have hm : t ∈ tyNames := okTys_mem (ts := [t]) (es := [e2]) (c := c) (by show (okTy c t e2 && true) = true; rw [h] <;> rfl) t List.mem_cons_self
  refine PE.imp (pe_callB call_isi hg (G.gd.blt "isinstance" (by decide)) (by decide +kernel) (pa_cons ha (pa_cons q1 pa_nil (star_plain q2)) (star_plain hp)) (by decide) (by decide) (star_plain hp) (back_any (es := [e2]) (by show (plainE e2 && true) = true; rw [q2] <;> rfl))) fun σ H Q h' => ?_
  obtain ⟨α, st, b, env, R, E, h'⟩ := h'
  refine te_then R E h' fun α1 H1 v st1 b1 d x1 R1 E1 r1 h1 => ?_
  have h1 : Tri (mopt ((tyD st1 d).map fun a => D.bl ([t].any (isTy a))) st1) b1 _ _ := h1
  obtain ⟨r, e1, h1⟩ := tri_mopt h1
  cases e2 : tyD st1 d with
  | none =>
    rw [e2] at e1
    cases e1
  | some a =>
    rw [e2] at e1
    cases e1
    obtain ⟨t1, t2⟩ := ty_of R1 r1 e2
    refine ⟨v, .ty t, _, _, _, rfl, .ty t, t1, kit_ty (kit_all a t2 t hm), ?_⟩
    have q := PostV.here R1 (.bl _) (PostV.ext x1 h1)
    rw [List.any_cons, List.any_nil, Bool.or_false] at q
    exact q

/-! ### list(range(n)), tuple(range(n)) -/
theorem rg_of {K : PySem.W.Frag} {α : List Addr} {H : Hp} (n : Int) : RDs K α H (rgItems n.toNat) (rgV 0 n) := by
  unfold rgItems rgV
  rw [Int.sub_zero]
  generalize List.range n.toNat = l
  induction l with
  | nil => exact .nil
  | cons x l ih =>
    refine .cons ?_ ih
    show RD K α H (.int (x : Int)) (.int (0 + (x : Int)))
    rw [Int.zero_add]
    exact .int _
theorem pe_listRI (G : GX F KW mods RX k c X) (hg : Gl X "list") (hg2 : Gl X "range") (hp : plainE e = true) (ha : PE X e (te X.K RX W C ia)) {p2 pos2 : Pos} :
    PE X (.Call (.Name "list" p) [.Call (.Name "range" p2) [e] [] pos2] [] pos) (te X.K RX W C (.lr ia)) := by
  refine PE.imp (pe_listRg G.calm hg (G.gd.blt "list" (by decide)) (prg_1 hg2 (G.gd.blt "range" (by decide)) ha (star_plain hp)) rfl) fun σ H Q h => ?_
  obtain ⟨α, st, b, env, R, E, h⟩ := h
  refine te_then R E h fun α1 H1 v st1 b1 d x1 R1 E1 r1 h1 => ?_
  cases r1 with
  | int n =>
    obtain ⟨hc, h1⟩ := tri_mif h1
    obtain ⟨c1, c2⟩ := Bool.and_eq_true_iff.mp hc
    have c1 := of_decide_eq_true c1
    have c2 := of_decide_eq_true c2
    refine ⟨n, rfl, ⟨by omega, by omega, by omega, by omega, by omega⟩, ?_⟩
    exact PostV.newL R1 (rg_of n) (PostV.ext x1 h1)
  | _ => exact h1.elim
theorem pe_tupRI (G : GX F KW mods RX k c X) (hg : Gl X "tuple") (hg2 : Gl X "range") (hp : plainE e = true) (ha : PE X e (te X.K RX W C ia)) {p2 pos2 : Pos} :
    PE X (.Call (.Name "tuple" p) [.Call (.Name "range" p2) [e] [] pos2] [] pos) (te X.K RX W C (.tr ia)) := by
  refine PE.imp (mk_range G.calm hg (G.gd.blt "tuple" (by decide)) (prg_1 hg2 (G.gd.blt "range" (by decide)) ha (star_plain hp)) rfl) fun σ H Q h => ?_
  obtain ⟨α, st, b, env, R, E, h⟩ := h
  refine te_then R E h fun α1 H1 v st1 b1 d x1 R1 E1 r1 h1 => ?_
  cases r1 with
  | int n =>
    obtain ⟨hc, h1⟩ := tri_mif h1
    obtain ⟨c1, c2⟩ := Bool.and_eq_true_iff.mp hc
    have c1 := of_decide_eq_true c1
    have c2 := of_decide_eq_true c2
    refine ⟨n, rfl, ⟨by omega, by omega, by omega, by omega, by omega⟩, ?_⟩
    exact PostV.newT R1 (rg_of n) (PostV.ext x1 h1)
  | _ => exact h1.elim

/-! ### methods -/
def mthTy : Mth → String
  | .upper => "str"
  | .index => "tuple"
  | _ => "list"
def mthName : Mth → Str
  | .append => "append"
  | .insert => "insert"
  | .pop => "pop"
  | .popAt => "pop"
  | .index => "index"
  | .upper => "upper"
theorem Rel.sq {K : PySem.W.Frag} {α : List Addr} {H : Hp} {st : Store} {b : Nat} (R : Rel K α H st b) {n : Nat} {a : Addr} (hn : α[n]? = some a) : ∃ xs, SqL K H a xs := by
  have hl : n < st.length := by
    rw [← R.len]
    exact (List.getElem?_eq_some_iff.mp hn).1
  have q := R.at_ n _ a (List.getElem?_eq_getElem hl) hn
  cases e : st[n] with
  | lst w xs =>
    rw [e] at q
    cases w with
    | true =>
      obtain ⟨vs, q, _⟩ := q
      exact ⟨vs, .of q⟩
    | false =>
      obtain ⟨vs, q, _⟩ := q
      exact ⟨vs, q.sq⟩
  | rng =>
    rw [e] at q
    obtain ⟨x, y, z, q, _⟩ := q
    exact ⟨_, .of q⟩
theorem recv_ty {K : PySem.W.Frag} {α : List Addr} {H : Hp} {st : Store} {b : Nat} (R : Rel K α H st b) {m : Mth} {d : D} {v : V} (r : RD K α H d v) (h : recvOk m d = true) (hm : m ≠ .index) : tyV K (mthTy m) v H := by
  cases r with
  | ref hn => cases m <;> first | exact .inl ⟨rfl, R.sq hn⟩ | cases h
  | tup q _ => cases m <;> first | exact absurd rfl hm | cases h
  | str x => cases m <;> first | rfl | cases h
  | _ => cases m <;> cases h
theorem bm_read {m : Mth} (hm : m ≠ .index) {σ : L2.St} {H : Hp} {Q : VK} (h : te X.K RX W C (.meth m ia is) σ H Q) : tBM X.K (mthTy m) (rMt X.K m) (te X.K RX W C ia) (ta X.K RX W C is) σ H Q := by
  obtain ⟨α, st, b, env, R, E, h⟩ := h
  refine te_then R E h fun α1 H1 v st1 b1 d x1 R1 E1 r1 h1 => ?_
  obtain ⟨hc, h1⟩ := tri_mif h1
  refine ⟨recv_ty R1 r1 hc hm, ?_⟩
  refine ta_then R1 E1 h1 fun α2 H2 vs st2 b2 ds x2 R2 E2 r2 h2 => ?_
  exact ⟨α2, st2, b2, d, ds, R2, r1.ext x2, r2, _, tri_mono h2 (fun _ _ _ q => q.ext (x1.trans x2)) fun _ _ _ _ q => q⟩
theorem bm0_read {m : Mth} (hm : m ≠ .index) {σ : L2.St} {H : Hp} {Q : VK} (h : te X.K RX W C (.meth m ia .nil) σ H Q) : tBM0 X.K (mthTy m) (rMt X.K m) (te X.K RX W C ia) σ H Q := by
  obtain ⟨α, st, b, env, R, E, h⟩ := h
  refine te_then R E h fun α1 H1 v st1 b1 d x1 R1 E1 r1 h1 => ?_
  obtain ⟨hc, h1⟩ := tri_mif h1
  refine ⟨recv_ty R1 r1 hc hm, ?_⟩
  exact ⟨α1, st1, b1, d, [], R1, r1, .nil, _, tri_mono h1 (fun _ _ _ q => q.ext x1) fun _ _ _ _ q => q⟩
theorem bmT_read {σ : L2.St} {H : Hp} {Q : VK} (h : te X.K RX W C (.meth .index ia is) σ H Q) : te X.K RX W C ia σ H fun x H1 => (∃ a vs, x = .ref a ∧ PlT X.K H1 a vs) ∧ ta X.K RX W C is σ H1 fun xs H2 => rMt X.K .index x xs H2 Q := by
  obtain ⟨α, st, b, env, R, E, h⟩ := h
  refine te_then R E h fun α1 H1 v st1 b1 d x1 R1 E1 r1 h1 => ?_
  obtain ⟨hc, h1⟩ := tri_mif h1
  refine ⟨?_, ta_then R1 E1 h1 fun α2 H2 vs st2 b2 ds x2 R2 E2 r2 h2 => ⟨α2, st2, b2, d, ds, R2, r1.ext x2, r2, _, tri_mono h2 (fun _ _ _ q => q.ext (x1.trans x2)) fun _ _ _ _ q => q⟩⟩
  cases r1 with
  | tup q _ => exact ⟨_, _, rfl, q⟩
  | _ => cases hc
/-- which methods the calls with and without arguments are -/
def okMth : Mth → Nat → Bool
  | .append, 1 => true
  | .insert, 2 => true
  | .pop, 0 => true
  | .popAt, 1 => true
  | .index, 1 => true
  | .upper, 0 => true
  | _, _ => false
theorem few_of {e : Expr} {es : List Expr} {env : PySem.Env} (h1 : plainE e = true) (h2 : plainEs es = true) (hl : es.length < 5) : ((backTo pos (starEach (e :: es) env)).all (fun x => !x.1) && (backToKw pos (keywordEach [] env)).all (fun x => x.1.isSome)
      && decide ((e :: es).length + ([] : List Keyword).length + (if ([] : List Keyword).isEmpty then 0 else 1) < 30)) = true := by
  rw [back_all (by show (plainE e && es.all plainE) = true; rw [h1]; exact h2), Bool.true_and]
  have q : (backToKw pos (keywordEach [] env)).all (fun x => x.1.isSome) = true := rfl
  rw [q, Bool.true_and]
  refine decide_eq_true ?_
  rw [List.length_cons]
  show es.length + 1 + 0 + (if true = true then 0 else 1) < 30
  rw [if_pos rfl]
  omega
theorem pe_mthI {m : Mth} {es : List Expr} {apos : Pos} (hm : okMth m (es.length + 1) = true) (hlen : es.length < 5) (hb : baseB e1 = true) (hl : (apos.endLine == pos.line) = true) (h1 : plainE e2 = true) (h2 : plainEs es = true) (ho : PE X e1 (te X.K RX W C ia)) (ha : PA X (e2 :: es) (ta X.K RX W C is)) :
    PE X (.Call (.Attribute e1 (mthName m) apos) (e2 :: es) [] pos) (te X.K RX W C (.meth m ia is)) := by
  have few := few_of (pos := pos) (env := X.env) h1 h2 hlen
  cases m with
  | append => exact PE.imp (pe_bm PySem.F.plainAttrs_list PySem.F.slot_list_append PySem.F.type_list_append mt_append_ok ho ha (base_plain hb) few hl (star_plain h1) (back_any h2)) fun σ H Q h => bm_read (by decide) h
  | insert => exact PE.imp (pe_bm PySem.F.plainAttrs_list PySem.F.slot_list_insert PySem.F.type_list_insert mt_insert_ok ho ha (base_plain hb) few hl (star_plain h1) (back_any h2)) fun σ H Q h => bm_read (by decide) h
  | popAt => exact PE.imp (pe_bm PySem.F.plainAttrs_list PySem.F.slot_list_pop PySem.F.type_list_pop mt_popAt_ok ho ha (base_plain hb) few hl (star_plain h1) (back_any h2)) fun σ H Q h => bm_read (by decide) h
  | index => exact PE.imp (mk_meth PySem.F.slot_tuple_index PySem.F.type_tuple_index mt_index_ok ho ha (base_plain hb) few hl (star_plain h1) (back_any h2)) fun σ H Q h => bmT_read h
  | pop => cases hm
  | upper => cases hm
theorem pe_mth0I {m : Mth} {apos : Pos} (hm : okMth m 0 = true) (hb : baseB e1 = true) (hl : (apos.endLine == pos.line) = true) (ho : PE X e1 (te X.K RX W C ia)) :
    PE X (.Call (.Attribute e1 (mthName m) apos) [] [] pos) (te X.K RX W C (.meth m ia .nil)) := by
  cases m with
  | pop => exact PE.imp (pe_bm0 PySem.F.plainAttrs_list PySem.F.slot_list_pop PySem.F.type_list_pop mt_pop_ok ho (base_plain hb) hl) fun σ H Q h => bm0_read (by decide) h
  | upper => exact PE.imp (pe_bm0 PySem.F.plainAttrs_str PySem.F.slot_str_upper PySem.F.type_str_upper mt_upper_ok ho (base_plain hb) hl) fun σ H Q h => bm0_read (by decide) h
  | _ => cases hm
/-! ### built-in functions by name -/
def bltName : Blt → Str
  | .len => "len" | .list => "list" | .tuple => "tuple" | .all => "all" | .any => "any" | .abs => "abs" | .int => "int" | .str => "str" | .repr => "repr" | .min2 => "min" | .max2 => "max"
  | .lcm => "lcm" | .sorted => "sorted"
/-- called plainly by its name -/
def bltPlain : Blt → Bool
  | .lcm => false
  | _ => true
theorem pe_bltI (G : GX F KW mods RX k c X) {f : Blt} {es : List Expr} (hf : bltPlain f = true) (hg : Gl X (bltName f)) (h1 : plainE e = true) (h2 : plainEs es = true) (ha : PA X (e :: es) (ta X.K RX W C is)) :
    PE X (.Call (.Name (bltName f) p) (e :: es) [] pos) (te X.K RX W C (.blt f is)) := by
  have hu : X.A.units + 64 < cLine := G.room.units
  refine PE.imp ?_ fun σ H Q h => cb_read h
  cases f with
  | len => exact pe_callB call_len_ok hg (G.gd.blt "len" (by decide)) PySem.boot_len ha (by decide) (by decide) (star_plain h1) (back_any h2)
  | list => exact pe_callTy call_list_ok hg (G.gd.blt "list" (by decide)) (by decide +kernel) ha (by decide) (by decide) (star_plain h1) (back_any h2)
  | tuple => exact pe_callTy call_tuple_ok hg (G.gd.blt "tuple" (by decide)) (by decide +kernel) ha (by decide) (by decide) (star_plain h1) (back_any h2)
  | all => exact pe_callB (call_all_ok G.calm) hg (G.gd.blt "all" (by decide)) (by decide +kernel) ha (by decide) (by decide) (star_plain h1) (back_any h2)
  | any => exact pe_callB (call_any_ok G.calm) hg (G.gd.blt "any" (by decide)) (by decide +kernel) ha (by decide) (by decide) (star_plain h1) (back_any h2)
  | abs => exact pe_callB call_abs_ok hg (G.gd.blt "abs" (by decide)) (by decide +kernel) ha (by decide) (by decide) (star_plain h1) (back_any h2)
  | int => exact pe_callTy call_int_ok hg (G.gd.blt "int" (by decide)) (by decide +kernel) ha (by decide) (by decide) (star_plain h1) (back_any h2)
  | str => exact pe_callTy call_str_ok hg (G.gd.blt "str" (by decide)) (by decide +kernel) ha (by decide) (by decide) (star_plain h1) (back_any h2)
  | repr => exact pe_callB (call_repr_ok G.guards hu) hg (G.gd.blt "repr" (by decide)) (by decide +kernel) ha (by decide) (by decide) (star_plain h1) (back_any h2)
  | min2 => exact pe_callB (call_min_ok G.calm) hg (G.gd.blt "min" (by decide)) (by decide +kernel) ha (by decide) (by decide) (star_plain h1) (back_any h2)
  | max2 => exact pe_callB (call_max_ok G.calm) hg (G.gd.blt "max" (by decide)) (by decide +kernel) ha (by decide) (by decide) (star_plain h1) (back_any h2)
  | lcm => cases hf
  | sorted => exact pe_callB call_sorted_ok hg (G.gd.blt "sorted" (by decide)) (by decide +kernel) ha (by decide) (by decide) (star_plain h1) (back_any h2)
theorem pe_lcmI (G : GX F KW mods RX k c X) {es : List Expr} (hm : (("lcm" : Str), GV.blt "math.lcm") ∈ mods) (hg : Gl X "lcm") (h1 : plainE e = true) (h2 : plainEs es = true) (ha : PA X (e :: es) (ta X.K RX W C is)) :
    PE X (.Call (.Name "lcm" p) (e :: es) [] pos) (te X.K RX W C (.blt .lcm is)) :=
  PE.imp (pe_callBfun call_lcm_ok hg (by obtain ⟨v, h, e⟩ := G.gd.mods _ _ hm; cases (show v = _ from e); exact h) ha (by decide) (star_plain h1) (back_any h2)) fun σ H Q h => cb_read h
end
end DI
end
section
namespace DI
open PySem L2 PySem.Spec
open PyProof.Rows hiding St
structure Ck where
  F : Tab
  KW : KwTab
  mods : List (Str × GV)
def opB : Operator → Bool
  | .Add | .Sub | .Mult | .FloorDiv | .Mod | .Pow => true
  | _ => false
theorem opB_of {op : Operator} (h : opB op = true) : op = .Add ∨ op = .Sub ∨ op = .Mult ∨ op = .FloorDiv ∨ op = .Mod ∨ op = .Pow := by
  cases op <;> first | (cases h; done) | simp
/-- which may stand as a test -/
def tstB : IE → Bool
  | .ite _ _ _ => false
  | .neg _ => false
  | .and a b => tstB a && tstB b
  | .or a b => tstB a && tstB b
  | .not a => tstB a
  | _ => true
def fnB (F : Tab) (f : Str) : Bool := (F.lookup f).isSome
def dbgB (x : Str) : Bool := !(x == ("__debug__" : Str))
/-- the slice ::-1 -/
def revShape : Expr → Bool
  | .Slice .none .none (.some (.UnaryOp .USub (.Constant (.int i) _ _) _)) _ => decide (i = 1)
  | _ => false
theorem rev_of {f : Expr} (h : revShape f = true) : ∃ k p1 p3 p4, f = .Slice none none (some (.UnaryOp .USub (.Constant (.int 1) k p1) p3)) p4 := by
  unfold revShape at h
  split at h
  · have e := of_decide_eq_true h
    subst e
    exact ⟨_, _, _, _, rfl⟩
  · cases h
/-- one call range(e) -/
def rg1 : List Expr → Option (Str × Expr)
  | [.Call (.Name y _) [e] [] _] => some (y, e)
  | _ => none
theorem rg1_of {es : List Expr} {y : Str} {e : Expr} (h : rg1 es = some (y, e)) : ∃ q2 p2, es = [.Call (.Name y q2) [e] [] p2] := by
  unfold rg1 at h
  split at h
  · cases h
    exact ⟨_, _, rfl⟩
  · cases h
def okBltB (T : Ck) (f : Blt) (x : Str) : Bool := match f with
  | .lcm => decide (x = "lcm") && decide ((("lcm" : Str), GV.blt "math.lcm") ∈ T.mods)
  | f => bltPlain f && decide (x = bltName f)
def oneTy (c : CC) (t : Expr) : List String → Bool
  | [u] => okTy c u t
  | _ => false
def okTyA (c : CC) (ts : List String) (t : Expr) : Bool := match t with
  | .Tuple es _ _ => okTys c ts es && fits ts.length
  | t => oneTy c t ts
def cstrs : IEs → Option (List Str)
  | .nil => some []
  | .cons (.cstr s) es => (cstrs es).map (s :: ·)
  | _ => none
def glT (T : Ck) (x : Str) (is : IEs) : Bool := match cstrs is with
  | some ss => decide ((x, GV.strs ss) ∈ T.mods) && fits ss.length
  | none => false
mutual
def okE (T : Ck) (c : CC) : IE → Expr → Bool
  | .var i, .Name x _ => decide (c.N[i]? = some x) && visB c x && nameB x
  | .cint i, .Constant (.int j) _ _ => decide (i = j)
  | .cstr x, .Constant (.str y) _ _ => decide (x = y)
  | .tup is, .Name x _ => glB c x && dbgB x && glT T x is
  | .cint i, .Name x _ => glB c x && dbgB x && decide ((x, GV.int i) ∈ T.mods)
  | .cstr s, .Name x _ => glB c x && dbgB x && decide ((x, GV.str s) ∈ T.mods)
  | .cbl x, .Constant (.bool y) _ _ => decide (x = y)
  | .cnon, .Constant .none _ _ => true
  | .tup is, .Tuple es _ _ => okEs T c is es
  | .lst is, .List es _ => okEs T c is es
  | .bin op a b, .BinOp e o f _ => decide (op = o) && opB op && okE T c a e && okE T c b f
  | .neg a, .UnaryOp .USub e _ => okE T c a e
  | .cmp op a b, .Compare e [o] [f] _ => decide (op = o) && !behindInMarks op f && okE T c a e && okE T c b f
  | .chain o1 o2 a b d, .Compare e [p1, p2] [f, g] _ => decide (o1 = p1) && decide (o2 = p2) && !lastMarks [o1, o2] [f, g] && okE T c a e && okE T c b f && okE T c d g
  | .and a b, .BoolOp .And [e, f] _ => okE T c a e && okE T c b f
  | .and a b, .BoolOp .And (e :: f :: g :: r) p => okE T c a e && okE T c b (.BoolOp .And (f :: g :: r) p)
  | .or a b, .BoolOp .Or [e, f] _ => okE T c a e && okE T c b f
  | .or a b, .BoolOp .Or (e :: f :: g :: r) p => okE T c a e && okE T c b (.BoolOp .Or (f :: g :: r) p)
  | .not a, .UnaryOp .Not e _ => okE T c a e
  | .ite t a b, .IfExp e f g _ => tstB t && okE T c t e && okE T c a f && okE T c b g
  | .ix a i, .Subscript e f _ => plainE f && okE T c a e && okE T c i f
  | .slice a lo hi, .Subscript e (.Slice l u .none _) _ => okE T c a e && okO T c lo l && okO T c hi u
  | .rev a, .Subscript e f _ => revShape f && okE T c a e
  | .lr a, .Call (.Name x _) es [] _ => decide (x = "list") && glB c x && (match rg1 es with
    | some (y, e) => decide (y = "range") && glB c y && plainE e && okE T c a e
    | none => false)
  | .tr a, .Call (.Name x _) es [] _ => decide (x = "tuple") && glB c x && (match rg1 es with
    | some (y, e) => decide (y = "range") && glB c y && plainE e && okE T c a e
    | none => false)
  | .blt f is, .Call (.Name x _) (e :: es) [] _ => okBltB T f x && glB c x && okEs T c is (e :: es)
  | .isi a ts, .Call (.Name x _) [e, t] [] _ => decide (x = "isinstance") && glB c x && plainE e && okTyA c ts t && okE T c a e
  | .call f is, .Call (.Name x _) es [] _ => decide (x = f) && fnB T.F f && glB c f && dbgB f && okEs T c is es
  | .callK f is ks ws, .Call (.Name x _) es kws _ => decide (x = f) && fnB T.F f && glB c f && dbgB f && decide (kws.map (·.arg) = ks.map some) && decide ((f, is.len, ks) ∈ T.KW) && (kordT T.F f is.len ks).isSome && decide (ws.len = ks.length) && okKs T c ws kws && okEs T c is es
  | .meth m o is, .Call (.Attribute e name apos) es [] pos => okMth m es.length && decide (es.length < 5) && decide (name = mthName m) && baseB e && (apos.endLine == pos.line) && okE T c o e && okEs T c is es
  | .lc own tg it cn a, .ListComp elt [⟨tge, iter, ifs, n⟩] scope _ => decide (n = 0) && blkC c.N c.sc scope own && okTg (c.blk scope) tg tge && (tgSlots tg).all (fun i => (own.map (·.2)).contains i) && plainE iter && okIt T c it tge iter && okC T (c.blk scope) cn ifs && okE T (c.blk scope) a elt
  | _, _ => false
def okEs (T : Ck) (c : CC) : IEs → List Expr → Bool
  | .nil, [] => true
  | .cons a is, e :: es => plainE e && okE T c a e && okEs T c is es
  | _, _ => false
def okKs (T : Ck) (c : CC) : IEs → List Keyword → Bool
  | .nil, [] => true
  | .cons a is, kw :: kws => okE T c a kw.value && okKs T c is kws
  | _, _ => false
def okO (T : Ck) (c : CC) : IO → Option Expr → Bool
  | .none, .none => true
  | .some a, .some e => okE T c a e
  | _, _ => false
def okC (T : Ck) (c : CC) : IO → List Expr → Bool
  | .none, [] => true
  | .some a, [e] => tstB a && okE T c a e
  | _, _ => false
def okIt (T : Ck) (c : CC) : IIt → Expr → Expr → Bool
  | .range1 a, _, .Call (.Name x _) [e] [] _ => decide (x = "range") && glB c x && plainE e && okE T c a e
  | .range2 a b, _, .Call (.Name x _) [e, f] [] _ => decide (x = "range") && glB c x && plainE e && plainE f && okE T c a e && okE T c b f
  | .enum a, .Tuple _ _ _, .Call (.Name x _) [e] [] _ => decide (x = "enumerate") && glB c x && plainE e && okE T c a e
  | .zip a b, .Tuple _ _ _, .Call (.Name x _) [e, f] [] _ => decide (x = "zip") && glB c x && plainE e && plainE f && okE T c a e && okE T c b f
  | .seq a, _, e => okE T c a e
  | _, _, _ => false
end
end DI
end
section
namespace DI
open PySem L2 PySem.Spec
open PyProof.Rows hiding St
theorem and2 {a b : Bool} (h : (a && b) = true) : a = true ∧ b = true := Bool.and_eq_true_iff.mp h
section
variable (T : Ck) (RX : XRel) (k : Nat)
abbrev GXk (c : CC) (X : Cx) : Prop := GX T.F T.KW T.mods RX k c X
/-- an expression that passes the check is read by its run -/
def OkE (ie : IE) : Prop := ∀ (c : CC) (X : Cx) (W : WX), GXk T RX k c X → Takes X W → ∀ e, okE T c ie e = true →
  PE X e (te X.K RX W (cfg T.F k) ie) ∧ (tstB ie = true → PT X e (tt X.K RX W (cfg T.F k) ie)) ∧ (tstB ie = true → ∀ op es p, e = .BoolOp op es p → PW X e (tt X.K RX W (cfg T.F k) ie))
def OkEs (is : IEs) : Prop := ∀ (c : CC) (X : Cx) (W : WX), GXk T RX k c X → Takes X W →
  (∀ es, okEs T c is es = true → PA X es (ta X.K RX W (cfg T.F k) is) ∧ plainEs es = true) ∧ (∀ kws, okKs T c is kws = true → PK X kws (ta X.K RX W (cfg T.F k) is))
def OkO (o : IO) : Prop := ∀ (c : CC) (X : Cx) (W : WX), GXk T RX k c X → Takes X W →
  (∀ e, okO T c o e = true → PO X e (to X.K RX W (cfg T.F k) o)) ∧ (∀ es, okC T c o es = true → W = WF → PTs X es (tcI X.K RX (cfg T.F k) o))
def OkIt (it : IIt) : Prop := ∀ (c : CC) (X : Cx) (W : WX), GXk T RX k c X → Takes X W → ∀ tg e, okIt T c it tg e = true → PI X tg e (ti X.K RX W (cfg T.F k) it)
variable {T RX k}
/-- no and, or: the value, and its truth -/
theorem okE_of {ie : IE} (hp : ∀ c e, okE T c ie e = true → plainT e = true) (h : ∀ (c : CC) (X : Cx) (W : WX), GXk T RX k c X → Takes X W → ∀ e, okE T c ie e = true → PE X e (te X.K RX W (cfg T.F k) ie)) : OkE T RX k ie := by
  intro c X W G tk e he
  have q := h c X W G tk e he
  refine ⟨q, fun _ => pt_truthI (hp c e he) q, fun _ op es p z => ?_⟩
  subst z
  exact absurd (hp c _ he) (by intro z; cases z)
theorem okE_no {ie : IE} (hp : ∀ c op es p, okE T c ie (.BoolOp op es p) = false) (h : ∀ (c : CC) (X : Cx) (W : WX), GXk T RX k c X → Takes X W → ∀ e, okE T c ie e = true → PE X e (te X.K RX W (cfg T.F k) ie) ∧ (tstB ie = true → PT X e (tt X.K RX W (cfg T.F k) ie))) : OkE T RX k ie := by
  intro c X W G tk e he
  obtain ⟨q1, q2⟩ := h c X W G tk e he
  refine ⟨q1, q2, fun _ op es p z => ?_⟩
  subst z
  rw [hp] at he
  cases he
theorem okE_var (i : Nat) : OkE T RX k (.var i) := by
  refine okE_of (fun c e h => by cases e <;> first | rfl | cases h) fun c X W G tk e h => ?_
  cases e with
  | Name x p =>
    obtain ⟨h1, h2⟩ := and2 (show (decide (c.N[i]? = some x) && visB c x && nameB x) = true from h)
    obtain ⟨h3, h4⟩ := and2 h1
    obtain ⟨h5, h6⟩ := and2 (show (!(x == ("__debug__" : Str)) && !(x == ("__classdict__" : Str)) && !(x == ("__name__" : Str))) = true from h2)
    obtain ⟨h7, h8⟩ := and2 h5
    exact pe_varI (by rw [G.N]; exact of_decide_eq_true h3) (G.vis h4) (by simpa using h7) (by simpa using h8)
  | _ => cases h
theorem dbg_of {x : Str} (h : dbgB x = true) : (x == ("__debug__" : Str)) = false := by
  unfold dbgB at h
  simpa using h
theorem evs_cstrs {C : Cfg} {env : Evr} : ∀ {is : IEs} {ss : List Str}, cstrs is = some ss → evs C is env = mret (ss.map D.str)
  | .nil, ss, h => by
    cases h
    rfl
  | .cons e es, ss, h => by
    cases e with
    | cstr s =>
      have h : (cstrs es).map (s :: ·) = some ss := h
      cases e1 : cstrs es with
      | none => rw [e1] at h; cases h
      | some r =>
        rw [e1] at h
        cases h
        show mbind (mret (D.str s)) (fun x => mbind (evs C es env) fun xs => mret (x :: xs)) = _
        rw [evs_cstrs e1]
        rfl
    | _ => cases h
theorem rds_strs {K : PySem.W.Frag} {α : List Addr} {H : Hp} : ∀ ss : List Str, RDs K α H (ss.map D.str) (ss.map V.str)
  | [] => .nil
  | s :: ss => .cons (.str s) (rds_strs ss)
theorem okE_cint (i : Int) : OkE T RX k (.cint i) := by
  refine okE_of (fun c e h => by cases e <;> first | rfl | cases h) fun c X W G tk e h => ?_
  cases e with
  | Constant v n p =>
    cases v with
    | int j =>
      have e := of_decide_eq_true (show decide (i = j) = true from h)
      subst e
      exact pe_intI
    | _ => cases h
  | Name x p =>
    obtain ⟨h1, h2⟩ := and2 (show (glB c x && dbgB x && decide ((x, GV.int i) ∈ T.mods)) = true from h)
    obtain ⟨h3, h4⟩ := and2 h1
    obtain ⟨v, hm, t, rfl⟩ := G.gd.mods _ _ (of_decide_eq_true h2)
    exact PE.imp (pe_glob (v := .int i) (G.gl h3) hm ⟨t, rfl⟩ (dbg_of h4)) fun σ H Q ⟨α, st, b, env, R, E, h⟩ => PostV.here R (.int i) h
  | _ => cases h
theorem okE_cstr (i : Str) : OkE T RX k (.cstr i) := by
  refine okE_of (fun c e h => by cases e <;> first | rfl | cases h) fun c X W G tk e h => ?_
  cases e with
  | Constant v n p =>
    cases v with
    | str j =>
      have e := of_decide_eq_true (show decide (i = j) = true from h)
      subst e
      exact pe_strI
    | _ => cases h
  | Name x p =>
    obtain ⟨h1, h2⟩ := and2 (show (glB c x && dbgB x && decide ((x, GV.str i) ∈ T.mods)) = true from h)
    obtain ⟨h3, h4⟩ := and2 h1
    obtain ⟨v, hm, t, rfl⟩ := G.gd.mods _ _ (of_decide_eq_true h2)
    exact PE.imp (pe_glob (v := .str i) (G.gl h3) hm ⟨t, rfl⟩ (dbg_of h4)) fun σ H Q ⟨α, st, b, env, R, E, h⟩ => PostV.here R (.str i) h
  | _ => cases h
theorem okE_cbl (i : Bool) : OkE T RX k (.cbl i) := by
  refine okE_of (fun c e h => by cases e <;> first | rfl | cases h) fun c X W G tk e h => ?_
  cases e with
  | Constant v n p =>
    cases v with
    | bool j =>
      have e := of_decide_eq_true (show decide (i = j) = true from h)
      subst e
      exact pe_blI
    | _ => cases h
  | _ => cases h
theorem okE_cnon : OkE T RX k .cnon := by
  refine okE_of (fun c e h => by cases e <;> first | rfl | cases h) fun c X W G tk e h => ?_
  cases e with
  | Constant v n p =>
    cases v with
    | none => exact pe_nonI
    | _ => cases h
  | _ => cases h
theorem okE_tup {is : IEs} (ih : OkEs T RX k is) : OkE T RX k (.tup is) := by
  refine okE_of (fun c e h => by cases e <;> first | rfl | cases h) fun c X W G tk e h => ?_
  cases e with
  | Tuple es n p => exact pe_tupI ((ih c X W G tk).1 es h).1
  | Name x p =>
    obtain ⟨h1, h2⟩ := and2 (show (glB c x && dbgB x && glT T x is) = true from h)
    obtain ⟨h3, h4⟩ := and2 h1
    unfold glT at h2
    split at h2
    · rename_i ss hss
      obtain ⟨h5, h6⟩ := and2 h2
      obtain ⟨v, hm, a, o, its, n, rfl, k1, k2, kd, k3, k4, k5⟩ := G.gd.mods _ _ (of_decide_eq_true h5)
      refine PE.imp (pe_glob (v := .ref a) (G.gl h3) hm rfl (dbg_of h4)) fun σ H Q ⟨α, st, b, env, R, E, h⟩ => ?_
      have e : ev (cfg T.F k) (.tup is) env st = .ret (D.tup (ss.map D.str), st) := by
        show mbind (evs _ is env) _ st = _
        rw [evs_cstrs hss]
        show mif (fits (ss.map D.str).length) _ st = _
        rw [List.length_map, h6]
        rfl
      rw [e] at h
      exact PostV.here R (.tup (.inr ⟨o, its, n, k1, k2, kd, k3, k4, k5⟩) (rds_strs ss)) h
    · cases h2
  | _ => cases h
theorem okE_lst {is : IEs} (ih : OkEs T RX k is) : OkE T RX k (.lst is) := by
  refine okE_of (fun c e h => by cases e <;> first | rfl | cases h) fun c X W G tk e h => ?_
  cases e with
  | List es p => exact pe_lstI ((ih c X W G tk).1 es h).1
  | _ => cases h
theorem okE_bin {op : Operator} {a b : IE} (ha : OkE T RX k a) (hb : OkE T RX k b) : OkE T RX k (.bin op a b) := by
  refine okE_of (fun c e h => by cases e <;> first | rfl | cases h) fun c X W G tk e h => ?_
  cases e with
  | BinOp e o f p =>
    obtain ⟨h1, h2⟩ := and2 (show (decide (op = o) && opB op && okE T c a e && okE T c b f) = true from h)
    obtain ⟨h3, h4⟩ := and2 h1
    obtain ⟨h5, h6⟩ := and2 h3
    have e := of_decide_eq_true h5
    subst e
    exact pe_binI (opB_of h6) (ha c X W G tk _ h4).1 (hb c X W G tk _ h2).1
  | _ => cases h
theorem okE_neg {a : IE} (ha : OkE T RX k a) : OkE T RX k (.neg a) := by
  refine okE_no (fun c op es p => rfl) fun c X W G tk e h => ⟨?_, fun z => by cases z⟩
  cases e with
  | UnaryOp o e p =>
    cases o with
    | USub => exact pe_negI (ha c X W G tk _ h).1
    | _ => cases h
  | _ => cases h
theorem okE_cmp {op : CmpOp} {a b : IE} (ha : OkE T RX k a) (hb : OkE T RX k b) : OkE T RX k (.cmp op a b) := by
  refine okE_no (fun c op es p => rfl) fun c X W G tk e h => ?_
  cases e with
  | Compare e os fs p =>
    match os, fs, h with
    | [o], [f], h =>
      obtain ⟨h1, h2⟩ := and2 (show (decide (op = o) && !behindInMarks op f && okE T c a e && okE T c b f) = true from h)
      obtain ⟨h3, h4⟩ := and2 h1
      obtain ⟨h5, h6⟩ := and2 h3
      have e := of_decide_eq_true h5
      subst e
      have hm : behindInMarks op f = false := by simpa using h6
      have pa := (ha c X W G tk _ h4).1
      have pb := (hb c X W G tk _ h2).1
      exact ⟨pe_cmpI (by have := G.room.un; omega) pa pb hm, fun _ => pt_cmpI (by have := G.room.un; omega) pa pb hm⟩
    | [], _, h => cases h
    | _ :: _ :: _, _, h => cases h
    | [_], [], h => cases h
    | [_], _ :: _ :: _, h => cases h
  | _ => cases h
theorem okE_chain {o1 o2 : CmpOp} {a b d : IE} (ha : OkE T RX k a) (hb : OkE T RX k b) (hd : OkE T RX k d) : OkE T RX k (.chain o1 o2 a b d) := by
  refine okE_no (fun c op es p => rfl) fun c X W G tk e h => ?_
  cases e with
  | Compare e os fs p =>
    match os, fs, h with
    | [p1, p2], [f, g], h =>
      obtain ⟨h1, h2⟩ := and2 (show (decide (o1 = p1) && decide (o2 = p2) && !lastMarks [o1, o2] [f, g] && okE T c a e && okE T c b f && okE T c d g) = true from h)
      obtain ⟨h3, h4⟩ := and2 h1
      obtain ⟨h5, h6⟩ := and2 h3
      obtain ⟨h7, h8⟩ := and2 h5
      obtain ⟨h9, h10⟩ := and2 h7
      have e1 := of_decide_eq_true h9
      have e2 := of_decide_eq_true h10
      subst e1
      subst e2
      have hm : lastMarks [o1, o2] [f, g] = false := by simpa using h8
      have pa := (ha c X W G tk _ h6).1
      have pb := (hb c X W G tk _ h4).1
      have pd := (hd c X W G tk _ h2).1
      exact ⟨pe_chainI (by have := G.room.un; omega) pa pb pd hm, fun _ => pt_chainI (by have := G.room.un; omega) pa pb pd hm⟩
    | [], _, h => cases h
    | [_], _, h => cases h
    | [_, _], [], h => cases h
    | [_, _], [_], h => cases h
    | [_, _], _ :: _ :: _ :: _, h => cases h
    | _ :: _ :: _ :: _, _, h => cases h
  | _ => cases h
theorem okE_and {a b : IE} (ha : OkE T RX k a) (hb : OkE T RX k b) : OkE T RX k (.and a b) := by
  intro c X W G tk e h
  cases e with
  | BoolOp op es p =>
    cases op with
    | Or => cases h
    | And =>
      match es, h with
      | [e, f], h =>
        obtain ⟨h1, h2⟩ := and2 (show (okE T c a e && okE T c b f) = true from h)
        have pa := ha c X W G tk _ h1
        have pb := hb c X W G tk _ h2
        have pw : tstB (.and a b) = true → PW X (.BoolOp .And [e, f] p) (tt X.K RX W (cfg T.F k) (.and a b)) := fun z => by
          obtain ⟨z1, z2⟩ := and2 z
          exact pw_andI (pa.2.1 z1) (pw1 (pb.2.1 z2))
        exact ⟨pe_andI pa.1 (pe_one pb.1), fun z => (pw z).pt, fun z op es q eq => by cases eq; exact pw z⟩
      | e :: f :: g :: r, h =>
        obtain ⟨h1, h2⟩ := and2 (show (okE T c a e && okE T c b (.BoolOp .And (f :: g :: r) p)) = true from h)
        have pa := ha c X W G tk _ h1
        have pb := hb c X W G tk _ h2
        have pw : tstB (.and a b) = true → PW X (.BoolOp .And (e :: f :: g :: r) p) (tt X.K RX W (cfg T.F k) (.and a b)) := fun z => by
          obtain ⟨z1, z2⟩ := and2 z
          exact pw_andI (pa.2.1 z1) (pb.2.2 z2 _ _ _ rfl)
        exact ⟨pe_andI pa.1 pb.1, fun z => (pw z).pt, fun z op es q eq => by cases eq; exact pw z⟩
      | [], h => cases h
      | [_], h => cases h
  | _ => cases h
theorem okE_or {a b : IE} (ha : OkE T RX k a) (hb : OkE T RX k b) : OkE T RX k (.or a b) := by
  intro c X W G tk e h
  cases e with
  | BoolOp op es p =>
    cases op with
    | And => cases h
    | Or =>
      match es, h with
      | [e, f], h =>
        obtain ⟨h1, h2⟩ := and2 (show (okE T c a e && okE T c b f) = true from h)
        have pa := ha c X W G tk _ h1
        have pb := hb c X W G tk _ h2
        have pw : tstB (.or a b) = true → PW X (.BoolOp .Or [e, f] p) (tt X.K RX W (cfg T.F k) (.or a b)) := fun z => by
          obtain ⟨z1, z2⟩ := and2 z
          exact pw_orI (pa.2.1 z1) (pw1 (pb.2.1 z2))
        exact ⟨pe_orI pa.1 (pe_one pb.1), fun z => (pw z).pt, fun z op es q eq => by cases eq; exact pw z⟩
      | e :: f :: g :: r, h =>
        obtain ⟨h1, h2⟩ := and2 (show (okE T c a e && okE T c b (.BoolOp .Or (f :: g :: r) p)) = true from h)
        have pa := ha c X W G tk _ h1
        have pb := hb c X W G tk _ h2
        have pw : tstB (.or a b) = true → PW X (.BoolOp .Or (e :: f :: g :: r) p) (tt X.K RX W (cfg T.F k) (.or a b)) := fun z => by
          obtain ⟨z1, z2⟩ := and2 z
          exact pw_orI (pa.2.1 z1) (pb.2.2 z2 _ _ _ rfl)
        exact ⟨pe_orI pa.1 pb.1, fun z => (pw z).pt, fun z op es q eq => by cases eq; exact pw z⟩
      | [], h => cases h
      | [_], h => cases h
  | _ => cases h
theorem okE_not {a : IE} (ha : OkE T RX k a) : OkE T RX k (.not a) := by
  refine okE_no (fun c op es p => rfl) fun c X W G tk e h => ?_
  cases e with
  | UnaryOp o e p =>
    cases o with
    | Not =>
      have q := ha c X W G tk _ h
      exact ⟨pe_notI q.1, fun z => pt_notI (q.2.1 z)⟩
    | _ => cases h
  | _ => cases h
theorem okE_ite {t a b : IE} (ht : OkE T RX k t) (ha : OkE T RX k a) (hb : OkE T RX k b) : OkE T RX k (.ite t a b) := by
  refine okE_no (fun c op es p => rfl) fun c X W G tk e h => ⟨?_, fun z => by cases z⟩
  cases e with
  | IfExp e f g p =>
    obtain ⟨h1, h2⟩ := and2 (show (tstB t && okE T c t e && okE T c a f && okE T c b g) = true from h)
    obtain ⟨h3, h4⟩ := and2 h1
    obtain ⟨h5, h6⟩ := and2 h3
    exact pe_iteI ((ht c X W G tk _ h6).2.1 h5) (ha c X W G tk _ h4).1 (hb c X W G tk _ h2).1
  | _ => cases h
theorem okE_ix {a i : IE} (ha : OkE T RX k a) (hi : OkE T RX k i) : OkE T RX k (.ix a i) := by
  refine okE_of (fun c e h => by cases e <;> first | rfl | cases h) fun c X W G tk e h => ?_
  cases e with
  | Subscript e f p =>
    obtain ⟨h1, h2⟩ := and2 (show (plainE f && okE T c a e && okE T c i f) = true from h)
    obtain ⟨h3, h4⟩ := and2 h1
    exact pe_ixI (ha c X W G tk _ h4).1 (hi c X W G tk _ h2).1 h3
  | _ => cases h
theorem okE_slice {a : IE} {lo hi : IO} (ha : OkE T RX k a) (hl : OkO T RX k lo) (hh : OkO T RX k hi) : OkE T RX k (.slice a lo hi) := by
  refine okE_of (fun c e h => by cases e <;> first | rfl | cases h) fun c X W G tk e h => ?_
  cases e with
  | Subscript e f p =>
    cases f with
    | Slice l u s q =>
      cases s with
      | none =>
        obtain ⟨h1, h2⟩ := and2 (show (okE T c a e && okO T c lo l && okO T c hi u) = true from h)
        obtain ⟨h3, h4⟩ := and2 h1
        exact pe_sliceI (ha c X W G tk _ h3).1 ((hl c X W G tk).1 _ h4) ((hh c X W G tk).1 _ h2)
      | some _ => cases h
    | _ => cases h
  | _ => cases h
end
end DI
end
section
namespace DI
open PySem L2 PySem.Spec
open PyProof.Rows hiding St
section
variable {T : Ck} {RX : XRel} {k : Nat}
theorem fn_ofB {f : Str} (h : fnB T.F f = true) : ∃ fn, T.F.lookup f = some fn := Option.isSome_iff_exists.mp h
theorem okE_rev {a : IE} (ha : OkE T RX k a) : OkE T RX k (.rev a) := by
  refine okE_of (fun c e h => by cases e <;> first | rfl | cases h) fun c X W G tk e h => ?_
  cases e with
  | Subscript e f p =>
    obtain ⟨h1, h2⟩ := and2 (show (revShape f && okE T c a e) = true from h)
    obtain ⟨k1, p1, p3, p4, rfl⟩ := rev_of h1
    exact pe_revI (ha c X W G tk _ h2).1
  | _ => cases h
theorem okE_lr {a : IE} (ha : OkE T RX k a) : OkE T RX k (.lr a) := by
  refine okE_of (fun c e h => by cases e <;> first | rfl | cases h) fun c X W G tk e h => ?_
  cases e with
  | Call fe es kws p =>
    cases fe with
    | Name x q =>
      cases kws with
      | cons _ _ => cases h
      | nil =>
        obtain ⟨h1, h2⟩ := and2 (show (decide (x = "list") && glB c x && (match rg1 es with
          | some (y, e) => decide (y = "range") && glB c y && plainE e && okE T c a e
          | none => false)) = true from h)
        obtain ⟨h3, h4⟩ := and2 h1
        split at h2
        · rename_i y e e1
          obtain ⟨q2, p2, rfl⟩ := rg1_of e1
          obtain ⟨h5, h6⟩ := and2 h2
          obtain ⟨h7, h8⟩ := and2 h5
          obtain ⟨h9, h10⟩ := and2 h7
          have e1 := of_decide_eq_true h3
          have e2 := of_decide_eq_true h9
          subst e1
          subst e2
          exact pe_listRI G (G.gl h4) (G.gl h10) h8 (ha c X W G tk _ h6).1
        · cases h2
    | _ => cases h
  | _ => cases h
theorem okE_tr {a : IE} (ha : OkE T RX k a) : OkE T RX k (.tr a) := by
  refine okE_of (fun c e h => by cases e <;> first | rfl | cases h) fun c X W G tk e h => ?_
  cases e with
  | Call fe es kws p =>
    cases fe with
    | Name x q =>
      cases kws with
      | cons _ _ => cases h
      | nil =>
        obtain ⟨h1, h2⟩ := and2 (show (decide (x = "tuple") && glB c x && (match rg1 es with
          | some (y, e) => decide (y = "range") && glB c y && plainE e && okE T c a e
          | none => false)) = true from h)
        obtain ⟨h3, h4⟩ := and2 h1
        split at h2
        · rename_i y e e1
          obtain ⟨q2, p2, rfl⟩ := rg1_of e1
          obtain ⟨h5, h6⟩ := and2 h2
          obtain ⟨h7, h8⟩ := and2 h5
          obtain ⟨h9, h10⟩ := and2 h7
          have e1 := of_decide_eq_true h3
          have e2 := of_decide_eq_true h9
          subst e1
          subst e2
          exact pe_tupRI G (G.gl h4) (G.gl h10) h8 (ha c X W G tk _ h6).1
        · cases h2
    | _ => cases h
  | _ => cases h
theorem okE_blt {f : Blt} {is : IEs} (ih : OkEs T RX k is) : OkE T RX k (.blt f is) := by
  refine okE_of (fun c e h => by cases e <;> first | rfl | cases h) fun c X W G tk e h => ?_
  cases e with
  | Call fe es kws p =>
    cases fe with
    | Name x q =>
      cases es with
      | nil => cases h
      | cons e es =>
        cases kws with
        | cons _ _ => cases h
        | nil =>
          obtain ⟨h1, h2⟩ := and2 (show (okBltB T f x && glB c x && okEs T c is (e :: es)) = true from h)
          obtain ⟨h3, h4⟩ := and2 h1
          obtain ⟨q1, q2⟩ := (ih c X W G tk).1 _ h2
          obtain ⟨p1, p2⟩ := and2 (show (plainE e && es.all plainE) = true from q2)
          by_cases hl : f = .lcm
          · subst hl
            obtain ⟨h5, h6⟩ := and2 (show (decide (x = "lcm") && decide ((("lcm" : Str), GV.blt "math.lcm") ∈ T.mods)) = true from h3)
            have e1 := of_decide_eq_true h5
            subst e1
            exact pe_lcmI G (of_decide_eq_true h6) (G.gl h4) p1 p2 q1
          · have h3 : (bltPlain f && decide (x = bltName f)) = true := by
              cases f <;> first | exact absurd rfl hl | exact h3
            obtain ⟨h5, h6⟩ := and2 h3
            have e1 := of_decide_eq_true h6
            subst e1
            exact pe_bltI G h5 (G.gl h4) p1 p2 q1
    | _ => cases h
  | _ => cases h
theorem okE_isi {a : IE} {ts : List String} (ha : OkE T RX k a) : OkE T RX k (.isi a ts) := by
  refine okE_of (fun c e h => by cases e <;> first | rfl | cases h) fun c X W G tk e h => ?_
  cases e with
  | Call fe es kws p =>
    cases fe with
    | Name x q =>
      match es, kws, h with
      | [e, t], [], h =>
        obtain ⟨h1, h2⟩ := and2 (show (decide (x = "isinstance") && glB c x && plainE e && okTyA c ts t && okE T c a e) = true from h)
        obtain ⟨h3, h4⟩ := and2 h1
        obtain ⟨h5, h6⟩ := and2 h3
        obtain ⟨h7, h8⟩ := and2 h5
        have e1 := of_decide_eq_true h7
        subst e1
        have pa := (ha c X W G tk _ h2).1
        have one : oneTy c t ts = true → PE X (.Call (.Name "isinstance" q) [e, t] [] p) (te X.K RX W (cfg T.F k) (.isi a ts)) := by
          intro h
          unfold oneTy at h
          split at h
          · exact pe_isi1 G (G.gl h8) h h6 pa
          · cases h
        cases t with
        | Tuple us n tp =>
          obtain ⟨h9, h10⟩ := and2 (show (okTys c ts us && fits ts.length) = true from h4)
          exact pe_isiT G (G.gl h8) h9 h6 h10 pa
        | _ => exact one h4
      | [], _, h => cases h
      | [_], _, h => cases h
      | _ :: _ :: _ :: _, _, h => cases h
      | [_, _], _ :: _, h => cases h
    | _ => cases h
  | _ => cases h
theorem okE_call {f : Str} {is : IEs} (ih : OkEs T RX k is) : OkE T RX k (.call f is) := by
  refine okE_of (fun c e h => by cases e <;> first | rfl | cases h) fun c X W G tk e h => ?_
  cases e with
  | Call fe es kws p =>
    cases fe with
    | Name x q =>
      cases kws with
      | cons _ _ => cases h
      | nil =>
        obtain ⟨h1, h2⟩ := and2 (show (decide (x = f) && fnB T.F f && glB c f && dbgB f && okEs T c is es) = true from h)
        obtain ⟨h3, h4⟩ := and2 h1
        obtain ⟨h5, h6⟩ := and2 h3
        obtain ⟨h7, h8⟩ := and2 h5
        have e1 := of_decide_eq_true h7
        subst e1
        obtain ⟨fn, hF⟩ := fn_ofB h8
        obtain ⟨q1, q2⟩ := (ih c X W G tk).1 _ h2
        cases es with
        | nil =>
          cases is with
          | nil => exact pe_call0I G tk hF (G.gl h6) (dbg_of h4)
          | cons _ _ => cases h2
        | cons e es =>
          obtain ⟨p1, p2⟩ := and2 (show (plainE e && es.all plainE) = true from q2)
          exact pe_callI G tk hF (G.gl h6) (dbg_of h4) p1 p2 q1
    | _ => cases h
  | _ => cases h
theorem okE_callK {f : Str} {is ws : IEs} {ks : List Str} (ih : OkEs T RX k is) (iw : OkEs T RX k ws) : OkE T RX k (.callK f is ks ws) := by
  refine okE_of (fun c e h => by cases e <;> first | rfl | cases h) fun c X W G tk e h => ?_
  cases e with
  | Call fe es kws p =>
    cases fe with
    | Name x q =>
      obtain ⟨h1, h2⟩ := and2 (show (decide (x = f) && fnB T.F f && glB c f && dbgB f && decide (kws.map (·.arg) = ks.map some) && decide ((f, is.len, ks) ∈ T.KW) && (kordT T.F f is.len ks).isSome && decide (ws.len = ks.length) && okKs T c ws kws && okEs T c is es) = true from h)
      obtain ⟨h1, g1⟩ := and2 h1
      obtain ⟨h1, g2⟩ := and2 h1
      obtain ⟨h1, g3⟩ := and2 h1
      obtain ⟨h1, g4⟩ := and2 h1
      obtain ⟨h1, g5⟩ := and2 h1
      obtain ⟨h1, g6⟩ := and2 h1
      obtain ⟨h1, g7⟩ := and2 h1
      obtain ⟨h1, g8⟩ := and2 h1
      have e1 := of_decide_eq_true h1
      subst e1
      obtain ⟨fn, hF⟩ := fn_ofB g8
      obtain ⟨o, ho⟩ := Option.isSome_iff_exists.mp g3
      obtain ⟨q1, q2⟩ := (ih c X W G tk).1 _ h2
      have q3 := (iw c X W G tk).2 _ g1
      cases es with
      | nil =>
        cases is with
        | nil => exact pe_callK0I G tk hF (G.gl g7) (dbg_of g6) (of_decide_eq_true g5) (of_decide_eq_true g4) ho (of_decide_eq_true g2) q3
        | cons _ _ => cases h2
      | cons e es =>
        obtain ⟨p1, p2⟩ := and2 (show (plainE e && es.all plainE) = true from q2)
        exact pe_callKI G tk hF (G.gl g7) (dbg_of g6) (of_decide_eq_true g5) p1 p2 (of_decide_eq_true g4) ho (of_decide_eq_true g2) q1 q3
    | _ => cases h
  | _ => cases h
theorem okE_meth {m : Mth} {o : IE} {is : IEs} (ho : OkE T RX k o) (ih : OkEs T RX k is) : OkE T RX k (.meth m o is) := by
  refine okE_of (fun c e h => by cases e <;> first | rfl | cases h) fun c X W G tk e h => ?_
  cases e with
  | Call fe es kws p =>
    cases fe with
    | Attribute e name apos =>
      cases kws with
      | cons _ _ => cases h
      | nil =>
        obtain ⟨h1, h2⟩ := and2 (show (okMth m es.length && decide (es.length < 5) && decide (name = mthName m) && baseB e && (apos.endLine == p.line) && okE T c o e && okEs T c is es) = true from h)
        obtain ⟨k1, g1⟩ := and2 h1
        obtain ⟨k2, g2⟩ := and2 k1
        obtain ⟨k3, g3⟩ := and2 k2
        obtain ⟨k4, g4⟩ := and2 k3
        obtain ⟨k5, g5⟩ := and2 k4
        clear h h1 k1 k2 k3 k4
        have e1 := of_decide_eq_true g4
        subst e1
        clear g4
        have po := (ho c X W G tk _ g1).1
        obtain ⟨q1, q2⟩ := (ih c X W G tk).1 _ h2
        cases es with
        | nil =>
          cases is with
          | nil => exact pe_mth0I k5 g3 g2 po
          | cons _ _ => cases h2
        | cons f es =>
          obtain ⟨p1, p2⟩ := and2 (show (plainE f && es.all plainE) = true from q2)
          have hl := of_decide_eq_true g5
          exact pe_mthI k5 (by rw [List.length_cons] at hl; omega) g3 g2 p1 p2 po q1
    | _ => cases h
  | _ => cases h
theorem okE_lc {own : List (Str × Nat)} {tg : ITg} {it : IIt} {cn : IO} {a : IE} (hi : OkIt T RX k it) (hc : OkO T RX k cn) (ha : OkE T RX k a) : OkE T RX k (.lc own tg it cn a) := by
  refine okE_of (fun c e h => by cases e <;> first | rfl | cases h) fun c X W G tk e h => ?_
  cases e with
  | ListComp elt gens scope p =>
    match gens, h with
    | [], h => cases h
    | g :: _ :: _, h =>
      obtain ⟨g1, g2, g3, g4⟩ := g
      cases h
    | [⟨tge, iter, ifs, n⟩], h =>
      obtain ⟨h1, h2⟩ := and2 (show (decide (n = 0) && blkC c.N c.sc scope own && okTg (c.blk scope) tg tge && (tgSlots tg).all (fun i => (own.map (·.2)).contains i) && plainE iter && okIt T c it tge iter && okC T (c.blk scope) cn ifs && okE T (c.blk scope) a elt) = true from h)
      obtain ⟨h1, g1⟩ := and2 h1
      obtain ⟨h1, g2⟩ := and2 h1
      obtain ⟨h1, g3⟩ := and2 h1
      obtain ⟨h1, g4⟩ := and2 h1
      obtain ⟨h1, g5⟩ := and2 h1
      obtain ⟨h1, g6⟩ := and2 h1
      have e1 := of_decide_eq_true h1
      subst e1
      have ok : BlkOk X.N X.env.scope scope own := by
        rw [G.N, G.sc]
        exact blkOk_by g6
      have hown : ∀ i ∈ tgSlots tg, i ∈ own.map (·.2) := fun i hi => List.contains_iff_mem.mp (List.all_eq_true.mp g4 i hi)
      refine PE.imp (pe_lcI G ok hown (hi c X W G tk _ _ g2) (fun s H C' cl fp => pg_I (G.blk s H scope cl C' fp) g5) (fun s H C' cl fp => (hc _ _ WF (G.blk s H scope cl C' fp) takes0).2 _ g1 rfl)
        (fun s H C' cl fp => (ha _ _ WF (G.blk s H scope cl C' fp) takes0 _ h2).1) g3) fun σ H Q q => lc_read hown q
  | _ => cases h
theorem okEs_nil : OkEs T RX k .nil := by
  intro c X W G tk
  refine ⟨fun es h => ?_, fun kws h => ?_⟩
  · cases es with
    | nil => exact ⟨pa_nilI, rfl⟩
    | cons _ _ => cases h
  · cases kws with
    | nil => exact pk_nilI
    | cons _ _ => cases h
theorem okEs_cons {a : IE} {is : IEs} (ha : OkE T RX k a) (ih : OkEs T RX k is) : OkEs T RX k (.cons a is) := by
  intro c X W G tk
  refine ⟨fun es h => ?_, fun kws h => ?_⟩
  · cases es with
    | nil => cases h
    | cons e es =>
      obtain ⟨h1, h2⟩ := and2 (show (plainE e && okE T c a e && okEs T c is es) = true from h)
      obtain ⟨h3, h4⟩ := and2 h1
      obtain ⟨q1, q2⟩ := (ih c X W G tk).1 _ h2
      exact ⟨pa_consI h3 (ha c X W G tk _ h4).1 q1, by show (plainE e && es.all plainE) = true; rw [h3]; exact q2⟩
  · cases kws with
    | nil => cases h
    | cons kw kws =>
      obtain ⟨h1, h2⟩ := and2 (show (okE T c a kw.value && okKs T c is kws) = true from h)
      obtain ⟨nm, v, p⟩ := kw
      exact pk_consI (ha c X W G tk _ h1).1 ((ih c X W G tk).2 _ h2)
theorem okO_none : OkO T RX k .none := by
  intro c X W G tk
  refine ⟨fun e h => ?_, fun es h z => ?_⟩
  · cases e with
    | none => exact po_noneI
    | some _ => cases h
  · cases es with
    | nil => exact pts_noneI
    | cons _ _ => cases h
theorem okO_some {a : IE} (ha : OkE T RX k a) : OkO T RX k (.some a) := by
  intro c X W G tk
  refine ⟨fun e h => ?_, fun es h z => ?_⟩
  · cases e with
    | none => cases h
    | some e => exact po_someI (ha c X W G tk _ h).1
  · subst z
    match es, h with
    | [], h => cases h
    | _ :: _ :: _, h => cases h
    | [e], h =>
      obtain ⟨h1, h2⟩ := and2 (show (tstB a && okE T c a e) = true from h)
      exact pts_someI ((ha c X WF G tk _ h2).2.1 h1)
theorem okIt_seq {a : IE} (ha : OkE T RX k a) : OkIt T RX k (.seq a) := by
  intro c X W G tk tg e h
  have h : okE T c a e = true := by
    unfold okIt at h
    exact h
  exact pi_seqI (ha c X W G tk _ h).1
theorem okIt_range1 {a : IE} (ha : OkE T RX k a) : OkIt T RX k (.range1 a) := by
  intro c X W G tk tg e h
  cases e with
  | Call fe es kws p =>
    cases fe with
    | Name x q =>
      match es, kws, h with
      | [e], [], h =>
        obtain ⟨h1, h2⟩ := and2 (show (decide (x = "range") && glB c x && plainE e && okE T c a e) = true from h)
        obtain ⟨h3, h4⟩ := and2 h1
        obtain ⟨h5, h6⟩ := and2 h3
        have e1 := of_decide_eq_true h5
        subst e1
        exact pi_range1I G (G.gl h6) h4 (ha c X W G tk _ h2).1
      | [], _, h => cases h
      | [_], _ :: _, h => cases h
      | _ :: _ :: _, _, h => cases h
    | _ => cases h
  | _ => cases h
theorem okIt_range2 {a b : IE} (ha : OkE T RX k a) (hb : OkE T RX k b) : OkIt T RX k (.range2 a b) := by
  intro c X W G tk tg e h
  cases e with
  | Call fe es kws p =>
    cases fe with
    | Name x q =>
      match es, kws, h with
      | [e, f], [], h =>
        obtain ⟨h1, h2⟩ := and2 (show (decide (x = "range") && glB c x && plainE e && plainE f && okE T c a e && okE T c b f) = true from h)
        obtain ⟨h3, h4⟩ := and2 h1
        obtain ⟨h5, h6⟩ := and2 h3
        obtain ⟨h7, h8⟩ := and2 h5
        obtain ⟨h9, h10⟩ := and2 h7
        have e1 := of_decide_eq_true h9
        subst e1
        exact pi_range2I G (G.gl h10) h8 h6 (ha c X W G tk _ h4).1 (hb c X W G tk _ h2).1
      | [], _, h => cases h
      | [_], _, h => cases h
      | [_, _], _ :: _, h => cases h
      | _ :: _ :: _ :: _, _, h => cases h
    | _ => cases h
  | _ => cases h
theorem okIt_enum {a : IE} (ha : OkE T RX k a) : OkIt T RX k (.enum a) := by
  intro c X W G tk tg e h
  cases tg with
  | Tuple elts kk tp =>
    cases e with
    | Call fe es kws p =>
      cases fe with
      | Name x q =>
        match es, kws, h with
        | [e], [], h =>
          obtain ⟨h1, h2⟩ := and2 (show (decide (x = "enumerate") && glB c x && plainE e && okE T c a e) = true from h)
          obtain ⟨h3, h4⟩ := and2 h1
          obtain ⟨h5, h6⟩ := and2 h3
          have e1 := of_decide_eq_true h5
          subst e1
          exact pi_enumI G (G.gl h6) h4 (ha c X W G tk _ h2).1
        | [], _, h => cases h
        | [_], _ :: _, h => cases h
        | _ :: _ :: _, _, h => cases h
      | _ => cases h
    | _ => cases h
  | _ => cases h
theorem okIt_zip {a b : IE} (ha : OkE T RX k a) (hb : OkE T RX k b) : OkIt T RX k (.zip a b) := by
  intro c X W G tk tg e h
  cases tg with
  | Tuple elts kk tp =>
    cases e with
    | Call fe es kws p =>
      cases fe with
      | Name x q =>
        match es, kws, h with
        | [e, f], [], h =>
          obtain ⟨h1, h2⟩ := and2 (show (decide (x = "zip") && glB c x && plainE e && plainE f && okE T c a e && okE T c b f) = true from h)
          obtain ⟨h3, h4⟩ := and2 h1
          obtain ⟨h5, h6⟩ := and2 h3
          obtain ⟨h7, h8⟩ := and2 h5
          obtain ⟨h9, h10⟩ := and2 h7
          have e1 := of_decide_eq_true h9
          subst e1
          exact pi_zipI G (G.gl h10) h8 h6 (ha c X W G tk _ h4).1 (hb c X W G tk _ h2).1
        | [], _, h => cases h
        | [_], _, h => cases h
        | [_, _], _ :: _, h => cases h
        | _ :: _ :: _ :: _, _, h => cases h
      | _ => cases h
    | _ => cases h
  | _ => cases h
end
section
variable (T : Ck) (RX : XRel) (k : Nat)
mutual
theorem all_e : ∀ ie : IE, OkE T RX k ie
  | .var i => okE_var i
  | .cint i => okE_cint i
  | .cstr i => okE_cstr i
  | .cbl i => okE_cbl i
  | .cnon => okE_cnon
  | .tup is => okE_tup (all_es is)
  | .lst is => okE_lst (all_es is)
  | .bin _ a b => okE_bin (all_e a) (all_e b)
  | .neg a => okE_neg (all_e a)
  | .cmp _ a b => okE_cmp (all_e a) (all_e b)
  | .chain _ _ a b c => okE_chain (all_e a) (all_e b) (all_e c)
  | .and a b => okE_and (all_e a) (all_e b)
  | .or a b => okE_or (all_e a) (all_e b)
  | .not a => okE_not (all_e a)
  | .ite a b c => okE_ite (all_e a) (all_e b) (all_e c)
  | .ix a b => okE_ix (all_e a) (all_e b)
  | .slice a lo hi => okE_slice (all_e a) (all_o lo) (all_o hi)
  | .rev a => okE_rev (all_e a)
  | .blt _ is => okE_blt (all_es is)
  | .lr a => okE_lr (all_e a)
  | .tr a => okE_tr (all_e a)
  | .isi a _ => okE_isi (all_e a)
  | .call _ is => okE_call (all_es is)
  | .callK _ is _ ws => okE_callK (all_es is) (all_es ws)
  | .meth _ o is => okE_meth (all_e o) (all_es is)
  | .lc _ _ it cn a => okE_lc (all_it it) (all_o cn) (all_e a)
theorem all_es : ∀ is : IEs, OkEs T RX k is
  | .nil => okEs_nil
  | .cons a is => okEs_cons (all_e a) (all_es is)
theorem all_o : ∀ o : IO, OkO T RX k o
  | .none => okO_none
  | .some a => okO_some (all_e a)
theorem all_it : ∀ it : IIt, OkIt T RX k it
  | .seq a => okIt_seq (all_e a)
  | .range1 a => okIt_range1 (all_e a)
  | .range2 a b => okIt_range2 (all_e a) (all_e b)
  | .enum a => okIt_enum (all_e a)
  | .zip a b => okIt_zip (all_e a) (all_e b)
end
end
end DI
end
section
namespace DI
open PySem L2 PySem.Spec
open PyProof.Rows hiding St
section
variable {K : PySem.W.Frag} {RX : XRel} {W : WX} {C : Cfg} {α α' α1 : List Addr} {H H' H1 : Hp} {b : Nat} {st : Store} {env : Evr} {σ : L2.St}
theorem tri_resc {β : Type} {t : T (β × Store)} {f : β → M (Fl × Evr)} {P : Nat → ((Fl × Evr) × Store) → Prop} {XP : Nat → Ex → Store → Prop} :
    Tri (t.resc env f) b P XP ↔ Tri t b (fun b' p => Tri (f p.1 p.2) b' P XP) (fun b' x st => P b' ((.exc x, env), st)) := by
  induction t generalizing b with
  | ret a => exact Iff.rfl
  | draw n k ih =>
    constructor
    · rintro ⟨b', e, h⟩
      exact ⟨b', e, fun v h0 h1 => (ih v).mp (h v h0 h1)⟩
    · rintro ⟨b', e, h⟩
      exact ⟨b', e, fun v h0 h1 => (ih v).mpr (h v h0 h1)⟩
  | exc x st => exact Iff.rfl
  | stuck => exact Iff.rfl
/-- where a statement ends -/
def EndF (K : PySem.W.Frag) (RX : XRel) (W : WX) (D : Ends) (α : List Addr) (H : Hp) (σ : L2.St) : Fl → Prop
  | .next => D.nx σ H
  | .brk => D.bk σ H
  | .cont => D.ct σ H
  | .ret d => ∀ v, RD K α H d v → D.rt v H
  | .exc x => ∀ cls dd, RX x cls dd H → W cls dd σ H
def PostS (K : PySem.W.Frag) (RX : XRel) (W : WX) (α : List Addr) (H : Hp) (D : Ends) : Nat → ((Fl × Evr) × Store) → Prop := fun b p => ∀ α' H' σ', Ext K α H α' H' → Rel K α' H' p.2 b → REnv K α' H' p.1.2 σ' → EndF K RX W D α' H' σ' p.1.1
theorem PostS.ext {D : Ends} {p : (Fl × Evr) × Store} (e : Ext K α H α' H') (h : PostS K RX W α H D b p) : PostS K RX W α' H' D b p := fun α2 H2 σ' e2 R r => h α2 H2 σ' (e.trans e2) R r
abbrev NX : Nat → Ex → Store → Prop := fun _ _ _ => False
variable (K RX W C) in
def ts (is : IS) : TS := fun D σ H => ∃ α st b env, Rel K α H st b ∧ REnv K α H env σ ∧ Tri (ex C is env st) b (PostS K RX W α H D) NX
variable (K RX W C) in
def tss (is : ISs) : TS := fun D σ H => ∃ α st b env, Rel K α H st b ∧ REnv K α H env σ ∧ Tri (exs C is env st) b (PostS K RX W α H D) NX
theorem triS {D : Ends} {t : T ((Fl × Evr) × Store)} (e : Ext K α H α' H') (h : Tri t b (PostS K RX W α H D) NX) : Tri t b (PostS K RX W α' H' D) NX :=
  tri_mono h (fun _ _ _ q => q.ext e) fun _ _ _ _ q => q
/-- an expression, then what is done with its answer -/
theorem doS {β : Type} {m : M β} {f : β → M (Fl × Evr)} {D : Ends} (E : REnv K α H env σ) (h : Tri (doE env m f st) b (PostS K RX W α H D) NX) :
    Tri (m st) b (fun b' p => Tri (f p.1 p.2) b' (PostS K RX W α H D) NX) (PostX K RX W σ α H) :=
  tri_mono (tri_resc.mp h) (fun _ _ _ q => q) fun _ x st _ q α1 H1 cls d e R r => q α1 H1 σ e R (E.ext e) cls d r
end
section
variable {X : Cx} {RX : XRel} {W : WX} {C : Cfg} {F : Tab} {KW : KwTab} {mods : List (Str × GV)} {k : Nat} {c : CC} {e e1 e2 e3 : Expr} {ia ib : IE} {is : IEs} {pos p tpos : Pos} {tg : Expr}
theorem PS.imp {s : Stmt} {t t' : TS} (h : PS X s t) (i : ∀ D σ H, t' D σ H → t D σ H) : PS X s t' := ⟨fun pins s σ H D I q => h.run pins s σ H D I (i D σ H q)⟩
theorem PSs.imp {s : List Stmt} {t t' : TS} (h : PSs X s t) (i : ∀ D σ H, t' D σ H → t D σ H) : PSs X s t' := ⟨fun pins s σ H D I q => h.run pins s σ H D I (i D σ H q)⟩
/-- name = an expression, as it is read -/
theorem set_read {i : Nat} {D : Ends} {σ : L2.St} {H : Hp} (h : ts X.K RX W C (.set i ia) D σ H) : te X.K RX W C ia σ H (fun x H1 => D.nx (σ.set i (some x)) H1) := by
  obtain ⟨α, st, b, env, R, E, h⟩ := h
  exact ⟨α, st, b, env, R, E, tri_mono (doS E h) (fun b1 p _ h1 α1 H1 v x1 R1 rd => h1 α1 H1 _ x1 R1 ((E.ext x1).set i rd)) fun _ _ _ _ q => q⟩
theorem ps_setI (G : GX F KW mods RX k c X) {i : Nat} {x : Str} {pos' : Pos} (h1 : c.N[i]? = some x) (h2 : stoB c x = true) (hs : swapsWith e (some (.Name x pos')) pos.line X.env = pure false) (ha : PE X e (te X.K RX W C ia)) :
    PS X (.Assign [.Name x pos'] e pos) (ts X.K RX W C (.set i ia)) := by
  obtain ⟨hl, hf⟩ := G.sto x h2
  exact PS.imp (ps_set G.nd (by rw [G.N]; exact h1) hl ha hs hf) fun D σ H h => set_read h
theorem ps_setTI (G : GX F KW mods RX k c X) {tgs : List Nat} {es : List Expr} {n : Nat} {pos' : Pos} (ht : okTgs c tgs es = true) (hw : swappedStores [.Tuple es n pos'] e X.env = pure none) (ha : PE X e (te X.K RX W C ia)) :
    PS X (.Assign [.Tuple es n pos'] e pos) (ts X.K RX W C (.setT tgs ia)) := by
  refine PS.imp (ps_asg ha (pg_I G (tg := .tup tgs) (e := .Tuple es n pos') ht) ?_ hw rfl) fun D σ H h => ?_
  · show swapsWith e (some (.Tuple es n pos')) pos.line X.env = pure false
    cases e <;> rfl
  · obtain ⟨α, st, b, env, R, E, h⟩ := h
    refine ⟨α, st, b, env, R, E, tri_mono (doS E h) (fun b1 p _ h1 α1 H1 v x1 R1 rd => ?_) fun _ _ _ _ q => q⟩
    have h1 : Tri (match bindTg (.tup tgs) (asTup p.2 p.1) env with | some env' => (T.ret ((Fl.next, env'), p.2) : T ((Fl × Evr) × Store)) | none => .stuck) b1 (PostS X.K RX W α H D) NX := h1
    cases eb : bindTg (.tup tgs) (asTup p.2 p.1) env with
    | none =>
      rw [eb] at h1
      exact h1.elim
    | some env' =>
      rw [eb] at h1
      exact tgI_list R1 (E.ext x1) rd eb fun σ' E' _ => h1 α1 H1 σ' x1 R1 E'
theorem sub_plain {o i : Expr} {env : Env} (h : plainE i = true) : ∀ v, assign (.Subscript o i pos) env v = (do
      let ov ← holding [v] (eval o env)
      let iv ← holding [v, ov] (eval i env)
      standAt pos
      holding [v, ov, iv] (setItem ov iv v)
      release [v, ov, iv] []) := by
  intro v
  cases i <;> first | rfl | cases h
theorem ps_setSubI {o i : Expr} {io ii : IE} (hp : plainE i = true) (ho : PE X o (te X.K RX W C io)) (hi : PE X i (te X.K RX W C ii)) (ha : PE X e (te X.K RX W C ia)) :
    PS X (.Assign [.Subscript o i tpos] e pos) (ts X.K RX W C (.setSub io ii ia)) := by
  refine PS.imp (ps_asg ha (pg_sub ho hi set_list (sub_plain hp)) ?_ rfl rfl) fun D σ H h => ?_
  · show swapsWith e (some (.Subscript o i tpos)) pos.line X.env = pure false
    cases e <;> rfl
  · obtain ⟨α, st, b, env, R, E, h⟩ := h
    refine te_then R E (doS E h) fun α1 H1 v st1 b1 d x1 R1 E1 r1 h1 => ?_
    refine te_then R1 E1 h1 fun α2 H2 u st2 b2 d2 x2 R2 E2 r2 h2 => ?_
    refine te_then R2 E2 h2 fun α3 H3 w st3 b3 d3 x3 R3 E3 r3 h3 => ?_
    cases r2 with
    | @ref n a hn =>
      cases r3 with
      | int kk =>
        have h3 : Tri ((match st3[n]? with
          | some (.lst true xs) => match ixN xs.length kk with
            | some j => T.ret ((), st3.set n (.lst true (xs.set j d)))
            | none => T.stuck
          | _ => T.stuck)) b3 (fun b' p => Tri ((mret (Fl.next, env) : M (Fl × Evr)) p.2) b' (PostS X.K RX W α H D) NX) _ := h3
        split at h3
        · rename_i xs e3
          split at h3
          · rename_i j ej
            have hn3 := x3.pre _ _ hn
            obtain ⟨vs, q1, q2⟩ := R3.lstW e3 hn3
            have x123 := (x1.trans x2).trans x3
            refine ⟨a, vs, kk, j, rfl, rfl, q1, by rw [← q2.length]; exact ej, ?_⟩
            exact h3 α3 _ σ (x123.trans (ext_upd q1)) (R3.setL e3 hn3 (q2.set (r1.ext (x2.trans x3)) j)) (E3.ext (ext_upd q1))
          · exact h3.elim
        · exact h3.elim
      | _ => exact h3.elim
    | _ => cases r3 <;> exact h3.elim
theorem ip_aug {op : Operator} : PIp X op (r2 X.K (augD op)) := by
  intro pins s σ H x y v u Q I rx ry h
  obtain ⟨α, st, b, d, e, R, r1, r2, XP, h⟩ := h
  cases op with
  | Add =>
    cases r1 <;> cases r2 <;> first | exact h.elim | skip
    · exact iop_add pins s σ H _ _ v u Q I rx ry ⟨_, _, rfl, rfl, PostV.here R (.int _) h⟩
    · obtain ⟨hc, h⟩ := tri_mif h
      exact iop_add_str pins s σ H _ _ v u Q I rx ry ⟨_, _, rfl, rfl, fits_le hc, PostV.here R (.str _) h⟩
  | Sub =>
    cases r1 <;> cases r2 <;> first | exact h.elim | skip
    exact iop_sub pins s σ H _ _ v u Q I rx ry ⟨_, _, rfl, rfl, PostV.here R (.int _) h⟩
  | Mult =>
    cases r1 <;> cases r2 <;> first | exact h.elim | skip
    obtain ⟨hc, h⟩ := tri_mif h
    refine iop_mul pins s σ H _ _ v u Q I rx ry ⟨_, _, rfl, rfl, ?_, PostV.here R (.int _) h⟩
    rcases Bool.or_eq_true_iff.mp hc with q | q
    · obtain ⟨q1, q2⟩ := Bool.and_eq_true_iff.mp q
      exact .inl ⟨of_decide_eq_true q1, of_decide_eq_true q2⟩
    · obtain ⟨q1, q2⟩ := Bool.and_eq_true_iff.mp q
      exact .inr ⟨of_decide_eq_true q1, of_decide_eq_true q2⟩
  | _ => exact h.elim
theorem ps_augI (G : GX F KW mods RX k c X) {i : Nat} {x : Str} {pos' : Pos} {op : Operator} (h1 : c.N[i]? = some x) (h2 : stoB c x = true) (ha : PE X e (te X.K RX W C ia)) :
    PS X (.AugAssign (.Name x pos') op e pos) (ts X.K RX W C (.aug i op ia)) := by
  obtain ⟨hl, hf⟩ := G.sto x h2
  refine PS.imp (ps_aug G.nd (by rw [G.N]; exact h1) hl ha ip_aug hf) fun D σ H h => ?_
  obtain ⟨α, st, b, env, R, E, h⟩ := h
  have h := tri_bind.mp (doS E h)
  obtain ⟨d, e1, h⟩ := tri_mopt h
  cases ei : env[i]? with
  | none =>
    rw [ei] at e1
    cases e1
  | some o =>
    rw [ei] at e1
    have e1 : o = some d := e1
    subst e1
    obtain ⟨v, q1, q2⟩ := E.at_ i d ei
    refine ⟨v, q1, te_then R E h fun α1 H1 u st1 b1 d1 x1 R1 E1 r1 h1 => ?_⟩
    exact ⟨α1, st1, b1, d, d1, R1, q2.ext x1, r1, _, tri_mono h1 (fun b2 p _ q α2 H2 z x2 R2 rz => q α2 H2 _ (x1.trans x2) R2 ((E1.ext x2).set i rz)) fun _ _ _ _ q => q⟩
theorem ps_exprI (hn : noComp e = true) (ha : PE X e (te X.K RX W C ia)) : PS X (.Expr e pos) (ts X.K RX W C (.expr ia)) := by
  refine PS.imp (ps_expr ha (swap_none hn)) fun D σ H h => ?_
  obtain ⟨α, st, b, env, R, E, h⟩ := h
  exact ⟨α, st, b, env, R, E, tri_mono (doS E h) (fun b1 p _ h1 α1 H1 v x1 R1 rd => h1 α1 H1 _ x1 R1 (E.ext x1)) fun _ _ _ _ q => q⟩
theorem ps_retI (ha : PE X e (te X.K RX W C ia)) : PS X (.Return (some e) pos) (ts X.K RX W C (.ret ia)) := by
  refine PS.imp (ps_ret ha) fun D σ H h => ?_
  obtain ⟨α, st, b, env, R, E, h⟩ := h
  exact ⟨α, st, b, env, R, E, tri_mono (doS E h) (fun b1 p _ h1 α1 H1 v x1 R1 rd => h1 α1 H1 σ x1 R1 (E.ext x1) v rd) fun _ _ _ _ q => q⟩
theorem ps_iteI {as bs : List Stmt} {ja jb : ISs} (hc : PT X e (tt X.K RX W C ia)) (ha : PSs X as (tss X.K RX W C ja)) (hb : PSs X bs (tss X.K RX W C jb)) : PS X (.If e as bs pos) (ts X.K RX W C (.ite ia ja jb)) := by
  refine PS.imp (ps_if hc ha hb) fun D σ H h => ?_
  obtain ⟨α, st, b, env, R, E, h⟩ := h
  refine ⟨α, st, b, env, R, E, tri_mono (doS E h) (fun b1 p _ h1 α1 H1 x1 R1 => ?_) fun _ _ _ _ q => q⟩
  obtain ⟨kk, st1⟩ := p
  cases kk with
  | true => exact ⟨α1, st1, b1, env, R1, E.ext x1, triS x1 h1⟩
  | false => exact ⟨α1, st1, b1, env, R1, E.ext x1, triS x1 h1⟩
theorem ps_passI : PS X (.Pass pos) (ts X.K RX W C .pass) := PS.imp ps_pass fun D σ H ⟨α, st, b, env, R, E, h⟩ => h α H σ (.refl _ _) R E
theorem ps_brkI : PS X (.Break pos) (ts X.K RX W C .brk) := PS.imp ps_break fun D σ H ⟨α, st, b, env, R, E, h⟩ => h α H σ (.refl _ _) R E
theorem ps_contI : PS X (.Continue pos) (ts X.K RX W C .cont) := PS.imp ps_continue fun D σ H ⟨α, st, b, env, R, E, h⟩ => h α H σ (.refl _ _) R E
theorem pss_nilI : PSs X [] (tss X.K RX W C .nil) := PSs.imp pss_nil fun D σ H ⟨α, st, b, env, R, E, h⟩ => h α H σ (.refl _ _) R E
theorem pss_consI {s : Stmt} {ss : List Stmt} {js : IS} {jss : ISs} (h1 : PS X s (ts X.K RX W C js)) (h2 : PSs X ss (tss X.K RX W C jss)) : PSs X (s :: ss) (tss X.K RX W C (.cons js jss)) := by
  refine PSs.imp (pss_cons h1 h2) fun D σ H h => ?_
  obtain ⟨α, st, b, env, R, E, h⟩ := h
  refine ⟨α, st, b, env, R, E, tri_mono (tri_bind.mp h) (fun b1 p _ h1 α1 H1 σ1 x1 R1 E1 => ?_) fun _ _ _ _ q => q⟩
  obtain ⟨⟨fl, env1⟩, st1⟩ := p
  cases fl with
  | next => exact ⟨α1, st1, b1, env1, R1, E1, triS x1 h1⟩
  | brk => exact h1 α1 H1 σ1 x1 R1 E1
  | cont => exact h1 α1 H1 σ1 x1 R1 E1
  | ret d => exact h1 α1 H1 σ1 x1 R1 E1
  | exc x => exact h1 α1 H1 σ1 x1 R1 E1
theorem ps_forI (G : GX F KW mods RX k c X) (hp : PassesOwn (model X.prog X.w) X.A X.env X.xe) {body : List Stmt} {jb : ISs} {it : IIt} {tgi : ITg} (hx : plainE e = true) (hi : PI X tg e (ti X.K RX W C it)) (hg : okTg c tgi tg = true) (hb : PSs X body (tss X.K RX W C jb)) :
    PS X (.For tg e body [] pos) (ts X.K RX W C (.for tgi it jb)) := by
  refine PS.imp (ps_for hp G.calm hi (pg_I G hg) hb (folded_plain hx)) fun D σ H h => ?_
  obtain ⟨α, st, b, env, R, E, h⟩ := h
  refine ⟨α, st, b, env, R, E, tri_mono (doS E h) (fun b1 p _ h1 α1 H1 J x1 R1 pj => ?_) fun _ _ _ _ q => q⟩
  obtain ⟨pl, st1⟩ := p
  have h1 : Tri (forLoop (exs C jb) tgi pl (plLen pl) 0 env st1) b1 (PostS X.K RX W α H D) NX := h1
  refine ⟨fun i m σ2 H2 => ∃ α2 st2 b2 env2, Ext X.K α1 H1 α2 H2 ∧ Rel X.K α2 H2 st2 b2 ∧ REnv X.K α2 H2 env2 σ2 ∧ i + m = plLen pl ∧ Tri (forLoop (exs C jb) tgi pl m i env2 st2) b2 (PostS X.K RX W α2 H2 D) NX,
    ⟨plLen pl, α1, st1, b1, env, .refl _ _, R1, E.ext x1, by omega, triS x1 h1⟩, ?_⟩
  rintro i m σ2 H2 ⟨α2, st2, b2, env2, x2, R2, E2, him, h2⟩
  have pj2 := pj.ext x2
  cases m with
  | zero =>
    obtain ⟨hc, h2⟩ := tri_mif h2
    exact .inl ⟨plJ_stop R2 pj2 hc (by omega), h2 α2 H2 σ2 (.refl _ _) R2 E2⟩
  | succ m =>
    have h2 : Tri (match plItem st2 pl i with
      | none => T.stuck
      | some x => match bindTg tgi x env2 with
        | none => T.stuck
        | some env1 => (exs C jb env1 st2).bind fun p => match p.1.1 with
          | .next => forLoop (exs C jb) tgi pl m (i + 1) p.1.2 p.2
          | .cont => forLoop (exs C jb) tgi pl m (i + 1) p.1.2 p.2
          | .brk => .ret ((.next, p.1.2), p.2)
          | .ret v => .ret ((.ret v, p.1.2), p.2)
          | .exc x => .ret ((.exc x, p.1.2), p.2)) b2 (PostS X.K RX W α2 H2 D) NX := h2
    cases ex : plItem st2 pl i with
    | none =>
      rw [ex] at h2
      exact h2.elim
    | some x =>
      rw [ex] at h2
      obtain ⟨go, gv⟩ := plJ_go R2 pj2 ex
      refine .inr ⟨go, fun σ3 H3 => ∃ m', m' < m + 1 ∧ ∃ α2 st2 b2 env2, Ext X.K α1 H1 α2 H3 ∧ Rel X.K α2 H3 st2 b2 ∧ REnv X.K α2 H3 env2 σ3 ∧ (i + 1) + m' = plLen pl ∧ Tri (forLoop (exs C jb) tgi pl m' (i + 1) env2 st2) b2 (PostS X.K RX W α2 H3 D) NX,
        fun σ3 H3 q => q, fun v H3 hy => ?_⟩
      obtain ⟨x3, R3, r3⟩ := gv v H3 hy
      have h2 : Tri (match bindTg tgi x env2 with
        | none => T.stuck
        | some env1 => (exs C jb env1 st2).bind fun p => match p.1.1 with
          | .next => forLoop (exs C jb) tgi pl m (i + 1) p.1.2 p.2
          | .cont => forLoop (exs C jb) tgi pl m (i + 1) p.1.2 p.2
          | .brk => .ret ((.next, p.1.2), p.2)
          | .ret v => .ret ((.ret v, p.1.2), p.2)
          | .exc x => .ret ((.exc x, p.1.2), p.2)) b2 (PostS X.K RX W α2 H2 D) NX := h2
      cases eb : bindTg tgi x env2 with
      | none =>
        rw [eb] at h2
        exact h2.elim
      | some env1 =>
        rw [eb] at h2
        refine tgI_of (E2.ext x3) r3 eb fun σ' E' _ => ?_
        refine ⟨α2, st2, b2, env1, R3, E', tri_mono (tri_bind.mp h2) (fun b4 p _ h4 α4 H4 σ4 x4 R4 E4 => ?_) fun _ _ _ _ q => q⟩
        obtain ⟨⟨fl, env4⟩, st4⟩ := p
        have x34 := x3.trans x4
        cases fl with
        | next => exact ⟨m, Nat.lt_succ_self _, α4, st4, b4, env4, x2.trans x34, R4, E4, by omega, triS x34 h4⟩
        | cont => exact ⟨m, Nat.lt_succ_self _, α4, st4, b4, env4, x2.trans x34, R4, E4, by omega, triS x34 h4⟩
        | brk => exact h4 α4 H4 σ4 x34 R4 E4
        | ret d => exact h4 α4 H4 σ4 x34 R4 E4
        | exc x => exact h4 α4 H4 σ4 x34 R4 E4
theorem ps_whileI (hp : PassesOwn (model X.prog X.w) X.A X.env X.xe) {body : List Stmt} {jb : ISs} (hc : PT X e (tt X.K RX W C ia)) (hb : PSs X body (tss X.K RX W C jb)) :
    PS X (.While e body [] pos) (ts X.K RX W C (.while ia jb)) := by
  refine PS.imp (ps_while hp hc hb) fun D σ H h => ?_
  obtain ⟨α, st, b, env, R, E, h⟩ := h
  refine ⟨fun m σ2 H2 => ∃ α2 st2 b2 env2, Ext X.K α H α2 H2 ∧ Rel X.K α2 H2 st2 b2 ∧ REnv X.K α2 H2 env2 σ2 ∧ Tri (whileLoop (fun env => mbind (ev C ia env) truthD) (exs C jb) m env2 st2) b2 (PostS X.K RX W α2 H2 D) NX,
    ⟨turns, α, st, b, env, .refl _ _, R, E, h⟩, ?_⟩
  rintro m σ2 H2 ⟨α2, st2, b2, env2, x2, R2, E2, h2⟩
  cases m with
  | zero => exact h2.elim
  | succ m =>
    refine ⟨α2, st2, b2, env2, R2, E2, tri_mono (doS E2 h2) (fun b3 p _ h3 α3 H3 x3 R3 => ?_) fun _ _ _ _ q => q⟩
    obtain ⟨kk, st3⟩ := p
    cases kk with
    | false => exact h3 α3 H3 σ2 x3 R3 (E2.ext x3)
    | true =>
      rw [if_pos rfl]
      refine ⟨fun σ4 H4 => ∃ m', m' < m + 1 ∧ ∃ α2 st2 b2 env2, Ext X.K α H α2 H4 ∧ Rel X.K α2 H4 st2 b2 ∧ REnv X.K α2 H4 env2 σ4 ∧ Tri (whileLoop (fun env => mbind (ev C ia env) truthD) (exs C jb) m' env2 st2) b2 (PostS X.K RX W α2 H4 D) NX, fun _ _ q => q, ?_⟩
      refine ⟨α3, st3, b3, env2, R3, E2.ext x3, tri_mono (tri_bind.mp h3) (fun b4 p _ h4 α4 H4 σ4 x4 R4 E4 => ?_) fun _ _ _ _ q => q⟩
      obtain ⟨⟨fl, env4⟩, st4⟩ := p
      have x34 := x3.trans x4
      cases fl with
      | next => exact ⟨m, Nat.lt_succ_self _, α4, st4, b4, env4, x2.trans x34, R4, E4, triS x34 h4⟩
      | cont => exact ⟨m, Nat.lt_succ_self _, α4, st4, b4, env4, x2.trans x34, R4, E4, triS x34 h4⟩
      | brk => exact h4 α4 H4 σ4 x34 R4 E4
      | ret d => exact h4 α4 H4 σ4 x34 R4 E4
      | exc x => exact h4 α4 H4 σ4 x34 R4 E4
end
end DI
end
section
namespace DI
open PySem L2 PySem.Spec
open PyProof.Rows hiding St
def starB : Expr → Bool
  | .Starred .. => true
  | _ => false
def swName (sc : Scope) (line : Nat) : Expr → Option Str
  | .Name id pos => if sc.names.lookup id == some .local && pos.line == line then some id else none
  | _ => none
def swNames (sc : Scope) (ts : List Expr) : List Str := ts.filterMap (swName sc ((ts.head?.map (·.pos.line)).getD 0))
def swDec (sc : Scope) (ts vs : List Expr) : Option (Option (List Str)) :=
  match !(ts.length == 2 || ts.length == 3) || vs.length != ts.length with
  | true => some none
  | false => match vs.any starB with
    | true => some none
    | false => match (swNames sc ts).length != ts.length || (swNames sc ts).eraseDups.length != (swNames sc ts).length with
      | true => some none
      | false => match vs.all (foldedForSure 8) with
        | true => some none
        | false => match vs.all (constantsAlone 8) with
          | true => none
          | false => some (some (swNames sc ts))
theorem sw_dec {env : Env} {es vs : List Expr} {k k2 : Nat} {p p2 : Pos} {r : Option (List Str)} (hk : env.scope.kind = .function) (h : swDec env.scope es vs = some r) : swappedStores [.Tuple es k p] (.Tuple vs k2 p2) env = pure r := by
  have hb : (env.blockKind != .function) = false := by unfold Env.blockKind; rw [hk]; rfl
  have key : swappedStores [.Tuple es k p] (.Tuple vs k2 p2) env = (if (!(es.length == 2 || es.length == 3) || vs.length != es.length || env.blockKind != .function) = true then pure none else if vs.any starB = true then pure none else
    if ((swNames env.scope es).length != es.length || (swNames env.scope es).eraseDups.length != (swNames env.scope es).length) = true then pure none else if vs.all (foldedForSure 8) = true then pure none else
    if vs.all (constantsAlone 8) = true then (do unsupported "assign.tuple-of-constant-expressions:order-of-the-stores"; pure (some (swNames env.scope es))) else pure (some (swNames env.scope es))) := rfl
  rw [key, hb, Bool.or_false]
  unfold swDec at h
  split at h
  · rename_i c1
    cases h
    rw [c1, if_pos rfl]
  · rename_i c1
    rw [c1, if_neg Bool.false_ne_true]
    split at h
    · rename_i c2
      cases h
      rw [c2, if_pos rfl]
    · rename_i c2
      rw [c2, if_neg Bool.false_ne_true]
      split at h
      · rename_i c3
        cases h
        rw [c3, if_pos rfl]
      · rename_i c3
        rw [c3, if_neg Bool.false_ne_true]
        split at h
        · rename_i c4
          cases h
          rw [c4, if_pos rfl]
        · rename_i c4
          rw [c4, if_neg Bool.false_ne_true]
          split at h
          · cases h
          · rename_i c5
            cases h
            rw [c5, if_neg Bool.false_ne_true]
/-- name = [..]: stored within the comprehension -/
def swB (sc scope : Scope) (t : Str) (p pos : Pos) : Bool := sc.names.lookup t == some .local && p.line == pos.line && !(scope.names.any fun (n, k) => n == t && (k == .local || k == .cell))
theorem sw_lc {env : Env} {elt : Expr} {gs : List Comprehension} {scope : Scope} {pos py : Pos} {y : Str} {l : Nat} (hk : env.scope.kind = .function) : swapsWith (.ListComp elt gs scope pos) (some (.Name y py)) l env = pure (swB env.scope scope y py pos) := by
  have hb : (env.blockKind == .function) = true := by unfold Env.blockKind; rw [hk]; rfl
  have key : swapsWith (.ListComp elt gs scope pos) (some (.Name y py)) l env = pure (env.blockKind == .function && env.kindOf y == some .local && py.line == pos.line && !(scope.names.any fun (n, k) => n == y && (k == .local || k == .cell))) := rfl
  rw [key, hb]
  rfl
section
variable {X : Cx} {RX : XRel} {W : WX} {C : Cfg} {F : Tab} {KW : KwTab} {mods : List (Str × GV)} {k : Nat} {c : CC} {e e1 e2 e3 : Expr} {ia ib : IE} {is : IEs} {pos p tpos : Pos} {tg : Expr}
/-- a, b = x, y: stored from the right -/
theorem par_read {ts : List Nat} {D : Ends} {σ : L2.St} {H : Hp} (h : DI.ts X.K RX W C (.par ts is) D σ H) : ta X.K RX W C is σ H (fun vs H1 => vs.length = ts.length ∧ D.nx (setSg ts vs σ) H1) := by
  obtain ⟨α, st, b, env, R, E, h⟩ := h
  refine ⟨α, st, b, env, R, E, tri_mono (doS E h) (fun b1 p _ h1 α1 H1 v x1 R1 rd => ?_) fun _ _ _ _ q => q⟩
  have h1 : Tri ((match setEnvs ts p.1 env with | some env' => (mret (Fl.next, env') : M (Fl × Evr)) | none => mstuck) p.2) b1 (PostS X.K RX W α H D) NX := h1
  cases eb : setEnvs ts p.1 env with
  | none =>
    rw [eb] at h1
    exact h1.elim
  | some env' =>
    rw [eb] at h1
    obtain ⟨q1, q2⟩ := setEnvs_of (E.ext x1) rd eb
    exact ⟨q1, h1 α1 H1 _ x1 R1 q2⟩
theorem ps_parI2 (G : GX F KW mods RX k c X) {i j : Nat} {x y : Str} {a b : Expr} {px py pt pt2 : Pos} {kt k2 : Nat} (hi : c.N[i]? = some x) (hj : c.N[j]? = some y) (hij : i ≠ j) (hx : c.sc.names.lookup x = some .local) (hy : c.sc.names.lookup y = some .local)
    (hk : c.sc.kind = .function) (hw : swDec c.sc [.Name x px, .Name y py] [a, b] = some (some [x, y])) (ha : PA X [a, b] (ta X.K RX W C is)) :
    PS X (.Assign [.Tuple [.Name x px, .Name y py] kt pt] (.Tuple [a, b] k2 pt2) pos) (ts X.K RX W C (.par [i, j] is)) := by
  rw [← G.sc] at hx hy hk hw
  refine PS.imp (ps_par G.calm G.nd (by rw [G.N]; exact hi) (by rw [G.N]; exact hj) hij hx hy ha (sw_dec hk hw) rfl) fun D σ H h => ?_
  obtain ⟨α, st, b, env, R, E, h⟩ := par_read h
  refine ⟨α, st, b, env, R, E, tri_mono h (fun b1 p _ h1 α1 H1 v x1 R1 rd => ?_) fun _ _ _ _ q => q⟩
  obtain ⟨l, q⟩ := h1 α1 H1 v x1 R1 rd
  match v, l, q with
  | [v1, v2], _, q => exact ⟨v1, v2, rfl, q⟩
theorem ps_parI3 (G : GX F KW mods RX k c X) {i j l : Nat} {x y z : Str} {a b d : Expr} {px py pz pt pt2 : Pos} {kt k2 : Nat} (hi : c.N[i]? = some x) (hj : c.N[j]? = some y) (hl : c.N[l]? = some z) (hij : i ≠ j) (hil : i ≠ l) (hjl : j ≠ l)
    (hx : c.sc.names.lookup x = some .local) (hy : c.sc.names.lookup y = some .local) (hz : c.sc.names.lookup z = some .local)
    (hk : c.sc.kind = .function) (hw : swDec c.sc [.Name x px, .Name y py, .Name z pz] [a, b, d] = some (some [x, y, z])) (ha : PA X [a, b, d] (ta X.K RX W C is)) :
    PS X (.Assign [.Tuple [.Name x px, .Name y py, .Name z pz] kt pt] (.Tuple [a, b, d] k2 pt2) pos) (ts X.K RX W C (.par [i, j, l] is)) := by
  rw [← G.sc] at hx hy hz hk hw
  refine PS.imp (ps_par3 G.calm G.nd (by rw [G.N]; exact hi) (by rw [G.N]; exact hj) (by rw [G.N]; exact hl) hij hil hjl hx hy hz ha (sw_dec hk hw) rfl) fun D σ H h => ?_
  obtain ⟨α, st, b, env, R, E, h⟩ := par_read h
  refine ⟨α, st, b, env, R, E, tri_mono h (fun b1 p _ h1 α1 H1 v x1 R1 rd => ?_) fun _ _ _ _ q => q⟩
  obtain ⟨l, q⟩ := h1 α1 H1 v x1 R1 rd
  match v, l, q with
  | [v1, v2, v3], _, q => exact ⟨v1, v2, v3, rfl, q⟩
theorem ps_parT (G : GX F KW mods RX k c X) {tgs : List Nat} {es vs : List Expr} {n n2 : Nat} {pos' pos2 : Pos} (ht : okTgs c tgs es = true) (hf : fits is.len = true) (hk : c.sc.kind = .function) (hw : swDec c.sc es vs = some none) (ha : PA X vs (ta X.K RX W C is)) :
    PS X (.Assign [.Tuple es n pos'] (.Tuple vs n2 pos2) pos) (ts X.K RX W C (.par tgs is)) := by
  rw [← G.sc] at hk hw
  refine PS.imp (ps_asg (pe_tupI ha) (pg_I G (tg := .tup tgs) (e := .Tuple es n pos') ht) rfl (sw_dec hk hw) rfl) fun D σ H h => ?_
  obtain ⟨α, st, b, env, R, E, h⟩ := h
  refine ⟨α, st, b, env, R, E, tri_bind.mpr (tri_mono (evs_len is (doS E h)) (fun b1 p _ h1 => ?_) fun _ _ _ _ q => q)⟩
  obtain ⟨h1, l⟩ := h1
  show Tri (mif (fits p.1.length) (mret (DI.D.tup p.1)) p.2) b1 _ _
  rw [l, hf]
  intro α1 H1 v x1 R1 rd
  have h1 : Tri ((match setEnvs tgs p.1 env with | some env' => (mret (Fl.next, env') : M (Fl × Evr)) | none => mstuck) p.2) b1 (PostS X.K RX W α H D) NX := h1
  cases eb : setEnvs tgs p.1 env with
  | none =>
    rw [eb] at h1
    exact h1.elim
  | some env' =>
    rw [eb] at h1
    exact tgI_of (tg := .tup tgs) (E.ext x1) rd eb fun σ' E' _ => h1 α1 H1 σ' x1 R1 E'
end
/-! ### the check of statements -/
def locB (c : CC) (x : Str) : Bool := match c.sc.names.lookup x with
  | some .local => true
  | _ => false
theorem locB_of {c : CC} {x : Str} (h : locB c x = true) : c.sc.names.lookup x = some .local := by
  unfold locB at h
  split at h
  · rename_i e; exact e
  · cases h
def fkB (c : CC) : Bool := match c.sc.kind with
  | .function => true
  | _ => false
theorem fkB_of {c : CC} (h : fkB c = true) : c.sc.kind = .function := by
  unfold fkB at h
  split at h
  · rename_i e; exact e
  · cases h
/-- name = e: the value is not stored within it; or: it is, and the name is a local -/
def setB (c : CC) (x : Str) (p : Pos) : Expr → Bool
  | .ListComp _ _ scope lp => fkB c && (!swB c.sc scope x p lp || locB c x)
  | e => noComp e
def noTupB : Expr → Bool
  | .Tuple .. => false
  | _ => true
/-- a, b = x, y -/
def parB (c : CC) (tgs : List Nat) (es vs : List Expr) : Bool := fkB c && (match swDec c.sc es vs with
  | some none => okTgs c tgs es && fits vs.length
  | some (some ns) => (match es, vs, tgs, ns with
    | [.Name x _, .Name y _], [_, _], [i, j], [x2, y2] => decide (x = x2) && decide (y = y2) && decide (c.N[i]? = some x) && decide (c.N[j]? = some y) && decide (i ≠ j) && locB c x && locB c y
    | [.Name x _, .Name y _, .Name z _], [_, _, _], [i, j, l], [x2, y2, z2] => decide (x = x2) && decide (y = y2) && decide (z = z2) && decide (c.N[i]? = some x) && decide (c.N[j]? = some y) && decide (c.N[l]? = some z) && decide (i ≠ j) && decide (i ≠ l) && decide (j ≠ l) && locB c x && locB c y && locB c z
    | _, _, _, _ => false)
  | none => false)
mutual
def okS (T : Ck) (c : CC) : IS → Stmt → Bool
  | .set i a, .Assign [.Name x p] e _ => decide (c.N[i]? = some x) && stoB c x && setB c x p e && okE T c a e
  | .setT tgs a, .Assign [.Tuple es _ _] e _ => noTupB e && okTgs c tgs es && okE T c a e
  | .par tgs is, .Assign [.Tuple es _ _] (.Tuple vs _ _) _ => parB c tgs es vs && okEs T c is vs
  | .setSub o i a, .Assign [.Subscript eo ei _] e _ => plainE ei && okE T c o eo && okE T c i ei && okE T c a e
  | .aug i op a, .AugAssign (.Name x _) op2 e _ => decide (c.N[i]? = some x) && stoB c x && decide (op = op2) && okE T c a e
  | .expr a, .Expr e _ => noComp e && okE T c a e
  | .ret a, .Return (.some e) _ => okE T c a e
  | .ret .cnon, .Return .none _ => true
  | .ite t a b, .If e as bs _ => tstB t && okE T c t e && okSs T c a as && okSs T c b bs
  | .for tg it a, .For tge iter as [] _ => plainE iter && okIt T c it tge iter && okTg c tg tge && okSs T c a as
  | .while t a, .While e as [] _ => tstB t && okE T c t e && okSs T c a as
  | .pass, .Pass _ => true
  | .brk, .Break _ => true
  | .cont, .Continue _ => true
  | _, _ => false
def okSs (T : Ck) (c : CC) : ISs → List Stmt → Bool
  | .nil, [] => true
  | .cons a as, s :: ss => okS T c a s && okSs T c as ss
  | _, _ => false
end
section
variable (T : Ck) (RX : XRel) (k : Nat)
def OkS (is : IS) : Prop := ∀ (c : CC) (X : Cx) (W : WX), GXk T RX k c X → Takes X W → PassesOwn (model X.prog X.w) X.A X.env X.xe → ∀ s, okS T c is s = true → PS X s (ts X.K RX W (cfg T.F k) is)
def OkSs (is : ISs) : Prop := ∀ (c : CC) (X : Cx) (W : WX), GXk T RX k c X → Takes X W → PassesOwn (model X.prog X.w) X.A X.env X.xe → ∀ s, okSs T c is s = true → PSs X s (tss X.K RX W (cfg T.F k) is)
variable {T RX k}
theorem okEs_len {c : CC} : ∀ (is : IEs) (es : List Expr), okEs T c is es = true → is.len = es.length
  | .nil, [], _ => rfl
  | .nil, _ :: _, h => by cases h
  | .cons _ _, [], h => by cases h
  | .cons a is, e :: es, h => by
    obtain ⟨_, h2⟩ := and2 (show (plainE e && okE T c a e && okEs T c is es) = true from h)
    show is.len + 1 = es.length + 1
    rw [okEs_len is es h2]
theorem ok_setLc {i : Nat} {x : Str} {p pos lp : Pos} {elt : Expr} {gens : List Comprehension} {scope : Scope} {a : IE} {c : CC} {X : Cx} {W : WX} (G : GXk T RX k c X) (tk : Takes X W) (h1 : c.N[i]? = some x) (h2 : c.sc.names.lookup x = some .local)
    (hf : c.sc.kind = .function) (hs : swB c.sc scope x p lp = true) (h : okE T c a (.ListComp elt gens scope lp) = true) : PS X (.Assign [.Name x p] (.ListComp elt gens scope lp) pos) (ts X.K RX W (cfg T.F k) (.set i a)) := by
  cases a with
  | lc own tg it cn a =>
    match gens, h with
    | [], h => cases h
    | g :: _ :: _, h =>
      obtain ⟨g1, g2, g3, g4⟩ := g
      cases h
    | [⟨tge, iter, ifs, n⟩], h =>
      obtain ⟨h3, h4⟩ := and2 (show (decide (n = 0) && blkC c.N c.sc scope own && okTg (c.blk scope) tg tge && (tgSlots tg).all (fun i => (own.map (·.2)).contains i) && plainE iter && okIt T c it tge iter && okC T (c.blk scope) cn ifs && okE T (c.blk scope) a elt) = true from h)
      obtain ⟨h3, g1⟩ := and2 h3
      obtain ⟨h3, g2⟩ := and2 h3
      obtain ⟨h3, g3⟩ := and2 h3
      obtain ⟨h3, g4⟩ := and2 h3
      obtain ⟨h3, g5⟩ := and2 h3
      obtain ⟨h3, g6⟩ := and2 h3
      have e1 := of_decide_eq_true h3
      subst e1
      have ok : BlkOk X.N X.env.scope scope own := by
        rw [G.N, G.sc]
        exact blkOk_by g6
      have hown : ∀ i ∈ tgSlots tg, i ∈ own.map (·.2) := fun i hi => List.contains_iff_mem.mp (List.all_eq_true.mp g4 i hi)
      refine PS.imp (ps_setLc G.calm G.nd (by rw [G.N]; exact h1) (by rw [G.sc]; exact h2) ?_ (all_it T RX k it c X W G tk _ _ g2) ok (fun s H C' cl fp => pg_I (G.blk s H scope cl C' fp) g5) (fun s H C' cl fp => (all_o T RX k cn _ _ WF (G.blk s H scope cl C' fp) takes0).2 _ g1 rfl)
        (fun s H C' cl fp => (all_e T RX k a _ _ WF (G.blk s H scope cl C' fp) takes0 _ h4).1) (folded_plain g3)) fun D σ H h => lc_read hown (set_read h)
      rw [sw_lc (by rw [G.sc]; exact hf), G.sc, hs]
  | _ => cases h
theorem okS_set {i : Nat} {a : IE} : OkS T RX k (.set i a) := by
  intro c X W G tk hp s h
  cases s with
  | Assign tgs e pos =>
    match tgs, h with
    | [.Name x p], h =>
      obtain ⟨h1, h2⟩ := and2 (show (decide (c.N[i]? = some x) && stoB c x && setB c x p e && okE T c a e) = true from h)
      obtain ⟨h3, h4⟩ := and2 h1
      obtain ⟨h5, h6⟩ := and2 h3
      have ha := (all_e T RX k a c X W G tk e h2).1
      by_cases hn : noComp e = true
      · exact ps_setI G (of_decide_eq_true h5) h6 (swap_some hn) ha
      · cases e with
        | ListComp elt gens scope lp =>
          obtain ⟨h7, h8⟩ := and2 (show (fkB c && (!swB c.sc scope x p lp || locB c x)) = true from h4)
          have hf := fkB_of h7
          cases hs : swB c.sc scope x p lp with
          | false => exact ps_setI G (of_decide_eq_true h5) h6 (by rw [sw_lc (by rw [G.sc]; exact hf), G.sc, hs]) ha
          | true =>
            rw [hs] at h8
            exact ok_setLc G tk (of_decide_eq_true h5) (locB_of h8) hf hs h2
        | SetComp => cases h4
        | DictComp => cases h4
        | _ => exact absurd rfl hn
  | _ => cases h
theorem okS_setT {tgs : List Nat} {a : IE} : OkS T RX k (.setT tgs a) := by
  intro c X W G tk hp s h
  cases s with
  | Assign tg e pos =>
    match tg, h with
    | [.Tuple es n p], h =>
      obtain ⟨h1, h2⟩ := and2 (show (noTupB e && okTgs c tgs es && okE T c a e) = true from h)
      obtain ⟨h3, h4⟩ := and2 h1
      refine ps_setTI G h4 ?_ (all_e T RX k a c X W G tk e h2).1
      cases e <;> first | rfl | cases h3
  | _ => cases h
theorem okS_par {tgs : List Nat} {is : IEs} : OkS T RX k (.par tgs is) := by
  intro c X W G tk hp s h
  cases s with
  | Assign tg e pos =>
    match tg, e, h with
    | [.Tuple es n p], .Tuple vs n2 p2, h =>
      obtain ⟨h1, h2⟩ := and2 (show (parB c tgs es vs && okEs T c is vs) = true from h)
      have ha := ((all_es T RX k is c X W G tk).1 vs h2).1
      have hl := okEs_len is vs h2
      unfold parB at h1
      obtain ⟨h3, h4⟩ := and2 h1
      have hf := fkB_of h3
      split at h4
      · rename_i e4
        obtain ⟨h5, h6⟩ := and2 h4
        exact ps_parT G h5 (by rw [hl]; exact h6) hf e4 ha
      · rename_i ns e4
        split at h4
        · rename_i x px y py a1 a2 i j x2 y2
          simp only [Bool.and_eq_true, decide_eq_true_eq] at h4
          obtain ⟨⟨⟨⟨⟨⟨q1, q2⟩, q3⟩, q4⟩, q5⟩, q6⟩, q7⟩ := h4
          subst q1 q2
          exact ps_parI2 G q3 q4 q5 (locB_of q6) (locB_of q7) hf e4 ha
        · rename_i x px y py z pz a1 a2 a3 i j l x2 y2 z2
          simp only [Bool.and_eq_true, decide_eq_true_eq] at h4
          obtain ⟨⟨⟨⟨⟨⟨⟨⟨⟨⟨⟨q1, q2⟩, q2b⟩, q3⟩, q4⟩, q4b⟩, q5⟩, q5b⟩, q5c⟩, q6⟩, q7⟩, q8⟩ := h4
          subst q1 q2 q2b
          exact ps_parI3 G q3 q4 q4b q5 q5b q5c (locB_of q6) (locB_of q7) (locB_of q8) hf e4 ha
        · cases h4
      · cases h4
  | _ => cases h
theorem okS_setSub {o i a : IE} : OkS T RX k (.setSub o i a) := by
  intro c X W G tk hp s h
  cases s with
  | Assign tg e pos =>
    match tg, h with
    | [.Subscript eo ei p], h =>
      obtain ⟨h1, h2⟩ := and2 (show (plainE ei && okE T c o eo && okE T c i ei && okE T c a e) = true from h)
      obtain ⟨h3, h4⟩ := and2 h1
      obtain ⟨h5, h6⟩ := and2 h3
      exact ps_setSubI h5 (all_e T RX k o c X W G tk _ h6).1 (all_e T RX k i c X W G tk _ h4).1 (all_e T RX k a c X W G tk _ h2).1
  | _ => cases h
theorem okS_aug {i : Nat} {op : Operator} {a : IE} : OkS T RX k (.aug i op a) := by
  intro c X W G tk hp s h
  cases s with
  | AugAssign tg op2 e pos =>
    cases tg with
    | Name x p =>
      obtain ⟨h1, h2⟩ := and2 (show (decide (c.N[i]? = some x) && stoB c x && decide (op = op2) && okE T c a e) = true from h)
      obtain ⟨h3, h4⟩ := and2 h1
      obtain ⟨h5, h6⟩ := and2 h3
      have e1 := of_decide_eq_true h4
      subst e1
      exact ps_augI G (of_decide_eq_true h5) h6 (all_e T RX k a c X W G tk _ h2).1
    | _ => cases h
  | _ => cases h
theorem okS_expr {a : IE} : OkS T RX k (.expr a) := by
  intro c X W G tk hp s h
  cases s with
  | Expr e pos =>
    obtain ⟨h1, h2⟩ := and2 (show (noComp e && okE T c a e) = true from h)
    exact ps_exprI h1 (all_e T RX k a c X W G tk _ h2).1
  | _ => cases h
theorem okS_ret {a : IE} : OkS T RX k (.ret a) := by
  intro c X W G tk hp s h
  cases s with
  | Return o pos =>
    cases o with
    | some e => exact ps_retI (all_e T RX k a c X W G tk _ (show okE T c a e = true by cases a <;> exact h)).1
    | none =>
      cases a with
      | cnon => exact PS.imp ps_retN fun D σ H ⟨α, st, b, env, R, E, h⟩ => h α H σ (.refl _ _) R E _ .non
      | _ => cases h
  | _ => cases h
theorem okS_ite {t : IE} {a b : ISs} (h1 : OkSs T RX k a) (h2 : OkSs T RX k b) : OkS T RX k (.ite t a b) := by
  intro c X W G tk hp s h
  cases s with
  | «If» e as bs pos =>
    obtain ⟨g1, g2⟩ := and2 (show (tstB t && okE T c t e && okSs T c a as && okSs T c b bs) = true from h)
    obtain ⟨g3, g4⟩ := and2 g1
    obtain ⟨g5, g6⟩ := and2 g3
    exact ps_iteI ((all_e T RX k t c X W G tk _ g6).2.1 g5) (h1 c X W G tk hp _ g4) (h2 c X W G tk hp _ g2)
  | _ => cases h
theorem okS_for {tg : ITg} {it : IIt} {a : ISs} (h1 : OkSs T RX k a) : OkS T RX k (.for tg it a) := by
  intro c X W G tk hp s h
  cases s with
  | For tge iter as os pos =>
    cases os with
    | nil =>
      obtain ⟨g1, g2⟩ := and2 (show (plainE iter && okIt T c it tge iter && okTg c tg tge && okSs T c a as) = true from h)
      obtain ⟨g3, g4⟩ := and2 g1
      obtain ⟨g5, g6⟩ := and2 g3
      exact ps_forI G hp g5 (all_it T RX k it c X W G tk _ _ g6) g4 (h1 c X W G tk hp _ g2)
    | cons _ _ => cases h
  | _ => cases h
theorem okS_while {t : IE} {a : ISs} (h1 : OkSs T RX k a) : OkS T RX k (.while t a) := by
  intro c X W G tk hp s h
  cases s with
  | While e as os pos =>
    cases os with
    | nil =>
      obtain ⟨g1, g2⟩ := and2 (show (tstB t && okE T c t e && okSs T c a as) = true from h)
      obtain ⟨g3, g4⟩ := and2 g1
      exact ps_whileI hp ((all_e T RX k t c X W G tk _ g4).2.1 g3) (h1 c X W G tk hp _ g2)
    | cons _ _ => cases h
  | _ => cases h
theorem okSs_nil : OkSs T RX k .nil := by
  intro c X W G tk hp s h
  cases s with
  | nil => exact pss_nilI
  | cons _ _ => cases h
theorem okSs_cons {a : IS} {as : ISs} (h1 : OkS T RX k a) (h2 : OkSs T RX k as) : OkSs T RX k (.cons a as) := by
  intro c X W G tk hp s h
  cases s with
  | nil => cases h
  | cons s ss =>
    obtain ⟨g1, g2⟩ := and2 (show (okS T c a s && okSs T c as ss) = true from h)
    exact pss_consI (h1 c X W G tk hp _ g1) (h2 c X W G tk hp _ g2)
end
section
variable (T : Ck) (RX : XRel) (k : Nat)
mutual
theorem all_s : ∀ is : IS, OkS T RX k is
  | .set _ _ => okS_set
  | .setT _ _ => okS_setT
  | .setSub _ _ _ => okS_setSub
  | .aug _ _ _ => okS_aug
  | .expr _ => okS_expr
  | .ret _ => okS_ret
  | .ite _ a b => okS_ite (all_ss a) (all_ss b)
  | .for _ _ a => okS_for (all_ss a)
  | .while _ a => okS_while (all_ss a)
  | .par _ _ => okS_par
  | .pass => fun c X W G tk hp s h => by
    cases s with
    | Pass pos => exact ps_passI
    | _ => cases h
  | .brk => fun c X W G tk hp s h => by
    cases s with
    | Break pos => exact ps_brkI
    | _ => cases h
  | .cont => fun c X W G tk hp s h => by
    cases s with
    | Continue pos => exact ps_contI
    | _ => cases h
theorem all_ss : ∀ is : ISs, OkSs T RX k is
  | .nil => okSs_nil
  | .cons a as => okSs_cons (all_s a) (all_ss as)
end
end
end DI
end
section
namespace DI
open PySem L2 PySem.Spec
open PyProof.Rows hiding St
def es1 (a : IE) : IEs := .cons a .nil
/-- the source of draws: one draw -/
def drawI : ISs :=
  .cons (.ite (.cmp .Gt (.ix (.var 0) (.cint 0)) (.cint 0)) (.cons (.set 2 (.bin .Mod (.ix (.var 0) (.cint 0)) (.var 1))) (.cons (.setSub (.var 0) (.cint 0) (.bin .FloorDiv (.ix (.var 0) (.cint 0)) (.var 1))) (.cons (.ret (.var 2)) .nil))) .nil)
  (.cons (.setSub (.var 0) (.cint 2) (.bin .Add (.ix (.var 0) (.cint 2)) (.cint 1)))
  (.cons (.set 3 (.bin .Mod (.bin .Pow (.bin .Add (.ix (.var 0) (.cint 1)) (.bin .Mult (.cint 40009) (.ix (.var 0) (.cint 2)))) (.cint 5)) (.cint 2147483629)))
  (.cons (.ret (.bin .Mod (.bin .FloorDiv (.bin .Mod (.bin .Add (.bin .Mult (.var 3) (.bin .Add (.bin .Mod (.var 3) (.cint 39373)) (.cint 11))) (.bin .Mult (.ix (.var 0) (.cint 2)) (.cint 6151))) (.cint 2147483647)) (.cint 64)) (.var 1))) .nil)))
/-- a new source -/
def boxI : ISs :=
  .cons (.set 2 (.ite (.cmp .Lt (.var 1) (.blt .len (es1 (.var 0)))) (.ix (.var 0) (.var 1)) (.cint 0)))
  (.cons (.ret (.lst (.cons (.bin .Mult (.blt .abs (es1 (.var 2))) (.blt .int (es1 (.cmp .GtE (.blt .abs (es1 (.var 2))) (.bin .Pow (.cint 10) (.cint 18))))))
    (.cons (.bin .Add (.bin .Add (.bin .Mod (.var 2) (.cint 2147483587)) (.bin .Mult (.cint 7907) (.var 1))) (.cint 31)) (.cons (.cint 0) .nil))))) .nil)
section
variable {C : Cfg} {st : Store} {r : Nat} {x y z n : Int}
theorem fmod_in {i j : Int} (h : 0 < j) : 0 ≤ i.fmod j ∧ i.fmod j < j := ⟨Int.fmod_nonneg_of_pos i h, Int.fmod_lt_of_pos i h⟩
theorem draw_run (hs : st[r]? = some (.lst true [.int x, .int y, .int z])) (hx : 0 ≤ x) (hy : 0 ≤ y) (hy2 : y < 2 ^ 40) (hz : 0 ≤ z) (hz2 : z < 2 ^ 40) (hn : 0 < n) (hn2 : n < 1073741824) : ∃ v x' z' env', 0 ≤ v ∧ v < n ∧ 0 ≤ x' ∧ 0 ≤ z' ∧ z' ≤ z + 1 ∧
    exs C drawI [some (.ref r), some (.int n), none, none] st = .ret ((.ret (.int v), env'), st.set r (.lst true [.int x', .int y, .int z'])) := by
  have hl : r < st.length := (List.getElem?_eq_some_iff.mp hs).1
  have hset : ∀ o, (st.set r o)[r]? = some o := fun o => List.getElem?_set_self hl
  clear hl
  have n0 : n ≠ 0 := by omega
  have na : n.natAbs < 1073741824 := by omega
  by_cases h : 0 < x
  · refine ⟨x.fmod n, x.fdiv n, z, [some (.ref r), some (.int n), some (.int (x.fmod n)), none], (fmod_in hn).1, (fmod_in hn).2, ?_, hz, by omega, ?_⟩
    · rw [Int.fdiv_eq_ediv_of_nonneg _ (by omega)]
      exact Int.ediv_nonneg hx (by omega)
    · simp [drawI, exs, ex, ev, evs, doE, mbind, mret, T.bind, T.resc, mopt, ixD, itemsD, hs, atI, ixN, cmpD, truthD, h, binD, mif, n0, na, setSubD]
  · have x0 : x = 0 := by omega
    subst x0
    have m1 : mulOk 40009 (z + 1) = true := by
      unfold mulOk
      rw [show decide (-(2 ^ 64) < (40009 : Int)) = true from rfl, show decide ((40009 : Int) < 2 ^ 64) = true from rfl]
      rfl
    have m3 : mulOk (z + 1) 6151 = true := by
      unfold mulOk
      rw [show decide (-(2 ^ 64) < (6151 : Int)) = true from rfl, show decide ((6151 : Int) < 2 ^ 64) = true from rfl, Bool.and_true, Bool.or_true]
    have p1 : powOk (y + 40009 * (z + 1)) 5 = true := by
      unfold powOk
      rw [decide_eq_true (show (0 : Int) ≤ 5 by decide), decide_eq_true (show (5 : Int) ≤ 1000000 by decide), decide_eq_true (show (y + 40009 * (z + 1)).natAbs < 2 ^ 64 by omega)]
      rfl
    obtain ⟨o, ho⟩ : ∃ o, o = ((y + 40009 * (z + 1)) ^ 5).fmod 2147483629 := ⟨_, rfl⟩
    have o1 : 0 ≤ o ∧ o < 2147483629 := by rw [ho]; exact fmod_in (by decide)
    have m2 : mulOk o (o.fmod 39373 + 11) = true := by
      unfold mulOk
      rw [decide_eq_true (show -(2 ^ 64) < o by omega), decide_eq_true (show o < 2 ^ 64 by omega)]
      rfl
    refine ⟨(((o * (o.fmod 39373 + 11) + (z + 1) * 6151).fmod 2147483647).fdiv 64).fmod n, 0, z + 1, [some (.ref r), some (.int n), none, some (.int o)], (fmod_in hn).1, (fmod_in hn).2, Int.le_refl _, by omega, by omega, ?_⟩
    · simp [drawI, exs, ex, ev, evs, doE, mbind, mret, T.bind, T.resc, mopt, ixD, itemsD, hs, hset, atI, ixN, cmpD, truthD, binD, mif, n0, na, setSubD, m1, m3, p1, ← ho, m2]
theorem box_run {s : Nat} {xs : List Int} {k : Int} (hs : st[s]? = some (.lst false (xs.map D.int))) (hk : 0 ≤ k) (hk2 : k < 1000) : ∃ x y env', 0 ≤ x ∧ 0 ≤ y ∧ y < 2 ^ 40 ∧
    exs C boxI [some (.ref s), some (.int k), none] st = .ret ((.ret (.ref st.length), env'), st ++ [.lst true [.int x, .int y, .int 0]]) := by
  have key : ∀ c : Int, ∃ x y, 0 ≤ x ∧ 0 ≤ y ∧ y < 2 ^ 40 ∧ exs C (.cons (.ret (.lst (.cons (.bin .Mult (.blt .abs (es1 (.var 2))) (.blt .int (es1 (.cmp .GtE (.blt .abs (es1 (.var 2))) (.bin .Pow (.cint 10) (.cint 18))))))
    (.cons (.bin .Add (.bin .Add (.bin .Mod (.var 2) (.cint 2147483587)) (.bin .Mult (.cint 7907) (.var 1))) (.cint 31)) (.cons (.cint 0) .nil))))) .nil) [some (.ref s), some (.int k), some (.int c)] st = .ret ((.ret (.ref st.length), [some (.ref s), some (.int k), some (.int c)]), st ++ [.lst true [.int x, .int y, .int 0]]) := by
    intro c
    have f := fmod_in (i := c) (j := 2147483587) (by decide)
    have p1 : powOk 10 18 = true := by decide
    have m1 : mulOk 7907 k = true := by
      unfold mulOk
      rw [show decide (-(2 ^ 64) < (7907 : Int)) = true from rfl, show decide ((7907 : Int) < 2 ^ 64) = true from rfl]
      rfl
    obtain ⟨a, ha⟩ : ∃ a, a = if c < 0 then -c else c := ⟨_, rfl⟩
    have a0 : 0 ≤ a := by
      rw [ha]
      split <;> omega
    have m2 : ∀ b : Bool, mulOk a (if b = true then 1 else 0) = true := by
      intro b
      unfold mulOk
      cases b <;> simp
    refine ⟨a * (if decide (10 ^ 18 ≤ a) = true then 1 else 0), c.fmod 2147483587 + 7907 * k + 31, ?_, by omega, by omega, ?_⟩
    · split
      · omega
      · omega
    · have m3 := m2 (decide (10 ^ 18 ≤ a))
      simp [es1, exs, ex, ev, evs, doE, mbind, mret, mnew, T.bind, T.resc, mopt, cmpD, binD, mif, bltD, p1, m1, fits, lim, ← ha] at m3 ⊢
      rw [m3]
      rfl
  have step : ∀ c : Int, ex C (.set 2 (.ite (.cmp .Lt (.var 1) (.blt .len (es1 (.var 0)))) (.ix (.var 0) (.var 1)) (.cint 0))) [some (.ref s), some (.int k), none] st = .ret ((.next, [some (.ref s), some (.int k), some (.int c)]), st) →
      ∃ x y env', 0 ≤ x ∧ 0 ≤ y ∧ y < 2 ^ 40 ∧ exs C boxI [some (.ref s), some (.int k), none] st = .ret ((.ret (.ref st.length), env'), st ++ [.lst true [.int x, .int y, .int 0]]) := by
    intro c hc
    obtain ⟨x, y, h1, h2, h3, h4⟩ := key c
    refine ⟨x, y, [some (.ref s), some (.int k), some (.int c)], h1, h2, h3, ?_⟩
    rw [← h4, boxI, exs, mbind, hc]
    rfl
  by_cases h : k < xs.length
  · have hk3 : k.toNat < xs.length := by omega
    refine step (xs[k.toNat]) ?_
    simp [ex, ev, evs, es1, doE, mbind, mret, T.bind, T.resc, mopt, cmpD, bltD, itemsD, hs, ixD, atI, ixN, truthD, h, hk, hk3]
  · refine step 0 ?_
    simp [ex, ev, evs, es1, doE, mbind, mret, T.bind, T.resc, mopt, cmpD, bltD, itemsD, hs, ixD, atI, ixN, truthD, h, hk]
end
end DI
end
section
namespace DI
open PySem L2 PySem.Spec
open PyProof.Rows hiding St
section
theorem tri_to_nox {β : Type} {t : T β} {b : Nat} {P : Nat → β → Prop} {X : Nat → Ex → Store → Prop} (h : Tri t b P NX) : Tri t.nox b P X := by
  induction t generalizing b with
  | ret a => exact h
  | draw n k ih =>
    obtain ⟨b', e, h⟩ := h
    exact ⟨b', e, fun v h0 h1 => ih v (h v h0 h1)⟩
  | exc x st => exact h.elim
  | stuck => exact h.elim
/-- a def of the text: its name, how it is run, where it stands, its parameters, its names, its body -/
structure Df where
  name : Str
  fn : Fn
  st : Stmt
  ps : List Str
  N : List Str
  body : ISs
def Df.cc (d : Df) : CC := ⟨d.N, defScope d.st, (defScope d.st).names⟩
def scopeB (N ps : List Str) (sc : Scope) : Bool :=
  (match sc.kind with | .function => true | _ => false) && !sc.isCoroutine && !sc.isGenerator && decide N.Nodup && decide (N.take ps.length = ps) &&
    ps.all (fun x => match sc.names.lookup x with | some .local | some .cell => true | _ => false) && sc.names.all (fun y => match y.2 with | .free => false | _ => true)
theorem scope_of {N ps : List Str} {sc : Scope} (h : scopeB N ps sc = true) : FnScope N ps sc := by
  obtain ⟨h, h7⟩ := and2 h
  obtain ⟨h, h6⟩ := and2 h
  obtain ⟨h, h5⟩ := and2 h
  obtain ⟨h, h4⟩ := and2 h
  obtain ⟨h, h3⟩ := and2 h
  obtain ⟨h1, h2⟩ := and2 h
  refine ⟨?_, by simpa using h2, by simpa using h3, of_decide_eq_true h4, of_decide_eq_true h5, fun x hx => ?_, fun y hy => ?_⟩
  · split at h1
    · assumption
    · cases h1
  · have q := List.all_eq_true.mp h6 x hx
    split at q
    · exact .inl (by assumption)
    · exact .inr (by assumption)
    · cases q
  · have q := List.all_eq_true.mp h7 y hy
    intro z
    rw [z] at q
    cases q
def isBlk : ISs → ISs → Bool := fun _ _ => true
/-- the check of a def -/
def Df.chk (T : Ck) (d : Df) : Bool := scopeB d.N d.ps (defScope d.st) && okSs T d.cc d.body (defBody d.st)
/-- its run is that of its body -/
inductive Df.Runs : Df → Prop
  | code {d : Df} : d.fn = .code d.ps d.N.length d.body → d.ps.length ≤ d.N.length → d.Runs
  | draw {d : Df} : d.fn = .draw → d.body = drawI → d.ps.length = 2 → d.N.length = 4 → d.Runs
  | box {d : Df} : d.fn = .box → d.body = boxI → d.ps.length = 2 → d.N.length = 3 → d.Runs
variable {T : Ck} {RX : XRel} {P : Program} {w : World} {K : PySem.W.Frag} {mg : Str → Option Value} {base : Heap} {k : Nat}
/-- what the module tells of a def -/
structure DfAt (T : Ck) (K : PySem.W.Frag) (mg : Str → Option Value) (d : Df) : Prop where
  ex : ∃ (fa : Addr) (fd : FuncData), Fun K d.name d.name d.st fa fd ∧ mg d.name = some (.ref fa) ∧ Binds K fd d.ps [] ∧ ∀ n ks, (d.name, n, ks) ∈ T.KW → ∀ o, kordT T.F d.name n ks = some o → KwOk fd d.ps n ks o
theorem start_env {α : List Addr} {H : Hp} {N : List Str} {ds : List D} {vs : List V} (r : RDs K α H ds vs) : REnv K α H (ds.map some ++ List.replicate (N.length - ds.length) none) (L2.start N vs) := by
  have hl := r.length
  refine ⟨?_, fun i d h => ?_⟩
  · unfold L2.start
    rw [List.length_append, List.length_append, List.length_map, List.length_map, List.length_replicate, List.length_replicate, hl]
  · by_cases hi : i < ds.length
    · rw [List.getElem?_append_left (by rw [List.length_map]; exact hi), List.getElem?_map] at h
      cases e : ds[i]? with
      | none =>
        rw [e] at h
        cases h
      | some x =>
        rw [e] at h
        cases h
        obtain ⟨v, q1, q2⟩ := r.get e
        refine ⟨v, ?_, q2⟩
        unfold L2.start
        rw [List.getElem?_append_left (by rw [List.length_map, ← hl]; exact hi), List.getElem?_map, q1]
        rfl
    · rw [List.getElem?_append_right (by rw [List.length_map]; omega), List.getElem?_replicate] at h
      split at h <;> cases h
/-- a def's body, read by its run -/
theorem fn_body {d : Df} {fa : Addr} {fd : FuncData} {sp : Sp} (G : Gd T.F T.KW T.mods RX P w K mg base k) (F : Fun K d.name d.name d.st fa fd) (hc : d.chk T = true) (len : ∀ vs H Q E, sp vs H Q E → vs.length = d.ps.length)
    (hsp : ∀ vs H Q E, sp vs H Q E → ∃ α st b ds, Rel K α H st b ∧ RDs K α H ds vs ∧ Tri (exs (cfg T.F k) d.body (ds.map some ++ List.replicate (d.N.length - ds.length) none) st) b (PostS K RX (fun cls dd _ H => E cls dd H) α H { nx := fun _ H' => Q .non H', rt := Q }) NX) :
    FnG P w K mg base (k + 1) fa fd d.ps sp := by
  obtain ⟨h1, h2⟩ := and2 hc
  have S := scope_of h1
  refine fnG_of F S len fun cdv A outer s H vs Q E hr hg h => ?_
  have GXX : GXk T RX k d.cc (cxOf (L2.CX P w) P w K mg base d.N d.name (defScope d.st) fa cdv A outer s H E) := by
    refine ⟨G, rfl, rfl, S.nd, rfl, hr, hg, fun x hx => ?_⟩
    have hx : (match (defScope d.st).names.lookup x with | some .local | some .cell => true | _ => false) = true := hx
    split at hx
    · rename_i e
      exact ⟨.inl e, .inl rfl⟩
    · rename_i e
      exact ⟨.inr e, .inl rfl⟩
    · cases hx
  refine ⟨_, all_ss T RX k d.body d.cc _ (fun cls dd _ H => E cls dd H) GXX (takes_of rfl rfl rfl rfl) (passes_of rfl) _ h2, ?_⟩
  obtain ⟨α, st, b, ds, R, r, h⟩ := hsp vs H Q E h
  exact ⟨α, st, b, _, R, start_env r, h⟩
theorem spI_len {f : Str} {ps : List Str} {n : Nat} {body : ISs} {k : Nat} (hF : T.F.lookup f = some (.code ps n body)) : ∀ vs H Q E, spI T.F RX K k f vs H Q E → vs.length = ps.length := by
  rintro vs H Q E ⟨α, st, b, ds, R, r, h⟩
  cases k with
  | zero => exact h.elim
  | succ k =>
    unfold run at h
    rw [hF] at h
    dsimp only at h
    rw [← r.length]
    cases e : decide (ds.length = ps.length) with
    | false =>
      rw [e] at h
      exact h.elim
    | true => exact of_decide_eq_true e
theorem fn_code {d : Df} {fa : Addr} {fd : FuncData} (G : Gd T.F T.KW T.mods RX P w K mg base k) (F : Fun K d.name d.name d.st fa fd) (hc : d.chk T = true) (hF : T.F.lookup d.name = some d.fn) (hd : d.fn = .code d.ps d.N.length d.body) :
    FnG P w K mg base (k + 1) fa fd d.ps (spI T.F RX K (k + 1) d.name) := by
  rw [hd] at hF
  refine fn_body G F hc (spI_len hF) fun vs H Q E h => ?_
  obtain ⟨α, st, b, ds, R, r, h⟩ := h
  refine ⟨α, st, b, ds, R, r, ?_⟩
  unfold run at h
  rw [hF] at h
  dsimp only at h
  cases e : decide (ds.length = d.ps.length) with
  | false =>
    rw [e] at h
    exact h.elim
  | true =>
    rw [e] at h
    refine tri_mono (tri_nox (X' := NX) (tri_bind.mp h)) (fun b1 p _ h1 α1 H1 σ1 x1 R1 E1 => ?_) fun _ _ _ _ q => q
    obtain ⟨⟨fl, env1⟩, st1⟩ := p
    cases fl with
    | next => exact h1 α1 H1 .non x1 R1 .non
    | brk => exact h1.elim
    | cont => exact h1.elim
    | ret dv => exact fun v rv => h1 α1 H1 v x1 R1 rv
    | exc x => exact fun cls dd rx => h1 α1 H1 cls dd x1 R1 rx
theorem fn_draw {d : Df} {fa : Addr} {fd : FuncData} (G : Gd T.F T.KW T.mods RX P w K mg base k) (F : Fun K d.name d.name d.st fa fd) (hc : d.chk T = true) (hF : T.F.lookup d.name = some d.fn) (hd : d.fn = .draw) (hb : d.body = drawI) (h2 : d.ps.length = 2) (h4 : d.N.length = 4) :
    FnG P w K mg base (k + 1) fa fd d.ps (spI T.F RX K (k + 1) d.name) := by
  rw [hd] at hF
  have key : ∀ vs H Q E, spI T.F RX K (k + 1) d.name vs H Q E → ∃ α st b r n, Rel K α H st b ∧ RDs K α H [.ref r, .int n] vs ∧ st[r]? = some .rng ∧ 0 < n ∧ n < 1073741824 ∧ ∃ b', b = b' + 1 ∧ ∀ v, 0 ≤ v → v < n → PostV K α H Q b' (.int v, st) := by
    rintro vs H Q E ⟨α, st, b, ds, R, rds, h⟩
    unfold run at h
    rw [hF] at h
    dsimp only at h
    split at h
    · rename_i r n
      split at h
      · rename_i hr
        split at h
        · rename_i hn
          obtain ⟨n1, n2⟩ := and2 hn
          obtain ⟨b', e, h⟩ := h
          exact ⟨α, st, b, r, n, R, rds, hr, of_decide_eq_true n1, of_decide_eq_true n2, b', e, h⟩
        · exact h.elim
      · exact h.elim
    · exact h.elim
  refine fn_body G F hc (fun vs H Q E h => ?_) fun vs H Q E h => ?_
  · obtain ⟨α, st, b, r, n, R, rd, _⟩ := key vs H Q E h
    rw [← rd.length, h2]
    rfl
  · obtain ⟨α, st, b, r, n, R, rd, hr, n1, n2, b', rfl, hq⟩ := key vs H Q E h
    obtain ⟨a, ha⟩ := R.addr hr
    obtain ⟨x, y, z, e1, x0, y0, y1, z0, z1⟩ := R.at_ r _ a hr ha
    have hl : r < st.length := (List.getElem?_eq_some_iff.mp hr).1
    -- the source as a list
    have Hs : upd H a (.lst [.int x, .int y, .int z]) = H := by
      funext c
      by_cases hc : c = a
      · subst hc
        rw [upd_same, e1]
      · rw [upd_ne hc]
    have R1 : Rel K α H (st.set r (.lst true [.int x, .int y, .int z])) (b' + 1) := by
      have q := R.setS (o := .lst [.int x, .int y, .int z]) (so' := .lst true [.int x, .int y, .int z]) hr rfl ha ⟨_, upd_same, .cons (.int _) (.cons (.int _) (.cons (.int _) .nil))⟩
      rw [Hs] at q
      exact q
    have hb0 := R.bud
    obtain ⟨v, x', z', env', v0, v1, x'0, z'0, z'1, he⟩ := draw_run (C := cfg T.F k) (st := st.set r (.lst true [.int x, .int y, .int z])) (r := r) (x := x) (y := y) (z := z) (n := n) (List.getElem?_set_self hl) x0 y0 y1 z0 (by omega) n1 n2
    refine ⟨α, _, b', [.ref r, .int n], R1.less (Nat.le_succ _), rd, ?_⟩
    rw [hb, h4]
    show Tri (exs (cfg T.F k) drawI [some (.ref r), some (.int n), none, none] _) _ _ _
    rw [he]
    intro α1 H1 σ1 x1 R2 E2 u ru
    cases ru
    have ha1 := x1.pre _ _ ha
    have hs2 : ((st.set r (.lst true [.int x, .int y, .int z])).set r (.lst true [.int x', .int y, .int z']))[r]? = some (.lst true [.int x', .int y, .int z']) := List.getElem?_set_self (by rw [List.length_set]; exact hl)
    obtain ⟨us, g1, g2⟩ := R2.lstW hs2 ha1
    have g3 : us = [.int x', .int y, .int z'] := by
      cases g2 with
      | cons a1 g2 =>
        cases a1
        cases g2 with
        | cons a2 g2 =>
          cases a2
          cases g2 with
          | cons a3 g2 =>
            cases a3
            cases g2
            rfl
    subst g3
    have Hs1 : upd H1 a (.lst [.int x', .int y, .int z']) = H1 := by
      funext c
      by_cases hc : c = a
      · subst hc
        rw [upd_same, g1]
      · rw [upd_ne hc]
    have R3 := R2.setS (o := .lst [.int x', .int y, .int z']) (so' := .rng) hs2 rfl ha1 ⟨x', y, z', upd_same, x'0, y0, y1, z'0, by omega⟩
    rw [Hs1, List.set_set, List.set_set] at R3
    have e5 : st.set r .rng = st := by
      refine List.ext_getElem? fun j => ?_
      by_cases hj : r = j
      · subst hj
        rw [List.getElem?_set_self hl, hr]
      · rw [List.getElem?_set_ne hj]
    rw [e5] at R3
    exact hq v v0 v1 α1 H1 _ x1 R3 (.int _)
theorem intsD_of : ∀ {xs : List D} {ns : List Int}, intsD xs = some ns → xs = ns.map D.int
  | [], _, h => by
    cases h
    rfl
  | x :: xs, ns, h => by
    cases x with
    | int i =>
      have h : (intsD xs).map (i :: ·) = some ns := h
      cases e : intsD xs with
      | none =>
        rw [e] at h
        cases h
      | some ms =>
        rw [e] at h
        cases h
        rw [intsD_of e]
        rfl
    | _ => cases h
theorem fn_box {d : Df} {fa : Addr} {fd : FuncData} (G : Gd T.F T.KW T.mods RX P w K mg base k) (F : Fun K d.name d.name d.st fa fd) (hc : d.chk T = true) (hF : T.F.lookup d.name = some d.fn) (hd : d.fn = .box) (hb : d.body = boxI) (h2 : d.ps.length = 2) (h4 : d.N.length = 3) :
    FnG P w K mg base (k + 1) fa fd d.ps (spI T.F RX K (k + 1) d.name) := by
  rw [hd] at hF
  have key : ∀ vs H Q E, spI T.F RX K (k + 1) d.name vs H Q E → ∃ α st b s j, ∃ xs : List Int, Rel K α H st b ∧ RDs K α H [.ref s, .int j] vs ∧ st[s]? = some (.lst false (xs.map D.int)) ∧ 0 ≤ j ∧ j < 1000 ∧ PostV K α H Q b (.ref st.length, st ++ [.rng]) := by
    rintro vs H Q E ⟨α, st, b, ds, R, rds, h⟩
    unfold run at h
    rw [hF] at h
    dsimp only at h
    split at h
    · rename_i s j
      split at h
      · rename_i xs hs
        split at h
        · rename_i ns e1 hn
          obtain ⟨n1, n2⟩ := and2 hn
          rw [intsD_of e1] at hs
          exact ⟨α, st, b, s, j, ns, R, rds, hs, of_decide_eq_true n1, of_decide_eq_true n2, h⟩
        · exact h.elim
      · exact h.elim
    · exact h.elim
  refine fn_body G F hc (fun vs H Q E h => ?_) fun vs H Q E h => ?_
  · obtain ⟨α, st, b, s, j, xs, R, rd, _⟩ := key vs H Q E h
    rw [← rd.length, h2]
    rfl
  · obtain ⟨α, st, b, s, j, xs, R, rd, hs, j1, j2, hq⟩ := key vs H Q E h
    obtain ⟨x, y, env', x0, y0, y1, he⟩ := box_run (C := cfg T.F k) hs j1 j2
    refine ⟨α, st, b, [.ref s, .int j], R, rd, ?_⟩
    rw [hb, h4]
    show Tri (exs (cfg T.F k) boxI [some (.ref s), some (.int j), none] _) _ _ _
    rw [he]
    intro α1 H1 σ1 x1 R2 E2 u ru
    have hlen : (st ++ [SO.lst true [.int x, .int y, .int 0]])[st.length]? = some (.lst true [.int x, .int y, .int 0]) := by
      rw [List.getElem?_append_right (Nat.le_refl _), Nat.sub_self]
      rfl
    obtain ⟨a, ha⟩ := R2.addr hlen
    obtain ⟨us, g1, g2⟩ := R2.lstW hlen ha
    have g3 : us = [.int x, .int y, .int 0] := by
      cases g2 with
      | cons a1 g2 =>
        cases a1
        cases g2 with
        | cons a2 g2 =>
          cases a2
          cases g2 with
          | cons a3 g2 =>
            cases a3
            cases g2
            rfl
    subst g3
    have Hs1 : upd H1 a (.lst [.int x, .int y, .int 0]) = H1 := by
      funext c
      by_cases hc : c = a
      · subst hc
        rw [upd_same, g1]
      · rw [upd_ne hc]
    have R3 := R2.setS (o := .lst [.int x, .int y, .int 0]) (so' := .rng) hlen rfl ha ⟨x, y, 0, upd_same, x0, y0, y1, Int.le_refl _, by have := R2.bud; omega⟩
    rw [Hs1, List.set_append_right _ _ (Nat.le_refl _), Nat.sub_self] at R3
    exact hq α1 H1 u x1 R3 ru
end
end DI
end
section
namespace DI
open PySem L2 PySem.Spec
open PyProof.Rows hiding St
section
variable {T : Ck} {RX : XRel} {P : Program} {w : World} {K : PySem.W.Frag} {mg : Str → Option Value} {base : Heap} {k : Nat} {defs : List Df}
def tabOf (defs : List Df) : Tab := defs.map fun d => (d.name, d.fn)
theorem tab_mem : ∀ {defs : List Df} {f : Str} {fn : Fn}, (tabOf defs).lookup f = some fn → ∃ d ∈ defs, d.name = f ∧ d.fn = fn
  | [], _, _, h => by cases h
  | d :: ds, f, fn, h => by
    have h : List.lookup f ((d.name, d.fn) :: tabOf ds) = some fn := h
    rw [List.lookup_cons] at h
    by_cases e : f = d.name
    · rw [e] at h
      simp at h
      exact ⟨d, List.mem_cons_self, e.symm, h⟩
    · rw [show (f == d.name) = false by simpa using e] at h
      obtain ⟨c, h1, h2⟩ := tab_mem (defs := ds) h
      exact ⟨c, List.mem_cons_of_mem _ h1, h2⟩
/-- every def keeps its promise, at every level -/
theorem gd_all (hT : T.F = tabOf defs) (hc : ∀ d ∈ defs, d.chk T = true ∧ d.Runs) (ha : ∀ d ∈ defs, DfAt T K mg d) (hb : ∀ x ∈ bltNames, mg x = none) (hm : ∀ x g, (x, g) ∈ T.mods → ∃ v, mg x = some v ∧ GvAt K g v) : ∀ k, Gd T.F T.KW T.mods RX P w K mg base k
  | 0 => by
    refine ⟨fun f fn hF => ?_, hb, hm⟩
    obtain ⟨d, hd, rfl, rfl⟩ := tab_mem (by rw [← hT]; exact hF)
    obtain ⟨fa, fd, F, h1, h2, h3⟩ := (ha d hd).ex
    refine ⟨fa, fd, d.ps, h1, F.kp, h2, ⟨?_, ?_⟩, h3⟩
    · rintro vs H Q E ⟨α, st, b, ds, R, r, h⟩
      exact h.elim
    · rintro A outer s H args us vs Q E hr hg e0 hb r ⟨α, st, b, ds, R, r, h⟩
      exact h.elim
  | k + 1 => by
    have G := gd_all hT hc ha hb hm k
    refine ⟨fun f fn hF => ?_, hb, hm⟩
    obtain ⟨d, hd, rfl, rfl⟩ := tab_mem (by rw [← hT]; exact hF)
    obtain ⟨fa, fd, F, h1, h2, h3⟩ := (ha d hd).ex
    obtain ⟨c1, c2⟩ := hc d hd
    refine ⟨fa, fd, d.ps, h1, F.kp, h2, ?_, h3⟩
    cases c2 with
    | code e1 e2 => exact fn_code G F c1 hF e1
    | draw e1 e2 e3 e4 => exact fn_draw G F c1 hF e1 e2 e3 e4
    | box e1 e2 e3 e4 => exact fn_box G F c1 hF e1 e2 e3 e4
end
/-! ### the law's call -/
section
variable {P : Program} {w : World} {K : PySem.W.Frag} {mg mb : Str → Option Value} {s : Shared} {a : Addr} {vs : List Value} {H : Hp}
theorem law_env (KX : K.In s.heap) (g1 : s.heap.Ns mainGlobals mg) (g2 : s.heap.Ns builtinsNs mb) (g3 : ∀ x : Str, x ≠ "__name__" → mb x = bootBuiltins x) (g4 : s.heap.NoLimit) (g5 : s.gens = #[])
    (ha : s.heap.get? a = some { cls := .type "list", data := .seq vs.toArray }) (ok : HOk P w H s.heap) (only : ∀ b, b ≠ a → H b = none) (hK : H a ≠ none → K.lookup a = none) :
    Env0 P w K mg (hidT s.heap H) callerA [] s H ∧ K.In (hidT s.heap H) ∧ (hidT s.heap H).Ns mainGlobals mg := by
  have ns : ∀ {b : Addr} {m : Str → Option Value}, s.heap.Ns b m → (hidT s.heap H).Ns b m := by
    rintro b m ⟨o, es, ep, e, d, r⟩
    by_cases hb : b = a
    · subst hb
      rw [ha] at e
      cases e
      cases (show Data.seq vs.toArray _ = Data.dict es ep from d)
    · exact ⟨o, es, ep, hidT_get e (only b hb), d, r⟩
  have hin : K.In (hidT s.heap H) := by
    intro b o e
    by_cases hb : b = a
    · subst hb
      cases q : H b with
      | none => exact hidT_get (KX b o e) q
      | some u =>
        have z := hK (by rw [q]; simp)
        rw [e] at z
        cases z
    · exact hidT_get (KX b o e) (only b hb)
  obtain ⟨mc, l1, l2⟩ := g4
  refine ⟨⟨rfl, ⟨hin, ns g1, ⟨mb, ns g2, g3⟩, ⟨mc, ns l1, l2⟩⟩, fun b o e => of_hidT e, by rw [hidT_size]; exact Nat.le_refl _, trivial, fun b z => ?_, ok, .of_eq g5⟩, hin, ns g1⟩
  cases (show b ∈ ([] : List Addr) from z)
/-- what the judge wants of the law's call -/
abbrev LawEnd (s : Shared) (r : Result) (s' : Shared) : Prop := r = .ok (.ret (.bool true)) ∧ OldK s.heap s'.heap ∧ s'.os = s.os ∧ AllBare s'.gens
theorem law_end {r : Result} {s' : Shared} (ok : HOk P w H s.heap) (hO : ∀ b, H b = none ∨ ∃ o xs, H b = some (.frz o (.lst xs)))
    (h : CR (L2.CX P w) [] P w H s (fun v _ => v = .bl true) (fun _ _ _ => False) r s') : LawEnd s r s' := by
  cases r with
  | error e =>
    obtain ⟨_, _, _, _, _, _, _, _, _, _, _, _, z⟩ := h
    exact z.elim
  | ok fl =>
    cases fl with
    | ret u =>
      obtain ⟨v, H', h1, h2, un, ok', rv, hv⟩ := h
      cases (show v = .bl true from hv)
      cases (show u = Value.bool true from rv)
      refine ⟨rfl, OldK.of_keep fun b o e => ?_, h1, h2⟩
      rcases hO b with z | ⟨ob, xs, z⟩
      · exact un.keep b o e z (by intro q; cases (show b ∈ ([] : List Addr) from q)) (by simp)
      · have q1 := (ok b _ z).1
        have q2 := (ok' b _ (un.frzs b ob _ z)).1
        rw [e] at q1
        cases q1
        exact q2
    | _ => exact False.elim h
/-- the law's call, from its run -/
theorem law_run {F : Tab} {RX : XRel} {k : Nat} {fa : Addr} {fd : FuncData} {f x : Str} {ns : List Int} (KX : K.In s.heap) (g1 : s.heap.Ns mainGlobals mg) (g2 : s.heap.Ns builtinsNs mb) (g3 : ∀ x : Str, x ≠ "__name__" → mb x = bootBuiltins x) (g4 : s.heap.NoLimit) (g5 : s.gens = #[])
    (ha : s.heap.get? a = some { cls := .type "list", data := .seq vs.toArray }) (hi : IntsAre vs ns) (hl : ns.length ≤ sizeLine) (hr : Room k callerA)
    (hF : ∀ base : Heap, K.In base → base.Ns mainGlobals mg → FnG P w K mg base k fa fd [x] (spI F RX K k f)) (hbind : ∀ (s : Shared) (u : Value), BindsTo s fd ⟨[u], []⟩ [(x, u)])
    (h : Tri (run F k f [.ref 0] [.lst false (ns.map D.int)]) (2 ^ 40) (fun _ p => p.1 = .bl true) NX) :
    codeAny (model P w) callerA (.call (.ref fa) ⟨[.ref a], []⟩) (LawEnd s) s := by
  have rv := vals_ints hi
  have go : ∀ H : Hp, (∀ b, H b = none ∨ ∃ o xs, H b = some (.frz o (.lst xs))) → Fz K H a (ns.map V.int) → HOk P w H s.heap → (∀ b, b ≠ a → H b = none) → (H a ≠ none → K.lookup a = none) → codeAny (model P w) callerA (.call (.ref fa) ⟨[.ref a], []⟩) (LawEnd s) s := by
    intro H hO hS ok only hK
    obtain ⟨e0, i1, i2⟩ := law_env KX g1 g2 g3 g4 g5 ha ok only hK
    have rds : ∀ ns : List Int, RDs K [a] H (ns.map D.int) (ns.map V.int) := by
      intro ns
      induction ns with
      | nil => exact .nil
      | cons i r ih => exact .cons (.int i) ih
    have R : Rel K [a] H [.lst false (ns.map D.int)] (2 ^ 40) := by
      refine ⟨rfl, Nat.le_refl _, fun n so b h1 h2 => ?_, fun n m so so' b h1 h2 w1 w2 _ _ => ?_⟩
      · cases n with
        | zero =>
          cases h1
          cases h2
          exact ⟨_, hS, rds ns⟩
        | succ n => simp at h1
      · cases n with
        | zero =>
          cases h1
          cases w1
        | succ n => simp at h1
    have hsp : spI F RX K k f [.ref a] H (fun v _ => v = .bl true) (fun _ _ _ => False) := by
      refine ⟨[a], _, 2 ^ 40, [.ref 0], R, .cons (.ref rfl) .nil, tri_mono h (fun b p _ e α' H' v _ _ rd => ?_) fun _ _ _ _ z => z.elim⟩
      rw [e] at rd
      cases rd
      rfl
    exact codeAny_mono ((hF _ i1 i2).run callerA [] s H ⟨[.ref a], []⟩ [.ref a] [.ref a] _ _ hr rfl e0 (hbind s (.ref a)) (.cons rfl .nil) hsp) fun r s' q => law_end ok hO q
  cases hk : K.lookup a with
  | some o =>
    have e := KX a o hk
    rw [ha] at e
    cases e
    refine go (fun _ => none) (fun _ => .inl rfl) (.inr fun H' => .inr ⟨_, vs.toArray, _, hk, rfl, rfl, rfl, ?_, ?_⟩) (fun b u z => by cases z) (fun _ _ => rfl) fun z => absurd rfl z
    · rw [List.size_toArray, hi.length]
      exact hl
    · simpa using rv
  | none =>
    have at_ : ∀ {b : Addr} {u : HO}, (if b = a then some (HO.frz { cls := .type "list", data := .seq vs.toArray } (.lst (ns.map V.int))) else none) = some u → b = a ∧ u = .frz { cls := .type "list", data := .seq vs.toArray } (.lst (ns.map V.int)) := by
      intro b u z
      split at z
      · rename_i e
        cases z
        exact ⟨e, rfl⟩
      · cases z
    refine go (fun b => if b = a then some (.frz { cls := .type "list", data := .seq vs.toArray } (.lst (ns.map V.int))) else none) (fun b => ?_) (.inl ⟨_, if_pos rfl⟩) (fun b u z => ?_) (fun b hb => if_neg hb) fun _ => hk
    · cases q : (if b = a then some (HO.frz { cls := .type "list", data := .seq vs.toArray } (.lst (ns.map V.int))) else none) with
      | none => exact .inl rfl
      | some u => exact .inr ⟨_, _, by rw [(at_ q).2]⟩
    · obtain ⟨rfl, rfl⟩ := at_ z
      exact ⟨ha, by rw [List.length_map]; exact hl, vs, _, rv, ha⟩
end
/-- the goal that k_head leaves, from the law's run -/
theorem walkG {l : PySem.W.OpenLaw} {n k : Nat} {q : Program} {loose : List Str} {XP : (Str → Option Value) → Heap → Prop} {YP : World → Heap → Prop} {d : DefRec} {K : Params → PySem.W.Frag} {F : Tab} {RX : XRel} {f x : Str}
    (hn : l.most = some n) (hn2 : n ≤ sizeLine) (hdf : d.params.defaults = []) (hr : Room k callerA) (hY : ∀ (w : World) (h : Heap), YP w h → (K w.params).In h)
    (hF : ∀ (w : World) (mg : Str → Option Value) (fa : Addr) (h : Heap), (K w.params).In h → h.Ns mainGlobals mg → mg d.name = some (.ref fa) →
      ∃ fd : FuncData, (∀ (s : Shared) (u : Value), BindsTo s fd ⟨[u], []⟩ [(x, u)]) ∧ ∀ base : Heap, FnG l.prog w (K w.params) mg base k fa fd [x] (spI F RX (K w.params) k f))
    (h : ∀ ns : List Int, ns.length ≤ n → Tri (run F k f [.ref 0] [.lst false (ns.map D.int)]) (2 ^ 40) (fun _ p => p.1 = .bl true) NX) :
    PySem.W.WalkO q loose XP YP l.row.toRowW d [] (fun f vs => PySem.call f vs) := by
  refine Att.attach_call hn hdf fun w s₀ s₁ mg mb fa o pm cd doc a vs ns G Y ho hd hcd hmg hobj hints hlen hg => ?_
  obtain ⟨fd, h1, h2⟩ := hF w mg fa _ (hY w _ Y) G.T.g hmg
  exact law_run (hY w _ Y) G.T.g G.T.b G.T.builtins G.T.nolimit hg hobj hints (Nat.le_trans hlen hn2) hr (fun base _ _ => h2 base) h1 (h ns hlen)
end DI
end
section
/-! # Runs, read off -/
namespace DI
open PySem L2 PySem.Spec
open PyProof.Rows hiding St
theorem app_get {st : Store} {n : Nat} {s : SO} (h : st[n]? = some s) (g : Store) : (st ++ g)[n]? = some s := by
  rw [List.getElem?_append_left (List.getElem?_eq_some_iff.mp h).1]
  exact h
theorem mid_get (st : Store) (s : SO) (g : Store) : (st ++ s :: g)[st.length]? = some s := by
  rw [List.getElem?_append_right (Nat.le_refl _), Nat.sub_self]
  rfl
theorem mid_set (st : Store) (s s' : SO) (g : Store) : (st ++ s :: g).set st.length s' = st ++ s' :: g := by
  rw [List.set_append_right _ _ (Nat.le_refl _), Nat.sub_self]
  rfl
theorem items_app {st : Store} {x : D} {xs : List D} (h : itemsD st x = some xs) (g : Store) : itemsD (st ++ g) x = some xs := by
  cases x with
  | tup ys => exact h
  | ref n =>
    unfold itemsD at h ⊢
    dsimp only at h ⊢
    cases e : st[n]? with
    | none =>
      rw [e] at h
      cases h
    | some s =>
      rw [app_get e]
      rw [e] at h
      exact h
  | _ => cases h
/-- the store grows, nothing else -/
def Ev {β : Type} (t : T (β × Store)) (st : Store) (v : β) : Prop := ∃ g, t = .ret (v, st ++ g)
/-- a list comes -/
def EvL (t : T (D × Store)) (st : Store) (xs : List D) : Prop := ∃ g n, t = .ret (.ref n, st ++ g) ∧ (st ++ g)[n]? = some (.lst true xs)
def retF (p : (Fl × Evr) × Store) : T (D × Store) := match p.1.1 with
  | .ret v => .ret (v, p.2)
  | .next => .ret (.non, p.2)
  | .exc x => .exc x p.2
  | _ => .stuck
def il (ps : List Nat) : List D := ps.map fun (n : Nat) => D.int (n : Int)
theorem il_length (ps : List Nat) : (il ps).length = ps.length := List.length_map ..
theorem il_get {ps : List Nat} {i p : Nat} (h : ps[i]? = some p) : (il ps)[i]? = some (.int (p : Int)) := by
  unfold il
  rw [List.getElem?_map, h]
  rfl
/-- a comprehension whose turns only let the store grow -/
theorem lc_ev {turn : D → M (Option D)} {pl : Pl} {st0 : Store} {xs : List D} {f : D → D} (hit : ∀ acc g i, plItem (st0 ++ .lst true acc :: g) pl i = xs[i]?) (hend : ∀ acc g, plEnd (st0 ++ .lst true acc :: g) pl = true)
    (ht : ∀ x ∈ xs, ∀ acc g, ∃ g', turn x (st0 ++ .lst true acc :: g) = .ret (some (f x), st0 ++ .lst true acc :: g')) : ∀ m i acc g, i + m = xs.length → acc.length + m ≤ 1000 →
    ∃ g', lcLoop turn pl st0.length m i (st0 ++ .lst true acc :: g) = .ret ((), st0 ++ .lst true (acc ++ (xs.drop i).map f) :: g')
  | 0, i, acc, g, hi, hl => by
    refine ⟨g, ?_⟩
    unfold lcLoop
    rw [hend, List.drop_of_length_le (by omega), List.map_nil, List.append_nil]
    rfl
  | m + 1, i, acc, g, hi, hl => by
    have h1 : i < xs.length := by omega
    obtain ⟨g1, e1⟩ := ht xs[i] (List.getElem_mem h1) acc g
    obtain ⟨g2, e2⟩ := lc_ev hit hend ht m (i + 1) (acc ++ [f xs[i]]) g1 (by omega) (by rw [List.length_append]; show acc.length + 1 + m ≤ 1000; omega)
    refine ⟨g2, ?_⟩
    unfold lcLoop
    rw [hit, List.getElem?_eq_getElem h1]
    dsimp only
    rw [e1]
    dsimp only [T.nox, T.bind]
    rw [mid_get]
    dsimp only
    rw [show fits (acc.length + 1) = true from Nat.ble_eq.mpr (show acc.length + 1 ≤ 100000 by omega)]
    dsimp only
    rw [mid_set, e2, List.drop_eq_getElem_cons h1, List.map_cons, List.append_assoc]
    rfl
/-- a for whose turns go on -/
theorem for_ev {body : Evr → M (Fl × Evr)} {tg : ITg} {pl : Pl} {xs : List D} (I : Nat → Evr → Store → Prop) (hit : ∀ i env st, I i env st → plItem st pl i = xs[i]? ∧ plEnd st pl = true)
    (step : ∀ i x env st, xs[i]? = some x → I i env st → ∃ env1 env2 st2, bindTg tg x env = some env1 ∧ body env1 st = .ret ((.next, env2), st2) ∧ I (i + 1) env2 st2) :
    ∀ m i env st, i + m = xs.length → I i env st → ∃ env' st', forLoop body tg pl m i env st = .ret ((.next, env'), st') ∧ I xs.length env' st'
  | 0, i, env, st, hi, h => by
    refine ⟨env, st, ?_, ?_⟩
    · unfold forLoop
      rw [(hit i env st h).2]
      rfl
    · rw [show xs.length = i by omega]
      exact h
  | m + 1, i, env, st, hi, h => by
    have h1 : i < xs.length := by omega
    obtain ⟨env1, env2, st2, e1, e2, h2⟩ := step i xs[i] env st (List.getElem?_eq_getElem h1) h
    obtain ⟨env', st', e3, h3⟩ := for_ev I hit step m (i + 1) env2 st2 (by omega) h2
    refine ⟨env', st', ?_, h3⟩
    unfold forLoop
    rw [(hit i env st h).1, List.getElem?_eq_getElem h1]
    dsimp only
    rw [e1]
    dsimp only
    rw [e2]
    dsimp only [T.bind]
    exact e3
/-- what walks a sequence -/
def seqPl (st : Store) : D → Option Pl
  | .tup xs => some (.tup xs)
  | .ref n => match st[n]? with
    | some (.lst _ xs) => some (.lst n xs.length)
    | _ => none
  | _ => none
def enumPl (st : Store) : D → Option Pl
  | .tup xs => some (.enumT xs)
  | .ref n => match st[n]? with
    | some (.lst _ xs) => some (.enumL n xs.length)
    | _ => none
  | _ => none
def enumD (i : Nat) : List D → List D
  | [] => []
  | x :: xs => .pr (.int (i : Int)) x :: enumD (i + 1) xs
theorem enumD_get : ∀ (xs : List D) (j i : Nat), (enumD j xs)[i]? = (xs[i]?).map fun x => .pr (.int ((j + i : Nat) : Int)) x
  | [], j, i => by simp [enumD]
  | x :: xs, j, 0 => by simp [enumD]
  | x :: xs, j, i + 1 => by
    rw [enumD, List.getElem?_cons_succ, List.getElem?_cons_succ, enumD_get xs (j + 1) i, show j + 1 + i = j + (i + 1) by omega]
theorem enumD_length : ∀ (xs : List D) (j : Nat), (enumD j xs).length = xs.length
  | [], _ => rfl
  | x :: xs, j => by rw [enumD, List.length_cons, List.length_cons, enumD_length xs]
theorem seq_pl {st : Store} {x : D} {xs : List D} (h : itemsD st x = some xs) : ∃ pl, plLen pl = xs.length ∧ ∀ g, seqPl (st ++ g) x = some pl ∧ (∀ i, plItem (st ++ g) pl i = xs[i]?) ∧ plEnd (st ++ g) pl = true := by
  cases x with
  | tup ys =>
    cases h
    exact ⟨_, rfl, fun g => ⟨rfl, fun i => rfl, rfl⟩⟩
  | ref n =>
    unfold itemsD at h
    dsimp only at h
    split at h
    · rename_i w ys e
      cases h
      refine ⟨.lst n xs.length, rfl, fun g => ?_⟩
      have q : lstAt (st ++ g) n xs.length = some xs := by
        unfold lstAt
        rw [app_get e]
        dsimp only
        rw [if_pos rfl]
      exact ⟨by unfold seqPl; dsimp only; rw [app_get e], fun i => by show (lstAt (st ++ g) n xs.length).bind _ = _; rw [q]; rfl, by show (lstAt (st ++ g) n xs.length).isSome = true; rw [q]; rfl⟩
    · cases h
  | _ => cases h
theorem enum_pl {st : Store} {x : D} {xs : List D} (h : itemsD st x = some xs) : ∃ pl, plLen pl = xs.length ∧ ∀ g, enumPl (st ++ g) x = some pl ∧ (∀ i, plItem (st ++ g) pl i = (enumD 0 xs)[i]?) ∧ plEnd (st ++ g) pl = true := by
  cases x with
  | tup ys =>
    cases h
    exact ⟨_, rfl, fun g => ⟨rfl, fun i => by rw [enumD_get, Nat.zero_add]; rfl, rfl⟩⟩
  | ref n =>
    unfold itemsD at h
    dsimp only at h
    split at h
    · rename_i w ys e
      cases h
      refine ⟨.enumL n xs.length, rfl, fun g => ?_⟩
      have q : lstAt (st ++ g) n xs.length = some xs := by
        unfold lstAt
        rw [app_get e]
        dsimp only
        rw [if_pos rfl]
      exact ⟨by unfold enumPl; dsimp only; rw [app_get e], fun i => by show (lstAt (st ++ g) n xs.length).bind _ = _; rw [q, enumD_get, Nat.zero_add]; rfl, by show (lstAt (st ++ g) n xs.length).isSome = true; rw [q]; rfl⟩
    · cases h
  | _ => cases h
theorem evIt_seq {C : Cfg} {e : IE} {env : Evr} {st st1 : Store} {x : D} {pl : Pl} (h : ev C e env st = .ret (x, st1)) (hp : seqPl st1 x = some pl) : evIt C (.seq e) env st = .ret (pl, st1) := by
  unfold evIt mbind
  rw [h]
  cases x with
  | tup xs =>
    cases hp
    rfl
  | ref n =>
    unfold seqPl at hp
    dsimp only [T.bind] at hp ⊢
    split at hp
    · rename_i e1
      cases hp
      first | rfl | (rw [e1] <;> rfl) | rw [e1]
    · cases hp
  | _ => cases hp
theorem evIt_enum {C : Cfg} {e : IE} {env : Evr} {st st1 : Store} {x : D} {pl : Pl} (h : ev C e env st = .ret (x, st1)) (hp : enumPl st1 x = some pl) : evIt C (.enum e) env st = .ret (pl, st1) := by
  unfold evIt mbind
  rw [h]
  cases x with
  | tup xs =>
    cases hp
    rfl
  | ref n =>
    unfold enumPl at hp
    dsimp only [T.bind] at hp ⊢
    split at hp
    · rename_i e1
      cases hp
      first | rfl | (rw [e1] <;> rfl) | rw [e1]
    · cases hp
  | _ => cases hp
theorem atI_nat {α : Type} {xs : List α} {i : Nat} {x : α} (h : xs[i]? = some x) : atI xs (i : Int) = some x := by
  have h1 := (List.getElem?_eq_some_iff.mp h).1
  unfold atI ixN
  rw [if_pos (by omega), if_pos (by omega)]
  exact h
theorem ixD_items {st : Store} {x : D} {xs : List D} {i : Nat} {y : D} (h : itemsD st x = some xs) (hi : xs[i]? = some y) : ixD x (.int (i : Int)) st = .ret (y, st) := by
  unfold ixD
  cases x with
  | str z => cases h
  | _ =>
    dsimp only
    rw [h]
    dsimp only
    rw [atI_nat hi]
    rfl
theorem len_items {st : Store} {x : D} {xs : List D} (h : itemsD st x = some xs) : bltD .len [x] st = .ret (.int xs.length, st) := by
  unfold bltD
  cases x with
  | str z => cases h
  | _ =>
    dsimp only
    rw [h]
theorem exs_cons {C : Cfg} {s : IS} {ss : ISs} {env env' : Evr} {st st' : Store} (h : ex C s env st = .ret ((.next, env'), st')) : exs C (.cons s ss) env st = exs C ss env' st' := by
  rw [exs, mbind, h]
  rfl
theorem exs_ret {C : Cfg} {s : IS} {ss : ISs} {env env' : Evr} {st st' : Store} {v : D} (h : ex C s env st = .ret ((.ret v, env'), st')) : exs C (.cons s ss) env st = .ret ((.ret v, env'), st') := by
  rw [exs, mbind, h]
  rfl
theorem ex_set {C : Cfg} {i : Nat} {e : IE} {env : Evr} {st st' : Store} {x : D} (h : ev C e env st = .ret (x, st')) : ex C (.set i e) env st = .ret ((.next, env.set i (some x)), st') := by
  rw [ex, doE, h]
  rfl
theorem ex_expr {C : Cfg} {e : IE} {env : Evr} {st st' : Store} {x : D} (h : ev C e env st = .ret (x, st')) : ex C (.expr e) env st = .ret ((.next, env), st') := by
  rw [ex, doE, h]
  rfl
theorem ex_ret {C : Cfg} {e : IE} {env : Evr} {st st' : Store} {x : D} (h : ev C e env st = .ret (x, st')) : ex C (.ret e) env st = .ret ((.ret x, env), st') := by
  rw [ex, doE, h]
  rfl
theorem ex_for {C : Cfg} {tg : ITg} {it : IIt} {b : ISs} {env : Evr} {st st' : Store} {pl : Pl} (h : evIt C it env st = .ret (pl, st')) : ex C (.for tg it b) env st = forLoop (exs C b) tg pl (plLen pl) 0 env st' := by
  rw [ex, doE, h]
  rfl
theorem ev_var {C : Cfg} {i : Nat} {env : Evr} {st : Store} {x : D} (h : env[i]? = some (some x)) : ev C (.var i) env st = .ret (x, st) := by
  rw [ev, h]
  rfl
theorem evs_cons {C : Cfg} {e : IE} {es : IEs} {env : Evr} {st st1 st2 : Store} {x : D} {xs : List D} (h : ev C e env st = .ret (x, st1)) (h2 : evs C es env st1 = .ret (xs, st2)) : evs C (.cons e es) env st = .ret (x :: xs, st2) := by
  rw [evs, mbind, h]
  show ((mbind (evs C es env) fun xs => mret (x :: xs)) st1) = _
  rw [mbind, h2]
  rfl
theorem evs_nil {C : Cfg} {env : Evr} {st : Store} : evs C .nil env st = .ret ([], st) := rfl
theorem ev_blt {C : Cfg} {f : Blt} {es : IEs} {env : Evr} {st st1 : Store} {xs : List D} (h : evs C es env st = .ret (xs, st1)) : ev C (.blt f es) env st = bltD f xs st1 := by
  rw [ev, mbind, h]
  rfl
theorem ev_ix {C : Cfg} {a i : IE} {env : Evr} {st st1 st2 : Store} {x k : D} (h : ev C a env st = .ret (x, st1)) (h2 : ev C i env st1 = .ret (k, st2)) : ev C (.ix a i) env st = ixD x k st2 := by
  rw [ev, mbind, h]
  show (mbind (ev C i env) fun k => ixD x k) st1 = _
  rw [mbind, h2]
  rfl
theorem ev_bin {C : Cfg} {op : Operator} {a i : IE} {env : Evr} {st st1 st2 : Store} {x k : D} (h : ev C a env st = .ret (x, st1)) (h2 : ev C i env st1 = .ret (k, st2)) : ev C (.bin op a i) env st = binD op x k st2 := by
  rw [ev, mbind, h]
  show (mbind (ev C i env) fun k => binD op x k) st1 = _
  rw [mbind, h2]
  rfl
theorem ev_call {C : Cfg} {f : Str} {es : IEs} {env : Evr} {st st1 : Store} {xs : List D} (h : evs C es env st = .ret (xs, st1)) : ev C (.call f es) env st = C.call f xs st1 := by
  rw [ev, mbind, h]
  rfl
/-- a comprehension without a test -/
theorem ev_lc {C : Cfg} {own : List (Str × Nat)} {tg : ITg} {it : IIt} {e : IE} {env : Evr} {st st1 : Store} {pl : Pl} {xs : List D} {f : D → D} (h : evIt C it env st = .ret (pl, st1)) (hl : plLen pl = xs.length) (hl2 : xs.length ≤ 1000)
    (hp : ∀ g, (∀ i, plItem (st1 ++ g) pl i = xs[i]?) ∧ plEnd (st1 ++ g) pl = true)
    (ht : ∀ x ∈ xs, ∀ g, ∃ env' g', bindTg tg x (wipeE env (own.map (·.2))) = some env' ∧ ev C e env' (st1 ++ g) = .ret (f x, (st1 ++ g) ++ g')) :
    ∃ g, ev C (.lc own tg it .none e) env st = .ret (.ref st1.length, st1 ++ .lst true (xs.map f) :: g) := by
  obtain ⟨g, e1⟩ := lc_ev (turn := lcTurn C tg .none e (own.map (·.2)) env) (pl := pl) (st0 := st1) (xs := xs) (f := f) (fun acc g i => (hp _).1 i) (fun acc g => (hp _).2) (fun x hx acc g => by
        obtain ⟨env', g', q1, q2⟩ := ht x hx (.lst true acc :: g)
        refine ⟨g ++ g', ?_⟩
        rw [lcTurn, q1]
        dsimp only
        rw [mbind]
        show (mbind (ev C e env') fun y => mret (some y)) _ = _
        rw [mbind, q2, List.append_assoc]
        rfl) (plLen pl) 0 [] [] (by omega) (by show 0 + plLen pl ≤ 1000; omega)
  refine ⟨g, ?_⟩
  rw [ev, mbind, h]
  show T.bind (lcLoop (lcTurn C tg .none e (own.map (·.2)) env) pl st1.length (plLen pl) 0 (st1 ++ [.lst true []])) _ = _
  rw [e1]
  rfl
end DI
end
section
/-! # The same language over trees: no store; a name may own its list -/
namespace DI
open PySem L2

/-- a value with all that hangs on it -/
inductive PV where
  | non | bl (b : Bool) | int (i : Int) | str (x : Str) | tup (xs : List PV) | lst (xs : List PV)
  /-- the script -/
  | scr (ns : List Int)
  /-- a source of draws -/
  | rng
  /-- what enumerate and zip give: to be unpacked -/
  | pr (x y : PV)
/-- fz: never changed from here on; o1: the list is nobody else's; o2: its items are nobody else's either; b1, b2: the same, read off a name that keeps it -/
inductive Md where
  | fz | o1 | o2 | b1 | b2
  deriving DecidableEq
def Md.stB : Md → Bool
  | .b1 | .b2 => false
  | _ => true
def Md.cpB : Md → Bool
  | .b2 => false
  | _ => true
def Md.own1 : Md → Bool
  | .o1 => true
  | _ => false
abbrev MV := Md × PV
abbrev Slot := Option MV
abbrev PEnv := List Slot
inductive PT (α : Type) where
  | ret (a : α)
  | draw (n : Int) (k : Int → PT α)
  | exc (x : Ex)
  | stuck
def PT.bind {α β : Type} : PT α → (α → PT β) → PT β
  | .ret a, f => f a
  | .draw n k, f => .draw n fun v => (k v).bind f
  | .exc x, _ => .exc x
  | .stuck, _ => .stuck
def PT.nox {α : Type} : PT α → PT α
  | .ret a => .ret a
  | .draw n k => .draw n fun v => (k v).nox
  | .exc _ => .stuck
  | .stuck => .stuck
def PTri {α : Type} : PT α → Nat → (Nat → α → Prop) → (Nat → Ex → Prop) → Prop
  | .ret a, b, P, _ => P b a
  | .draw n k, b, P, X => ∃ b', b = b' + 1 ∧ ∀ v, 0 ≤ v → v < n → PTri (k v) b' P X
  | .exc x, b, _, X => X b x
  | .stuck, _, _, _ => False
def pif {α : Type} (c : Bool) (t : PT α) : PT α := match c with
  | true => t
  | false => .stuck
def popt {α : Type} (o : Option α) : PT α := match o with
  | some a => .ret a
  | none => .stuck
/-! ### data -/
def pyP : Nat → PV → Option PyData
  | 0, _ => none
  | _ + 1, .non => some .none
  | _ + 1, .bl b => some (.bool b)
  | _ + 1, .int i => some (.int i)
  | _ + 1, .str x => if strOkB x then some (.str x) else none
  | n + 1, .tup xs => match pysP n xs with
    | some ds => some (.tuple ds)
    | none => none
  | n + 1, .lst xs => match pysP n xs with
    | some ds => some (.list ds)
    | none => none
  | _ + 1, .scr _ => none
  | _ + 1, .rng => none
  | _ + 1, .pr _ _ => none
where pysP (n : Nat) : List PV → Option (List PyData)
  | [] => some []
  | x :: xs => match pyP n x, pysP n xs with
    | some d, some ds => some (d :: ds)
    | _, _ => none
/-! ### numbers, closed -/
def nI (n : Nat) : Int := n
def ltI (i j : Int) : Bool := decide (i < j)
def leI (i j : Int) : Bool := decide (i ≤ j)
def nzI (j : Int) : Bool := decide (j ≠ 0)
def smI (j : Int) : Bool := decide (j.natAbs < 1073741824)
def mulB (i j : Int) : Bool := mulOk i j
def powB (i j : Int) : Bool := powOk i j
def powI (i j : Int) : Int := i ^ j.toNat
def minI (i j : Int) : Int := if j < i then j else i
def maxI (i j : Int) : Int := if j > i then j else i
def absI (i : Int) : Int := if i < 0 then -i else i
def repB (k : Int) (n : Nat) : Bool := decide (0 ≤ k) && decide (k < 100000) && fits (n * k.toNat)
def repP {α : Type} (k : Int) (xs : List α) : List α := (List.replicate k.toNat xs).flatten
def lstrB (i : Int) : Bool := decide (i.natAbs.log2 < 1920)
def lcmB (i j : Int) : Bool := decide (i.natAbs < 2 ^ 64) && decide (j.natAbs < 2 ^ 64)
def lcmI (i j : Int) : Int := (Nat.lcm i.natAbs j.natAbs : Nat)
def rgB (n : Int) : Bool := decide (-100000 < n) && decide (n ≤ 100000)
/-- from -(n + 1) to n, by comparisons of naturals alone: a number that is not written out stays closed -/
def absB (n : Nat) : Int → Bool
  | .ofNat j => Nat.ble j n
  | .negSucc j => Nat.ble j n
theorem absB_def (n : Nat) (j : Int) : absB n j = (decide (-((n : Int) + 1) ≤ j) && decide (j < (n : Int) + 1)) := by
  cases j with
  | ofNat j =>
    show Nat.ble j n = _
    rw [Bool.eq_iff_iff, Nat.ble_eq, Bool.and_eq_true_iff, decide_eq_true_iff, decide_eq_true_iff]
    show j ≤ n ↔ -((n : Int) + 1) ≤ (j : Int) ∧ (j : Int) < (n : Int) + 1
    omega
  | negSucc j =>
    show Nat.ble j n = _
    rw [Bool.eq_iff_iff, Nat.ble_eq, Bool.and_eq_true_iff, decide_eq_true_iff, decide_eq_true_iff, Int.negSucc_eq]
    omega
def rg1B (j : Int) : Bool := absB 4611686018427387903 j
theorem rg1B_def (j : Int) : rg1B j = (decide (-(2 ^ 62) ≤ j) && decide (j < 2 ^ 62)) := absB_def 4611686018427387903 j
def rg2B (i j : Int) : Bool := rg1B i && rg1B j
theorem rg2B_def (i j : Int) : rg2B i j = (decide (-(2 ^ 62) ≤ i) && decide (i < 2 ^ 62) && decide (-(2 ^ 62) ≤ j) && decide (j < 2 ^ 62)) := by
  unfold rg2B
  rw [rg1B_def, rg1B_def]
  cases decide (-(2 ^ 62) ≤ i) <;> cases decide (i < 2 ^ 62) <;> rfl
def rg1P (j : Int) : List PV := (List.range j.toNat).map fun (i : Nat) => PV.int (i : Int)
def rg2P (i j : Int) : List PV := (List.range (j - i).toNat).map fun (n : Nat) => PV.int (i + (n : Int))
def srtP (ns : List Int) : List PV := (sortI ns).map PV.int
def lenZ (z : Str) : Nat := z.length
def catZ (a b : Str) : Str := a ++ b
def cutZ (z : Str) (lo hi : Option Int) : Str := cutS z lo hi
def upZ (z : Str) : Str := Txt.upper z
def istr (i : Int) : Str := toString i
def bstr (b : Bool) : Str := if b then "True" else "False"
def chrZ (z : Str) (k : Int) : Option Str := (atI z.cps.toList k).map fun c => ⟨#[c]⟩
/-! ### operators -/
def binP (op : Operator) (x y : MV) : PT MV := match op, x, y with
  | .Add, (_, .int i), (_, .int j) => .ret (.fz, .int (i + j))
  | .Add, (_, .bl i), (_, .int j) => .ret (.fz, .int (bI i + j))
  | .Sub, (_, .bl i), (_, .int j) => .ret (.fz, .int (bI i - j))
  | .Add, (_, .str i), (_, .str j) => pif (fits (lenZ i + lenZ j)) (.ret (.fz, .str (catZ i j)))
  | .Add, (m, .tup xs), (n, .tup ys) => pif (m.cpB && n.cpB && fits (xs.length + ys.length)) (.ret (.fz, .tup (xs ++ ys)))
  | .Add, (m, .lst xs), (n, .lst ys) => pif (m.cpB && n.cpB && fits (xs.length + ys.length)) (.ret (.o1, .lst (xs ++ ys)))
  | .Sub, (_, .int i), (_, .int j) => .ret (.fz, .int (i - j))
  | .Mult, (_, .int i), (_, .int j) => pif (mulB i j) (.ret (.fz, .int (i * j)))
  | .Mult, (m, .tup xs), (_, .int k) => pif (m.cpB && repTB k xs.length) (.ret (.fz, .tup (repP k xs)))
  | .Mult, (m, .lst xs), (_, .int k) => pif (m.cpB && repB k xs.length) (.ret (.o1, .lst (repP k xs)))
  | .FloorDiv, (_, .int i), (_, .int j) => pif (nzI j && smI j) (.ret (.fz, .int (i.fdiv j)))
  | .Mod, (_, .int i), (_, .int j) => pif (nzI j) (.ret (.fz, .int (i.fmod j)))
  | .Pow, (_, .int i), (_, .int j) => pif (powB i j) (.ret (.fz, .int (powI i j)))
  | _, _, _ => .stuck
def eqP (x y : PV) : Option Bool := match pyP deep x, pyP deep y with
  | some d, some e => some (PyData.eqv d e)
  | _, _ => none
def flatP : PV → Bool
  | .non | .bl _ | .int _ | .str _ => true
  | _ => false
def toVP : PV → V
  | .non => .non
  | .bl b => .bl b
  | .int i => .int i
  | .str x => .str x
  | _ => .non
def inP (x : PV) (xs : List PV) : Bool := xs.any fun y => eqV (toVP y) (toVP x)
def inPP (x y : PV) : Option Bool := match pyP deep x, pyP deep y with
  | some d, some (.list ds) => some (ds.any fun z => PyData.eqv z d)
  | some d, some (.tuple ds) => some (ds.any fun z => PyData.eqv z d)
  | _, _ => none
def inB (x y : PV) (xs : List PV) : Bool → Option Bool
  | true => some (inP x xs)
  | false => inPP x y
def inAnyP (x y : PV) (xs : List PV) : Option Bool := inB x y xs (flatP x && xs.all flatP)
def itemsP : PV → Option (List PV)
  | .tup xs => some xs
  | .lst xs => some xs
  | _ => none
def cmpP (op : CmpOp) (x y : PV) : PT Bool := match op with
  | .Eq => popt (eqP x y)
  | .NotEq => popt ((eqP x y).map (!·))
  | .Lt => match x, y with
    | .int i, .int j => .ret (ltI i j)
    | _, _ => .stuck
  | .LtE => match x, y with
    | .int i, .int j => .ret (leI i j)
    | _, _ => .stuck
  | .Gt => match x, y with
    | .int i, .int j => .ret (ltI j i)
    | _, _ => .stuck
  | .GtE => match x, y with
    | .int i, .int j => .ret (leI j i)
    | _, _ => .stuck
  | .Is => match y with
    | .non => .ret (match x with | .non => true | _ => false)
    | _ => .stuck
  | .IsNot => match y with
    | .non => .ret (match x with | .non => false | _ => true)
    | _ => .stuck
  | .In => match itemsP y with
    | some xs => popt (inAnyP x y xs)
    | none => .stuck
  | .NotIn => match itemsP y with
    | some xs => popt ((inAnyP x y xs).map (!·))
    | none => .stuck
def truthP : PV → PT Bool
  | .non => .ret false
  | .bl b => .ret b
  | .int i => .ret (i != 0)
  | .str y => pif (fits (lenZ y)) (.ret ((lenZ y : Int) != 0))
  | .tup xs => .ret (!xs.isEmpty)
  | .lst xs => .ret (!xs.isEmpty)
  | .scr xs => .ret (!xs.isEmpty)
  | .rng => .stuck
  | .pr _ _ => .stuck
def asBP : PV → PT Bool
  | .bl b => .ret b
  | _ => .stuck
/-- an item of a value so held -/
def itMd (m : Md) (x : PV) : Md := match m with
  | .b2 => match x with
    | .lst _ => .b1
    | _ => .fz
  | _ => .fz
def ixP (x : MV) (i : PV) : PT MV := match i with
  | .int k => match x with
    | (_, .str z) => pif (fits (lenZ z)) (popt ((chrZ z k).map fun c => (.fz, PV.str c)))
    | (m, .tup xs) => popt ((atI xs k).map fun y => (itMd m y, y))
    | (m, .lst xs) => popt ((atI xs k).map fun y => (itMd m y, y))
    | (_, .scr ns) => popt ((atI ns k).map fun y => (.fz, PV.int y))
    | _ => .stuck
  | _ => .stuck
def cutP (xs : List PV) (lo hi : Option Int) : List PV := (xs.drop (HT.sIx xs.length 0 lo)).take (HT.sIx xs.length xs.length hi - HT.sIx xs.length 0 lo)
def sliceP (x : MV) (lo hi : Option Int) : PT MV := match x with
  | (m, .tup xs) => pif m.cpB (.ret (.fz, .tup (cutP xs lo hi)))
  | (m, .lst xs) => pif m.cpB (.ret (.o1, .lst (cutP xs lo hi)))
  | (_, .str z) => pif (fits (lenZ z)) (.ret (.fz, .str (cutZ z lo hi)))
  | _ => .stuck
def revP (x : MV) : PT MV := match x with
  | (m, .lst xs) => pif m.cpB (.ret (.o1, .lst xs.reverse))
  | _ => .stuck
def tyP : PV → Option String
  | .non => some "NoneType"
  | .bl _ => some "bool"
  | .int _ => some "int"
  | .str _ => some "str"
  | .tup _ => some "tuple"
  | .lst _ => some "list"
  | .scr _ => some "list"
  | .rng => none
  | .pr _ _ => none
def isiP (x : PV) (tys : List String) : PT MV := popt ((tyP x).map fun a => (.fz, PV.bl (tys.any (isTy a))))
def intsP : List PV → Option (List Int)
  | [] => some []
  | .int i :: r => (intsP r).map (i :: ·)
  | _ :: _ => none
def blsP : List PV → Option (List Bool)
  | [] => some []
  | .bl i :: r => (blsP r).map (i :: ·)
  | _ :: _ => none
def rgItemsP (n : Nat) : List PV := (List.range n).map fun (i : Nat) => PV.int (i : Int)
def reprP (x : PV) : PT MV := match pyP deep x with
  | some d => pif (d.showable && fits d.shown.length) (.ret (.fz, .str d.shown))
  | none => .stuck
def bltP (f : Blt) (vs : List MV) : PT MV := match f, vs with
  | .len, [(_, x)] => match x with
    | .str z => pif (fits (lenZ z)) (.ret (.fz, .int (nI (lenZ z))))
    | .tup xs => .ret (.fz, .int (nI xs.length))
    | .lst xs => .ret (.fz, .int (nI xs.length))
    | .scr xs => .ret (.fz, .int (nI xs.length))
    | _ => .stuck
  | .list, [(m, x)] => match itemsP x with
    | some xs => pif m.cpB (.ret (.o1, .lst xs))
    | none => .stuck
  | .tuple, [(m, x)] => match itemsP x with
    | some xs => pif m.cpB (.ret (.fz, .tup xs))
    | none => .stuck
  | .all, [(_, .lst xs)] => match blsP xs with
    | some bs => .ret (.fz, .bl (bs.all id))
    | none => .stuck
  | .any, [(_, .lst xs)] => match blsP xs with
    | some bs => .ret (.fz, .bl (bs.any id))
    | none => .stuck
  | .abs, [(_, .int i)] => .ret (.fz, .int (absI i))
  | .int, [(_, .int i)] => .ret (.fz, .int i)
  | .int, [(_, .bl b)] => .ret (.fz, .int (if b then 1 else 0))
  | .str, [(_, .int i)] => pif (lstrB i) (.ret (.fz, .str (istr i)))
  | .str, [(_, .bl b)] => .ret (.fz, .str (bstr b))
  | .min2, [(_, .int i), (_, .int j)] => .ret (.fz, .int (minI i j))
  | .max2, [(_, .int i), (_, .int j)] => .ret (.fz, .int (maxI i j))
  | .lcm, [(_, .int i), (_, .int j)] => pif (lcmB i j) (.ret (.fz, .int (lcmI i j)))
  | .repr, [(_, x)] => reprP x
  | .sorted, [(_, x)] => match itemsP x with
    | some xs => match intsP xs with
      | some ns => pif (fits ns.length) (.ret (.o1, .lst (srtP ns)))
      | none => .stuck
    | none => .stuck
  | _, _ => .stuck
def rgP (l : Bool) (x : PV) : PT MV := match x with
  | .int n => pif (rgB n) (match l with | true => .ret (.o1, .lst (rg1P n)) | false => .ret (.fz, .tup (rg1P n)))
  | _ => .stuck
/-- the first place of an equal item -/
def idxP (xs : List PV) (y : PV) : Option Nat := xs.findIdx? fun z => eqV (toVP z) (toVP y)
/-- methods that change nothing -/
def methP (m : Mth) (o : PV) (vs : List PV) : PT MV := match m, o, vs with
  | .upper, .str z, [] => pif (fits (lenZ z)) (.ret (.fz, .str (upZ z)))
  | .index, .tup xs, [y] => pif (flatP y && xs.all flatP) (popt ((idxP xs y).map fun j => (.fz, .int (nI j))))
  | _, _, _ => .stuck
def recvP (m : Mth) (o : PV) : Bool := match m, o with
  | .upper, .str _ => true
  | .index, .tup _ => true
  | _, _ => false
/-- methods that change their list: what it becomes, what is answered -/
def mutP (m : Mth) (xs : List PV) (vs : List PV) : PT (List PV × PV) := match m, vs with
  | .append, [y] => pif (fits (xs.length + 1)) (.ret (xs ++ [y], .non))
  | .insert, [.int i, y] => pif (fits (xs.length + 1) && decide (0 ≤ i) && decide (i < 2 ^ 62)) (.ret (xs.take i.toNat ++ [y] ++ xs.drop i.toNat, .non))
  | .pop, [] => match xs[xs.length - 1]? with
    | some y => .ret (xs.dropLast, y)
    | none => .stuck
  | .popAt, [.int i] => match xs[i.toNat]? with
    | some y => pif (decide (0 ≤ i) && decide (i < 2 ^ 62)) (.ret (xs.eraseIdx i.toNat, y))
    | none => .stuck
  | _, _ => .stuck
def augP (op : Operator) (x y : PV) : PT PV := match op, x, y with
  | .Add, .int i, .int j => .ret (.int (i + j))
  | .Add, .str i, .str j => pif (fits (i.length + j.length)) (.ret (.str (i ++ j)))
  | .Sub, .int i, .int j => .ret (.int (i - j))
  | .Mult, .int i, .int j => pif (mulOk i j) (.ret (.int (i * j)))
  | _, _, _ => .stuck

/-! ### names -/
/-- a name's list is frozen; full: or its items alone -/
def frz1 (env : PEnv) (j : Nat) (full : Bool) : PEnv := match env[j]? with
  | some (some (.o1, v)) => match full with
    | true => env.set j (some (.fz, v))
    | false => env
  | some (some (.o2, .lst xs)) => match full with
    | true => env.set j (some (.fz, .lst xs))
    | false => env.set j (some (.o1, .lst xs))
  | some (some (.o2, v)) => env.set j (some (.fz, v))
  | _ => env
def frz (env : PEnv) : List (Nat × Bool) → PEnv
  | [] => env
  | (j, f) :: r => frz (frz1 env j f) r
-- the names whose lists an expression hands on (2: true), whose items it hands on (1: false); 0: it is only looked at
mutual
def esc (md : Nat) : IE → List (Nat × Bool)
  | .var i => match md with
    | 0 => []
    | 1 => [(i, false)]
    | _ => [(i, true)]
  | .tup es | .lst es => escs 2 es
  | .bin _ a b => esc 1 a ++ esc 1 b
  | .neg a => esc 0 a
  | .cmp _ a b => esc 0 a ++ esc 0 b
  | .chain _ _ a b c => esc 0 a ++ esc 0 b ++ esc 0 c
  | .and a b | .or a b => esc 0 a ++ esc md b
  | .not a => esc 0 a
  | .ite c a b => esc 0 c ++ esc md a ++ esc md b
  | .ix a i => esc (min md 1) a ++ esc 0 i
  | .slice a lo hi => esc 1 a ++ escO lo ++ escO hi
  | .rev a => esc 1 a
  | .blt f es => match f with
    | .list | .tuple => escs 1 es
    | _ => escs 0 es
  | .lr a | .tr a => esc 0 a
  | .isi a _ => esc 0 a
  | .call _ es => escs 2 es
  | .callK _ es _ ws => escs 2 es ++ escs 2 ws
  | .meth _ o es => esc 0 o ++ escs 2 es
  | .lc _ _ it c e => escIt 1 it ++ escO c ++ esc 2 e
  | .cint _ | .cstr _ | .cbl _ | .cnon => []
def escs (md : Nat) : IEs → List (Nat × Bool)
  | .nil => []
  | .cons e es => esc md e ++ escs md es
def escO : IO → List (Nat × Bool)
  | .none => []
  | .some e => esc 0 e
def escIt (md : Nat) : IIt → List (Nat × Bool)
  | .seq e => esc md e
  | .range1 a => esc 0 a
  | .range2 a b => esc 0 a ++ esc 0 b
  | .enum e => esc md e
  | .zip a b => esc md a ++ esc md b
end
/-! ### runs -/
abbrev PCalls := Str → List PV → PT MV
structure PCfg where
  call : PCalls
  kord : KOrd
  /-- names whose [] takes lists as items, names that are handed over when they are appended -/
  dp : List Nat
  mv : List Nat
/-- values that may be stored: their trees -/
def stored : List MV → Option (List PV)
  | [] => some []
  | (m, v) :: r => match m.stB, stored r with
    | true, some vs => some (v :: vs)
    | _, _ => none
def pickP {α : Type} (xs : List α) : List Nat → Option (List α)
  | [] => some []
  | i :: r => match xs[i]?, pickP xs r with
    | some x, some ys => some (x :: ys)
    | _, _ => none
def litE : IE → Bool
  | .cint _ | .cstr _ | .cbl _ | .cnon => true
  | _ => false
/-- a display's items are new lists, or written -/
def allNew : IEs → List MV → Bool
  | .nil, [] => true
  | .cons e es, (m, t) :: r => (m.own1 || (litE e && flatP t)) && allNew es r
  | _, _ => false
def dispMd (es : IEs) (xs : List MV) (d : Md) : Md := match xs with
  | [] => d
  | _ => match allNew es xs && xs.any (·.1.own1) with
    | true => .o2
    | false => d
/-- an element that is a new list each turn -/
def newE : IE → Bool
  | .lst .nil => true
  | _ => false
def plc (turn : PV → PT (Option PV)) : List PV → PT (List PV)
  | [] => .ret []
  | x :: xs => (turn x).nox.bind fun o => (plc turn xs).bind fun ys => .ret (match o with | some y => y :: ys | none => ys)
def setEnvsP : List Nat → List PV → PEnv → Option PEnv
  | [], [], env => some env
  | i :: is, x :: xs, env => setEnvsP is xs (env.set i (some (.fz, x)))
  | _, _, _ => none
def setEnvsM : List Nat → List MV → PEnv → Option PEnv
  | [], [], env => some env
  | i :: is, (m, x) :: xs, env => match m.stB with
    | true => setEnvsM is xs (env.set i (some (m, x)))
    | false => none
  | _, _, _ => none
def bindP (tg : ITg) (x : PV) (env : PEnv) : Option PEnv := match tg with
  | .name i => some (env.set i (some (.fz, x)))
  | .tup ts => match x with
    | .tup xs => setEnvsP ts xs env
    | .pr x y => setEnvsP ts [x, y] env
    | _ => none
/-- a list is unpacked like a tuple -/
def asTupP : PV → PV
  | .lst xs => .tup xs
  | x => x
def wipeP (env : PEnv) : List Nat → PEnv
  | [] => env
  | i :: r => (wipeP env r).set i none
/-- a name as it is read -/
def rdMd : Md → Md
  | .o1 => .b1
  | .o2 => .b2
  | m => m
def varP (env : PEnv) (i : Nat) : Option MV := match env[i]? with
  | some (some (m, v)) => some (rdMd m, v)
  | _ => none
def stP (x : MV) : PT PV := pif x.1.stB (.ret x.2)
def enumP (i : Nat) : List PV → List PV
  | [] => []
  | x :: xs => .pr (.int (nI i)) x :: enumP (i + 1) xs
def zipP : List PV → List PV → List PV
  | x :: xs, y :: ys => .pr x y :: zipP xs ys
  | _, _ => []
/-- b: a name may keep it while it is walked -/
def seqP (b : Bool) (x : MV) : PT (List PV) := match itemsP x.2 with
  | some xs => pif (x.1.cpB && (b || x.1.stB)) (.ret xs)
  | none => .stuck
mutual
def pev (C : PCfg) : IE → PEnv → PT MV
  | .var i, env => popt (varP env i)
  | .cint i, _ => .ret (.fz, .int i)
  | .cstr x, _ => .ret (.fz, .str x)
  | .cbl b, _ => .ret (.fz, .bl b)
  | .cnon, _ => .ret (.fz, .non)
  | .tup es, env => (pevs C es env).bind fun xs => match stored xs with
    | some vs => pif (fits vs.length) (.ret (dispMd es xs .fz, .tup vs))
    | none => .stuck
  | .lst es, env => (pevs C es env).bind fun xs => match stored xs with
    | some vs => pif (fits vs.length) (.ret (dispMd es xs .o1, .lst vs))
    | none => .stuck
  | .bin op a b, env => (pev C a env).bind fun x => (pev C b env).bind fun y => binP op x y
  | .neg a, env => (pev C a env).bind fun x => match x.2 with
    | .int i => .ret (.fz, .int (-i))
    | _ => .stuck
  | .cmp op a b, env => (pev C a env).bind fun x => (pev C b env).bind fun y => (cmpP op x.2 y.2).bind fun k => .ret (.fz, .bl k)
  | .chain o1 o2 a b c, env => (pev C a env).bind fun x => (pev C b env).bind fun y => (cmpP o1 x.2 y.2).bind fun k => match k with
    | true => (pev C c env).bind fun z => (cmpP o2 y.2 z.2).bind fun k => .ret (.fz, .bl k)
    | false => .ret (.fz, .bl false)
  | .and a b, env => (pev C a env).bind fun x => (asBP x.2).bind fun k => match k with
    | true => pev C b env
    | false => .ret (.fz, .bl false)
  | .or a b, env => (pev C a env).bind fun x => (asBP x.2).bind fun k => match k with
    | true => .ret (.fz, .bl true)
    | false => pev C b env
  | .not a, env => (pev C a env).bind fun x => (truthP x.2).bind fun k => .ret (.fz, .bl (!k))
  | .ite c a b, env => (pev C c env).bind fun x => (truthP x.2).bind fun k => match k with
    | true => pev C a env
    | false => pev C b env
  | .ix a i, env => (pev C a env).bind fun x => (pev C i env).bind fun k => ixP x k.2
  | .slice a lo hi, env => (pev C a env).bind fun x => (pevO C lo env).bind fun l => (pevO C hi env).bind fun h => sliceP x l h
  | .rev a, env => (pev C a env).bind fun x => revP x
  | .blt f es, env => (pevs C es env).bind fun xs => bltP f xs
  | .lr a, env => (pev C a env).bind fun x => rgP true x.2
  | .tr a, env => (pev C a env).bind fun x => rgP false x.2
  | .isi e tys, env => (pev C e env).bind fun x => isiP x.2 tys
  | .call f es, env => (pevs C es env).bind fun xs => match stored xs with
    | some vs => C.call f vs
    | none => .stuck
  | .callK f es ks ws, env => (pevs C es env).bind fun xs => (pevs C ws env).bind fun ys => match stored xs, stored ys with
    | some us, some vs => match C.kord f us.length ks with
      | some o => match pickP (us ++ vs) o with
        | some zs => C.call f zs
        | none => .stuck
      | none => .stuck
    | _, _ => .stuck
  | .meth m o es, env => (pev C o env).bind fun x => pif (recvP m x.2) ((pevs C es env).bind fun xs => match stored xs with
    | some vs => methP m x.2 vs
    | none => .stuck)
  | .lc own tg it c e, env => (pevIt C true it env).bind fun xs => pif (fits xs.length) ((plc (fun x => match bindP tg x (wipeP env (own.map (·.2))) with
        | none => .stuck
        | some env' => (pevC C c env').bind fun k => match k with
          | false => .ret none
          | true => (pev C e env').bind fun y => (stP y).bind fun v => .ret (some v)) xs).bind fun ys => .ret (match newE e with | true => .o2 | false => .o1, .lst ys))
def pevs (C : PCfg) : IEs → PEnv → PT (List MV)
  | .nil, _ => .ret []
  | .cons e es, env => (pev C e env).bind fun x => (pevs C es env).bind fun xs => .ret (x :: xs)
def pevO (C : PCfg) : IO → PEnv → PT (Option Int)
  | .none, _ => .ret none
  | .some e, env => (pev C e env).bind fun x => match x.2 with
    | .int i => .ret (some i)
    | _ => .stuck
def pevC (C : PCfg) : IO → PEnv → PT Bool
  | .none, _ => .ret true
  | .some e, env => (pev C e env).bind fun x => truthP x.2
def pevIt (C : PCfg) (b : Bool) : IIt → PEnv → PT (List PV)
  | .seq e, env => (pev C e env).bind fun x => seqP b x
  | .range1 a, env => (pev C a env).bind fun x => match x.2 with
    | .int j => pif (rg1B j) (.ret (rg1P j))
    | _ => .stuck
  | .range2 a c, env => (pev C a env).bind fun x => (pev C c env).bind fun y => match x.2, y.2 with
    | .int i, .int j => pif (rg2B i j) (.ret (rg2P i j))
    | _, _ => .stuck
  | .enum e, env => (pev C e env).bind fun x => (seqP b x).bind fun xs => .ret (enumP 0 xs)
  | .zip a c, env => (pev C a env).bind fun x => (pev C c env).bind fun y => match x.2, y.2 with
    | .tup _, .tup _ => (seqP b x).bind fun xs => (seqP b y).bind fun ys => .ret (zipP xs ys)
    | .lst _, .lst _ => (seqP b x).bind fun xs => (seqP b y).bind fun ys => .ret (zipP xs ys)
    | _, _ => .stuck
end
inductive PFl where
  | next | brk | cont
  | ret (v : MV)
  | exc (x : Ex)
abbrev PS := PFl × PEnv
/-- an expression within a statement -/
def PT.resc {α : Type} (env : PEnv) (f : α → PT PS) : PT α → PT PS
  | .ret p => f p
  | .draw n k => .draw n fun v => (k v).resc env f
  | .exc x => .ret (.exc x, env)
  | .stuck => .stuck
def forP (body : PEnv → PT PS) (tg : ITg) : List PV → PEnv → PT PS
  | [], env => .ret (.next, env)
  | x :: xs, env => match bindP tg x env with
    | none => .stuck
    | some env1 => (body env1).bind fun p => match p.1 with
      | .next => forP body tg xs p.2
      | .cont => forP body tg xs p.2
      | .brk => .ret (.next, p.2)
      | .ret v => .ret (.ret v, p.2)
      | .exc x => .ret (.exc x, p.2)
def whileP (test : PEnv → PT Bool) (body : PEnv → PT PS) : Nat → PEnv → PT PS
  | 0, _ => .stuck
  | r + 1, env => (test env).resc env fun k => match k with
    | false => .ret (.next, env)
    | true => (body env).bind fun p => match p.1 with
      | .next => whileP test body r p.2
      | .cont => whileP test body r p.2
      | .brk => .ret (.next, p.2)
      | .ret v => .ret (.ret v, p.2)
      | .exc x => .ret (.exc x, p.2)
/-- what a frame hands back -/
def retMd : Md → Md
  | .b1 => .o1
  | .b2 => .o2
  | m => m
/-- a name's own list is changed -/
def mutS (m : Mth) (env : PEnv) (j : Nat) (vs : List PV) : PT (PV × PEnv) := match env[j]? with
  | some (some (.o1, .lst xs)) => (mutP m xs vs).bind fun p => .ret (p.2, env.set j (some (.o1, .lst p.1)))
  | _ => .stuck
/-- a list that a name has is handed over to a name that takes lists -/
def movB (C : PCfg) (env : PEnv) (j : Nat) (e : IE) : Option Nat := match e with
  | .var i => match C.mv.elem i && decide (i ≠ j), env[j]?, env[i]? with
    | true, some (some (.o2, .lst _)), some (some (.o1, .lst _)) => some i
    | _, _, _ => none
  | _ => none
def movS (env : PEnv) (j i : Nat) : PT PEnv := match env[j]?, env[i]? with
  | some (some (.o2, .lst xs)), some (some (.o1, .lst ys)) => pif (fits (xs.length + 1)) (.ret ((env.set i none).set j (some (.o2, .lst (xs ++ [.lst ys])))))
  | _, _ => .stuck
/-- a value appended to a name's list -/
def appS (env : PEnv) (j : Nat) (x : MV) : PT PEnv := match env[j]? with
  | some (some (.o1, .lst xs)) => pif (x.1.stB && fits (xs.length + 1)) (.ret (env.set j (some (.o1, .lst (xs ++ [x.2])))))
  | some (some (.o2, .lst xs)) => match x.1 with
    | .o1 => pif (fits (xs.length + 1)) (.ret (env.set j (some (.o2, .lst (xs ++ [x.2])))))
    | _ => .stuck
  | _ => .stuck
/-- the list at i in a name's list of lists -/
def ch2 (env : PEnv) (j : Nat) (i : PV) : Option (Nat × List PV) := match env[j]?, i with
  | some (some (.o2, .lst xs)), .int k => match ixN xs.length k with
    | some n => match xs[n]? with
      | some (.lst ys) => some (n, ys)
      | _ => none
    | none => none
  | _, _ => none
def app2S (env : PEnv) (j : Nat) (n : Nat) (ys : List PV) (x : PV) : PT PEnv := match env[j]? with
  | some (some (.o2, .lst xs)) => pif (fits (ys.length + 1)) (.ret (env.set j (some (.o2, .lst (xs.set n (.lst (ys ++ [x])))))))
  | _ => .stuck
/-- a name that keeps a list -/
def ownB (env : PEnv) (j : Nat) : Bool := match env[j]? with
  | some (some (.o1, .lst _)) => true
  | some (some (.o2, .lst _)) => true
  | _ => false
def Mth.listB : Mth → Bool
  | .upper => false
  | .index => false
  | _ => true
def setSubS (env : PEnv) (j : Nat) (i : PV) (x : PV) : PT PEnv := match env[j]?, i with
  | some (some (.o1, .lst xs)), .int k => match ixN xs.length k with
    | some n => .ret (env.set j (some (.o1, .lst (xs.set n x))))
    | none => .stuck
  | _, _ => .stuck
/-- [] for a name that takes lists -/
def newMd (C : PCfg) (i : Nat) (m : Md) (v : PV) : Md := match C.dp.elem i with
  | true => match m, v with
    | .o1, .lst [] => .o2
    | _, _ => m
  | false => m
mutual
def pex (C : PCfg) : IS → PEnv → PT PS
  | .set i (.meth .pop (.var j) .nil), env => (mutS .pop env j []).bind fun p => .ret (.next, p.2.set i (some (.fz, p.1)))
  | .set i e, env => let env := frz env (esc 2 e)
    (pev C e env).resc env fun x => pif x.1.stB (.ret (.next, env.set i (some (newMd C i x.1 x.2, x.2))))
  | .setT ts e, env => let env := frz env (esc 2 e)
    (pev C e env).resc env fun x => (stP x).bind fun v => match bindP (.tup ts) (asTupP v) env with
      | some env' => .ret (.next, env')
      | none => .stuck
  | .setSub (.var j) i e, env => let env := frz env (esc 2 e ++ esc 0 i)
    pif (ownB env j) ((pev C e env).resc env fun v => (stP v).bind fun v => (pev C i env).resc env fun k => (setSubS env j k.2 v).bind fun env' => .ret (.next, env'))
  | .setSub _ _ _, _ => .stuck
  | .aug i op e, env => let env := frz env (esc 0 e)
    (popt (varP env i)).bind fun x => (pev C e env).resc env fun y => (augP op x.2 y.2).bind fun z => .ret (.next, env.set i (some (.fz, z)))
  | .expr (.meth .append (.var j) (.cons e .nil)), env => match movB C env j e with
    | some i => (movS env j i).bind fun env' => .ret (.next, env')
    | none => let env := frz env (esc 2 e)
      pif (ownB env j) ((pev C e env).resc env fun x => (appS env j x).bind fun env' => .ret (.next, env'))
  | .expr (.meth .append (.ix (.var j) i) (.cons e .nil)), env => let env := frz env (esc 0 i ++ esc 2 e)
    pif (ownB env j) ((pev C i env).resc env fun k => match ch2 env j k.2 with
      | none => .stuck
      | some (n, ys) => (pev C e env).resc env fun x => (stP x).bind fun v => (app2S env j n ys v).bind fun env' => .ret (.next, env'))
  | .expr (.meth m (.var j) es), env => let env := frz env (escs 2 es)
    pif (ownB env j && m.listB) ((pevs C es env).resc env fun xs => match stored xs with
      | some vs => (mutS m env j vs).bind fun p => .ret (.next, p.2)
      | none => .stuck)
  | .expr e, env => let env := frz env (esc 2 e)
    (pev C e env).resc env fun _ => .ret (.next, env)
  | .ret e, env => let env := frz env (match e with | .var _ => [] | e => esc 2 e)
    (pev C e env).resc env fun x => .ret (.ret (retMd x.1, x.2), env)
  | .ite c a b, env => let env := frz env (esc 0 c)
    ((pev C c env).bind fun x => truthP x.2).resc env fun k => match k with
      | true => pexs C a env
      | false => pexs C b env
  | .for tg it body, env => let env := frz env (escIt 2 it)
    (pevIt C false it env).resc env fun xs => forP (pexs C body) tg xs env
  | .while c body, env => let env := frz env (esc 0 c)
    whileP (fun env => (pev C c env).bind fun x => truthP x.2) (pexs C body) turns env
  | .par ts es, env => let env := frz env (escs 2 es)
    (pevs C es env).resc env fun xs => match setEnvsM ts xs env with
      | some env' => .ret (.next, env')
      | none => .stuck
  | .pass, env => .ret (.next, env)
  | .brk, env => .ret (.brk, env)
  | .cont, env => .ret (.cont, env)
def pexs (C : PCfg) : ISs → PEnv → PT PS
  | .nil, env => .ret (.next, env)
  | .cons s ss, env => (pex C s env).bind fun p => match p.1 with
    | .next => pexs C ss p.2
    | .brk => .ret (.brk, p.2)
    | .cont => .ret (.cont, p.2)
    | .ret v => .ret (.ret v, p.2)
    | .exc x => .ret (.exc x, p.2)
end
/-- which names take lists, which are handed over, def by def -/
abbrev Hint := Str → List Nat × List Nat
def prun (F : Tab) (Hn : Hint) : Nat → PCalls
  | 0, _, _ => .stuck
  | k + 1, f, vs => match F.lookup f with
    | none => .stuck
    | some (.code ps n body) => match decide (vs.length = ps.length) with
      | false => .stuck
      | true => (pexs ⟨prun F Hn k, kordT F, (Hn f).1, (Hn f).2⟩ body (vs.map (fun v => some (.fz, v)) ++ List.replicate (n - vs.length) none)).nox.bind fun p => match p.1 with
        | .ret v => .ret v
        | .next => .ret (.fz, .non)
        | .exc x => .exc x
        | _ => .stuck
    | some .draw => match vs with
      | [.rng, .int n] => match decide (0 < n) && decide (n < 1073741824) with
        | true => .draw n fun v => .ret (.fz, .int v)
        | false => .stuck
      | _ => .stuck
    | some .box => match vs with
      | [.scr _, .int k] => match decide (0 ≤ k) && decide (k < 1000) with
        | true => .ret (.fz, .rng)
        | false => .stuck
      | _ => .stuck
end DI
end
section
namespace DI
open PySem L2
/-! ### runs side by side -/
/-- X: what is known of the store behind an exception -/
def TR {α β : Type} : PT α → T (β × Store) → (α → β → Store → Prop) → (Store → Prop) → Prop
  | .ret a, t, R, _ => ∃ b st', t = .ret (b, st') ∧ R a b st'
  | .draw n k, t, R, X => ∃ k', t = .draw n k' ∧ ∀ v, TR (k v) (k' v) R X
  | .exc x, t, _, X => ∃ st', t = .exc x st' ∧ X st'
  | .stuck, _, _, _ => True
theorem TR.bind {α β γ δ : Type} {R : α → β → Store → Prop} {R' : γ → δ → Store → Prop} {X X' : Store → Prop} {f : α → PT γ} {g : β × Store → T (δ × Store)} (hx : ∀ s, X s → X' s) (hf : ∀ a b st', R a b st' → TR (f a) (g (b, st')) R' X') :
    ∀ {p : PT α} {t : T (β × Store)}, TR p t R X → TR (p.bind f) (t.bind g) R' X'
  | .ret a, t, h => by
    obtain ⟨b, st', rfl, h⟩ := h
    exact hf a b st' h
  | .draw n k, t, h => by
    obtain ⟨k', rfl, h⟩ := h
    exact ⟨_, rfl, fun v => TR.bind hx hf (h v)⟩
  | .exc x, t, h => by
    obtain ⟨st', rfl, h⟩ := h
    exact ⟨st', rfl, hx _ h⟩
  | .stuck, _, _ => trivial
/-- nothing is raised at first -/
theorem TR.bind0 {α β γ δ : Type} {R : α → β → Store → Prop} {R' : γ → δ → Store → Prop} {X' : Store → Prop} {f : α → PT γ} {g : β × Store → T (δ × Store)} (hf : ∀ a b st', R a b st' → TR (f a) (g (b, st')) R' X') {p : PT α} {t : T (β × Store)} (h : TR p t R (fun _ => False)) : TR (p.bind f) (t.bind g) R' X' :=
  TR.bind (fun _ h => h.elim) hf h
theorem TR.mono {α β : Type} {R R' : α → β → Store → Prop} {X X' : Store → Prop} (hR : ∀ a b st', R a b st' → R' a b st') (hx : ∀ s, X s → X' s) : ∀ {p : PT α} {t : T (β × Store)}, TR p t R X → TR p t R' X'
  | .ret a, t, h => by
    obtain ⟨b, st', rfl, h⟩ := h
    exact ⟨b, st', rfl, hR _ _ _ h⟩
  | .draw n k, t, h => by
    obtain ⟨k', rfl, h⟩ := h
    exact ⟨_, rfl, fun v => TR.mono hR hx (h v)⟩
  | .exc x, t, h => by
    obtain ⟨st', rfl, h⟩ := h
    exact ⟨st', rfl, hx _ h⟩
  | .stuck, _, _ => trivial
theorem TR.nox {α β : Type} {R : α → β → Store → Prop} {X X' : Store → Prop} : ∀ {p : PT α} {t : T (β × Store)}, TR p t R X → TR p.nox t.nox R X'
  | .ret a, t, h => by
    obtain ⟨b, st', rfl, h⟩ := h
    exact ⟨b, st', rfl, h⟩
  | .draw n k, t, h => by
    obtain ⟨k', rfl, h⟩ := h
    exact ⟨_, rfl, fun v => TR.nox (h v)⟩
  | .exc x, t, h => trivial
  | .stuck, _, _ => trivial
theorem TR.ret {α β : Type} {R : α → β → Store → Prop} {X : Store → Prop} {a : α} {b : β} {st : Store} (h : R a b st) : TR (.ret a) (.ret (b, st)) R X := ⟨b, st, rfl, h⟩
theorem TR.pif {α β : Type} {R : α → β → Store → Prop} {X : Store → Prop} {c c' : Bool} {p : PT α} {m : M β} {st : Store} (hc : c = true → c' = true) (h : TR p (m st) R X) : TR (DI.pif c p) (mif c' m st) R X := by
  cases c with
  | false => trivial
  | true =>
    rw [hc rfl]
    exact h
theorem TR.pifP {α β : Type} {R : α → β → Store → Prop} {X : Store → Prop} {c : Bool} {p : PT α} {t : T (β × Store)} (h : c = true → TR p t R X) : TR (DI.pif c p) t R X := by
  cases c with
  | false => trivial
  | true => exact h rfl
theorem tri_of {α β : Type} {R : α → β → Store → Prop} {XS : Store → Prop} {P : Nat → α → Prop} {P' : Nat → β × Store → Prop} {X : Nat → Ex → Prop} {X' : Nat → Ex → Store → Prop} (hP : ∀ n a b st, R a b st → P n a → P' n (b, st)) (hX : ∀ n x st, X n x → X' n x st) :
    ∀ {p : PT α} {t : T (β × Store)} {n : Nat}, TR p t R XS → PTri p n P X → Tri t n P' X'
  | .ret a, t, n, h, q => by
    obtain ⟨b, st', rfl, h⟩ := h
    exact hP _ _ _ _ h q
  | .draw m k, t, n, h, q => by
    obtain ⟨k', rfl, h⟩ := h
    obtain ⟨n', e, q⟩ := q
    exact ⟨n', e, fun v h0 h1 => tri_of hP hX (h v) (q v h0 h1)⟩
  | .exc x, t, n, h, q => by
    obtain ⟨st', rfl, _⟩ := h
    exact hX _ _ _ q
  | .stuck, _, _, _, q => q.elim
/-! ### what is read -/
abbrev Cells := Nat → Prop
mutual
inductive RP (st : Store) (S : Cells) : D → PV → Prop
  | non : RP st S .non .non
  | bl (b : Bool) : RP st S (.bl b) (.bl b)
  | int (i : Int) : RP st S (.int i) (.int i)
  | str (x : Str) : RP st S (.str x) (.str x)
  | tup {ds : List D} {ts : List PV} : RPs st S ds ts → RP st S (.tup ds) (.tup ts)
  | lst {n : Nat} {ds : List D} {ts : List PV} : S n → st[n]? = some (.lst true ds) → RPs st S ds ts → RP st S (.ref n) (.lst ts)
  | scr {n : Nat} {ns : List Int} : S n → st[n]? = some (.lst false (ns.map D.int)) → RP st S (.ref n) (.scr ns)
  | rng {n : Nat} : S n → st[n]? = some .rng → RP st S (.ref n) .rng
  | pr {d e : D} {t u : PV} : RP st S d t → RP st S e u → RP st S (.pr d e) (.pr t u)
inductive RPs (st : Store) (S : Cells) : List D → List PV → Prop
  | nil : RPs st S [] []
  | cons {d : D} {t : PV} {ds : List D} {ts : List PV} : RP st S d t → RPs st S ds ts → RPs st S (d :: ds) (t :: ts)
end
section
variable {st st' : Store} {S S' : Cells}
mutual
theorem RP.mono (h : ∀ n, S n → n < st.length → S' n ∧ st'[n]? = st[n]?) : ∀ {d : D} {t : PV}, RP st S d t → RP st' S' d t
  | _, _, .non => .non
  | _, _, .bl b => .bl b
  | _, _, .int i => .int i
  | _, _, .str x => .str x
  | _, _, .tup r => .tup (RPs.mono h r)
  | _, _, .lst s e r => .lst (h _ s (List.getElem?_eq_some_iff.mp e).1).1 ((h _ s (List.getElem?_eq_some_iff.mp e).1).2.trans e) (RPs.mono h r)
  | _, _, .scr s e => .scr (h _ s (List.getElem?_eq_some_iff.mp e).1).1 ((h _ s (List.getElem?_eq_some_iff.mp e).1).2.trans e)
  | _, _, .rng s e => .rng (h _ s (List.getElem?_eq_some_iff.mp e).1).1 ((h _ s (List.getElem?_eq_some_iff.mp e).1).2.trans e)
  | _, _, .pr r s => .pr (RP.mono h r) (RP.mono h s)
theorem RPs.mono (h : ∀ n, S n → n < st.length → S' n ∧ st'[n]? = st[n]?) : ∀ {d : List D} {t : List PV}, RPs st S d t → RPs st' S' d t
  | _, _, .nil => .nil
  | _, _, .cons r rs => .cons (RP.mono h r) (RPs.mono h rs)
end
theorem app_lt {st g : Store} {n : Nat} (h : n < st.length) : (st ++ g)[n]? = st[n]? := List.getElem?_append_left h
theorem RP.sub (h : ∀ n, S n → n < st.length → S' n) {d : D} {t : PV} (r : RP st S d t) : RP st S' d t := r.mono fun n s l => ⟨h n s l, rfl⟩
theorem RPs.sub (h : ∀ n, S n → n < st.length → S' n) {d : List D} {t : List PV} (r : RPs st S d t) : RPs st S' d t := r.mono fun n s l => ⟨h n s l, rfl⟩
theorem RP.app (g : Store) {d : D} {t : PV} (r : RP st S d t) : RP (st ++ g) S d t := r.mono fun n s l => ⟨s, app_lt l⟩
theorem RPs.app (g : Store) {d : List D} {t : List PV} (r : RPs st S d t) : RPs (st ++ g) S d t := r.mono fun n s l => ⟨s, app_lt l⟩
theorem RPs.length : ∀ {d : List D} {t : List PV}, RPs st S d t → d.length = t.length
  | _, _, .nil => rfl
  | _, _, .cons _ rs => congrArg (· + 1) rs.length
theorem RPs.append : ∀ {d d' : List D} {t t' : List PV}, RPs st S d t → RPs st S d' t' → RPs st S (d ++ d') (t ++ t')
  | _, _, _, _, .nil, s => s
  | _, _, _, _, .cons r rs, s => .cons r (rs.append s)
theorem RPs.get : ∀ {d : List D} {t : List PV} {i : Nat} {y : PV}, RPs st S d t → t[i]? = some y → ∃ x, d[i]? = some x ∧ RP st S x y
  | _, _, i, y, .nil, h => by simp at h
  | _, _, 0, y, .cons r rs, h => by
    simp at h
    subst h
    exact ⟨_, rfl, r⟩
  | _, _, i + 1, y, .cons r rs, h => by
    obtain ⟨x, e, r⟩ := rs.get (i := i) (by simpa using h)
    exact ⟨x, by simpa using e, r⟩
theorem RPs.take : ∀ {d : List D} {t : List PV} (n : Nat), RPs st S d t → RPs st S (d.take n) (t.take n)
  | _, _, 0, _ => .nil
  | _, _, _ + 1, .nil => .nil
  | _, _, n + 1, .cons r rs => .cons r (rs.take n)
theorem RPs.drop : ∀ {d : List D} {t : List PV} (n : Nat), RPs st S d t → RPs st S (d.drop n) (t.drop n)
  | _, _, 0, r => r
  | _, _, _ + 1, .nil => .nil
  | _, _, n + 1, .cons _ rs => rs.drop n
theorem RPs.reverse : ∀ {d : List D} {t : List PV}, RPs st S d t → RPs st S d.reverse t.reverse
  | _, _, .nil => .nil
  | _, _, .cons r rs => by
    rw [List.reverse_cons, List.reverse_cons]
    exact rs.reverse.append (.cons r .nil)
theorem RPs.rep {d : List D} {t : List PV} (r : RPs st S d t) : ∀ n, RPs st S (List.replicate n d).flatten (List.replicate n t).flatten
  | 0 => .nil
  | n + 1 => r.append (r.rep n)
theorem RPs.set {x : D} {y : PV} (r : RP st S x y) : ∀ {d : List D} {t : List PV} (i : Nat), RPs st S d t → RPs st S (d.set i x) (t.set i y)
  | _, _, _, .nil => .nil
  | _, _, 0, .cons _ rs => .cons r rs
  | _, _, i + 1, .cons q rs => .cons q (RPs.set r i rs)
theorem RPs.dropLast {d : List D} {t : List PV} (r : RPs st S d t) : RPs st S d.dropLast t.dropLast := by
  rw [List.dropLast_eq_take, List.dropLast_eq_take, r.length]
  exact r.take _
theorem RPs.eraseIdx : ∀ {d : List D} {t : List PV} (i : Nat), RPs st S d t → RPs st S (d.eraseIdx i) (t.eraseIdx i)
  | _, _, _, .nil => .nil
  | _, _, 0, .cons _ rs => rs
  | _, _, i + 1, .cons q rs => .cons q (rs.eraseIdx i)
theorem RPs.ints : ∀ ns : List Int, RPs st S (ns.map D.int) (ns.map PV.int)
  | [] => .nil
  | n :: ns => .cons (.int n) (RPs.ints ns)
theorem RPs.isEmpty {d : List D} {t : List PV} (r : RPs st S d t) : d.isEmpty = t.isEmpty := by
  cases r <;> rfl
/-! ### values by who holds them -/
/-- the items of a value whose lists nobody else has -/
inductive CRs (st : Store) (S : Cells) : List D → List PV → List Nat → Prop
  | nil : CRs st S [] [] []
  | own {m : Nat} {es ds : List D} {us ts : List PV} {os : List Nat} : st[m]? = some (.lst true es) → RPs st S es us → CRs st S ds ts os → CRs st S (.ref m :: ds) (.lst us :: ts) (m :: os)
  | fz {d : D} {t : PV} {ds : List D} {ts : List PV} {os : List Nat} : (∀ us, t ≠ .lst us) → RP st S d t → CRs st S ds ts os → CRs st S (d :: ds) (t :: ts) os
inductive VR (st : Store) (S : Cells) : D → MV → List Nat → Prop
  | fz {d : D} {t : PV} : RP st S d t → VR st S d (.fz, t) []
  | o1 {n : Nat} {ds : List D} {ts : List PV} : st[n]? = some (.lst true ds) → RPs st S ds ts → VR st S (.ref n) (.o1, .lst ts) [n]
  | o2 {n : Nat} {ds : List D} {ts : List PV} {os : List Nat} : st[n]? = some (.lst true ds) → CRs st S ds ts os → VR st S (.ref n) (.o2, .lst ts) (n :: os)
  | o2t {ds : List D} {ts : List PV} {os : List Nat} : CRs st S ds ts os → VR st S (.tup ds) (.o2, .tup ts) os
theorem lt_of {n : Nat} {o : SO} (e : st[n]? = some o) : n < st.length := (List.getElem?_eq_some_iff.mp e).1
theorem CRs.mono (h : ∀ n, S n → n < st.length → S' n ∧ st'[n]? = st[n]?) : ∀ {ds : List D} {ts : List PV} {os : List Nat}, (∀ n ∈ os, st'[n]? = st[n]?) → CRs st S ds ts os → CRs st' S' ds ts os
  | _, _, _, _, .nil => .nil
  | _, _, _, ho, .own e r rs => .own ((ho _ List.mem_cons_self).trans e) (r.mono h) (rs.mono h fun n hn => ho n (List.mem_cons_of_mem _ hn))
  | _, _, _, ho, .fz q r rs => .fz q (r.mono h) (rs.mono h ho)
theorem CRs.lt : ∀ {ds : List D} {ts : List PV} {os : List Nat}, CRs st S ds ts os → ∀ n ∈ os, n < st.length
  | _, _, _, .own e r rs, n, hn => by
    rcases List.mem_cons.mp hn with rfl | hn
    · exact lt_of e
    · exact rs.lt n hn
  | _, _, _, .fz q r rs, n, hn => rs.lt n hn
theorem VR.mono {d : D} {x : MV} {os : List Nat} (h : ∀ n, S n → n < st.length → S' n ∧ st'[n]? = st[n]?) (ho : ∀ n ∈ os, st'[n]? = st[n]?) (r : VR st S d x os) : VR st' S' d x os := by
  cases r with
  | fz r => exact .fz (r.mono h)
  | o1 e r => exact .o1 ((ho _ List.mem_cons_self).trans e) (r.mono h)
  | o2 e r => exact .o2 ((ho _ List.mem_cons_self).trans e) (r.mono h fun n hn => ho n (List.mem_cons_of_mem _ hn))
  | o2t r => exact .o2t (r.mono h ho)
theorem VR.lt {d : D} {x : MV} {os : List Nat} (r : VR st S d x os) (n : Nat) (hn : n ∈ os) : n < st.length := by
  cases r with
  | fz r => cases hn
  | o1 e r =>
    rw [List.mem_singleton.mp hn]
    exact lt_of e
  | o2 e r =>
    rcases List.mem_cons.mp hn with rfl | hn
    · exact lt_of e
    · exact r.lt n hn
  | o2t r => exact r.lt n hn
theorem VR.app {d : D} {x : MV} {os : List Nat} (g : Store) (r : VR st S d x os) : VR (st ++ g) S d x os := r.mono (fun n s l => ⟨s, app_lt l⟩) fun n hn => app_lt (r.lt n hn)
theorem VR.sub {d : D} {x : MV} {os : List Nat} (h : ∀ n, S n → n < st.length → S' n) (r : VR st S d x os) : VR st S' d x os := r.mono (fun n s l => ⟨h n s l, rfl⟩) fun _ _ => rfl
theorem VR.stB {d : D} {m : Md} {t : PV} {os : List Nat} (r : VR st S d (m, t) os) : m.stB = true := by
  cases r <;> rfl
/-- all cells of a value -/
theorem CRs.all : ∀ {ds : List D} {ts : List PV} {os : List Nat}, CRs st S ds ts os → (∀ n, S n → S' n) → (∀ n ∈ os, S' n) → RPs st S' ds ts
  | _, _, _, .nil, _, _ => .nil
  | _, _, _, .own e r rs, h, ho => .cons (.lst (ho _ List.mem_cons_self) e (r.sub fun n s _ => h n s)) (rs.all h fun n hn => ho n (List.mem_cons_of_mem _ hn))
  | _, _, _, .fz q r rs, h, ho => .cons (r.sub fun n s _ => h n s) (rs.all h ho)
theorem VR.all {d : D} {m : Md} {t : PV} {os : List Nat} (r : VR st S d (m, t) os) (h : ∀ n, S n → S' n) (ho : ∀ n ∈ os, S' n) : RP st S' d t := by
  cases r with
  | fz r => exact r.sub fun n s _ => h n s
  | o1 e r => exact .lst (ho _ List.mem_cons_self) e (r.sub fun n s _ => h n s)
  | o2 e r => exact .lst (ho _ List.mem_cons_self) e (r.all h fun n hn => ho n (List.mem_cons_of_mem _ hn))
  | o2t r => exact .tup (r.all h ho)
end
end DI
end
section
namespace DI
open PySem L2
/-- what S reads, and what is new since b, but os -/
def Fr (S : Cells) (b : Nat) (os : List Nat) : Cells := fun n => S n ∨ (b ≤ n ∧ n ∉ os)
/-- a value behind an expression: O the cells that names keep, b where the new ones begin -/
inductive RES (S : Cells) (O : List Nat) (b : Nat) (st : Store) : MV → D → Prop
  | val {m : Md} {t : PV} {d : D} {os : List Nat} : VR st (Fr S b os) d (m, t) os → os.Nodup → (∀ n ∈ os, b ≤ n) → RES S O b st (m, t) d
  | bor {m : Md} {t : PV} {d : D} {os : List Nat} : VR st S d (retMd m, t) os → (∀ n ∈ os, n ∈ O) → m.stB = false → os.Nodup → RES S O b st (m, t) d
section
variable {S : Cells} {O : List Nat} {b : Nat} {st : Store} {m : Md} {t : PV} {d : D} {x : MV}
theorem Fr.old {os : List Nat} {n : Nat} (h : S n) : Fr S b os n := .inl h
theorem Fr.nil {os : List Nat} {n : Nat} (h : Fr S b os n) : Fr S b [] n := h.imp id fun q => ⟨q.1, List.not_mem_nil⟩
theorem RES.app (g : Store) (r : RES S O b st x d) : RES S O b (st ++ g) x d := by
  cases r with
  | val r h1 h2 => exact .val (r.app g) h1 h2
  | bor r h1 h2 h3 => exact .bor (r.app g) h1 h2 h3
theorem RES.low {b' : Nat} (h : b' ≤ b) (r : RES S O b st x d) : RES S O b' st x d := by
  cases r with
  | val r h1 h2 => exact .val (r.sub fun n s _ => s.imp id fun q => ⟨Nat.le_trans h q.1, q.2⟩) h1 fun n hn => Nat.le_trans h (h2 n hn)
  | bor r h1 h2 h3 => exact .bor r h1 h2 h3
theorem RES.fz (r : RP st (Fr S b []) d t) : RES S O b st (.fz, t) d := .val (.fz r) .nil fun n hn => by cases hn
/-- read, whoever holds it -/
theorem RES.any (r : RES S O b st (m, t) d) : RP st (fun _ => True) d t := by
  cases r with
  | val r h1 h2 => exact r.all (fun _ _ => trivial) fun _ _ => trivial
  | bor r h1 h2 => exact r.all (fun _ _ => trivial) fun _ _ => trivial
/-- stored: it is frozen -/
theorem RES.sto (hs : m.stB = true) (r : RES S O b st (m, t) d) : RP st (Fr S b []) d t := by
  cases r with
  | val r h1 h2 => exact r.all (fun _ => Fr.nil) fun n hn => .inr ⟨h2 n hn, List.not_mem_nil⟩
  | bor r h1 h2 =>
    rw [hs] at h2
    cases h2
theorem RES.int {i : Int} (r : RES S O b st (m, .int i) d) : d = .int i := by
  cases r.any
  rfl
theorem RES.bl {i : Bool} (r : RES S O b st (m, .bl i) d) : d = .bl i := by
  cases r.any
  rfl
theorem RES.str {i : Str} (r : RES S O b st (m, .str i) d) : d = .str i := by
  cases r.any
  rfl
/-- the items of a list that may be taken -/
theorem RES.lst {ts : List PV} (hs : m.cpB = true) (r : RES S O b st (m, .lst ts) d) : ∃ n ds, d = .ref n ∧ st[n]? = some (.lst true ds) ∧ RPs st (Fr S b []) ds ts := by
  cases r with
  | val r h1 h2 =>
    cases r with
    | fz r =>
      cases r with
      | lst s e r => exact ⟨_, _, rfl, e, r⟩
    | o1 e r => exact ⟨_, _, rfl, e, r.sub fun _ s _ => s.nil⟩
    | o2 e r => exact ⟨_, _, rfl, e, r.all (fun _ => Fr.nil) fun n hn => .inr ⟨h2 n (List.mem_cons_of_mem _ hn), List.not_mem_nil⟩⟩
  | bor r h1 h2 =>
    cases m with
    | b1 =>
      cases r with
      | o1 e r => exact ⟨_, _, rfl, e, r.sub fun _ s _ => Fr.old s⟩
    | b2 => cases hs
    | _ => cases h2
theorem RES.tup {ts : List PV} (hs : m.cpB = true) (r : RES S O b st (m, .tup ts) d) : ∃ ds, d = .tup ds ∧ RPs st (Fr S b []) ds ts := by
  cases r with
  | val r h1 h2 =>
    cases r with
    | fz r =>
      cases r with
      | tup r => exact ⟨_, rfl, r⟩
    | o2t r => exact ⟨_, rfl, r.all (fun _ => Fr.nil) fun n hn => .inr ⟨h2 n hn, List.not_mem_nil⟩⟩
  | bor r h1 h2 =>
    cases m with
    | b1 => cases r
    | b2 => cases hs
    | _ => cases h2
theorem RES.scr {ns : List Int} (r : RES S O b st (m, .scr ns) d) : ∃ n, d = .ref n ∧ st[n]? = some (.lst false (ns.map D.int)) ∧ (m.stB = true → Fr S b [] n) := by
  cases r with
  | val r h1 h2 =>
    cases r with
    | fz r =>
      cases r with
      | scr s e => exact ⟨_, rfl, e, fun _ => s⟩
  | bor r h1 h2 => cases m <;> first | cases h2; done | cases r
/-- an item, as it is held -/
theorem CRs.item {O : List Nat} {b : Nat} : ∀ {ds : List D} {ts : List PV} {os : List Nat} {i : Nat} {y : PV}, CRs st S ds ts os → (∀ n ∈ os, n ∈ O) → ts[i]? = some y → ∃ d, ds[i]? = some d ∧ RES S O b st (itMd .b2 y, y) d
  | _, _, _, i, y, .nil, _, h => by simp at h
  | _, _, _, 0, y, .own e r rs, ho, h => by
    simp at h
    subst h
    exact ⟨_, rfl, .bor (m := .b1) (.o1 e r) (fun n hn => by rw [List.mem_singleton.mp hn]; exact ho _ List.mem_cons_self) rfl (List.nodup_cons.mpr ⟨List.not_mem_nil, .nil⟩)⟩
  | _, _, _, 0, y, .fz (t := t0) q r rs, ho, h => by
    have h : t0 = y := Option.some.inj ((List.getElem?_cons_zero).symm.trans h)
    subst h
    refine ⟨_, rfl, ?_⟩
    have e : itMd .b2 t0 = .fz := by
      cases t0 <;> first | rfl | exact absurd rfl (q _)
    rw [e]
    exact .fz (r.sub fun _ s _ => Fr.old s)
  | _, _, _, i + 1, y, .own e r rs, ho, h => rs.item (i := i) (fun n hn => ho n (List.mem_cons_of_mem _ hn)) h
  | _, _, _, i + 1, y, .fz q r rs, ho, h => rs.item (i := i) ho h
theorem RES.lstIt {ts : List PV} (r : RES S O b st (m, .lst ts) d) : ∃ n ds, d = .ref n ∧ st[n]? = some (.lst true ds) ∧ ds.length = ts.length ∧ ∀ (i : Nat) (y : PV), ts[i]? = some y → ∃ x, ds[i]? = some x ∧ RES S O b st (itMd m y, y) x := by
  have other : m.cpB = true → ∃ n ds, d = .ref n ∧ st[n]? = some (.lst true ds) ∧ ds.length = ts.length ∧ ∀ (i : Nat) (y : PV), ts[i]? = some y → ∃ x, ds[i]? = some x ∧ RES S O b st (itMd m y, y) x := by
    intro hc
    obtain ⟨n, ds, e, h1, h2⟩ := r.lst hc
    refine ⟨n, ds, e, h1, h2.length, fun i y hy => ?_⟩
    obtain ⟨x, q1, q2⟩ := h2.get hy
    refine ⟨x, q1, ?_⟩
    have e : itMd m y = .fz := by cases m <;> first | rfl | cases hc
    rw [e]
    exact .fz q2
  cases m with
  | b2 =>
    cases r with
    | val r h1 h2 => cases r
    | bor r h1 h2 =>
      cases r with
      | o2 e r =>
        refine ⟨_, _, rfl, e, ?_, fun i y hy => r.item (fun n hn => h1 n (List.mem_cons_of_mem _ hn)) hy⟩
        exact (r.all (S' := fun _ => True) (fun _ _ => trivial) fun _ _ => trivial).length
  | _ => exact other rfl
theorem RES.tupIt {ts : List PV} (r : RES S O b st (m, .tup ts) d) : ∃ ds, d = .tup ds ∧ ds.length = ts.length ∧ ∀ (i : Nat) (y : PV), ts[i]? = some y → ∃ x, ds[i]? = some x ∧ RES S O b st (itMd m y, y) x := by
  have other : m.cpB = true → ∃ ds, d = .tup ds ∧ ds.length = ts.length ∧ ∀ (i : Nat) (y : PV), ts[i]? = some y → ∃ x, ds[i]? = some x ∧ RES S O b st (itMd m y, y) x := by
    intro hc
    obtain ⟨ds, e, h2⟩ := r.tup hc
    refine ⟨ds, e, h2.length, fun i y hy => ?_⟩
    obtain ⟨x, q1, q2⟩ := h2.get hy
    refine ⟨x, q1, ?_⟩
    have e : itMd m y = .fz := by cases m <;> first | rfl | cases hc
    rw [e]
    exact .fz q2
  cases m with
  | b2 =>
    cases r with
    | val r h1 h2 => cases r
    | bor r h1 h2 =>
      cases r with
      | o2t r =>
        refine ⟨_, rfl, ?_, fun i y hy => r.item h1 hy⟩
        exact (r.all (S' := fun _ => True) (fun _ _ => trivial) fun _ _ => trivial).length
  | _ => exact other rfl
/-! ### new lists -/
theorem get_last (st : Store) (o : SO) : (st ++ [o])[st.length]? = some o := by
  rw [List.getElem?_append_right (Nat.le_refl _), Nat.sub_self]
  rfl
/-- a new list: nobody has it -/
theorem RES.newL {ds : List D} {ts : List PV} (hb : b ≤ st.length) (r : RPs st (Fr S b []) ds ts) (hS : ∀ n, S n → n < st.length) : RES S O b (st ++ [.lst true ds]) (.o1, .lst ts) (.ref st.length) := by
  refine .val (.o1 (get_last _ _) (r.mono fun n s l => ⟨s.imp id fun q => ⟨q.1, fun z => ?_⟩, app_lt l⟩)) (List.nodup_cons.mpr ⟨List.not_mem_nil, .nil⟩) fun n hn => by rw [List.mem_singleton.mp hn]; exact hb
  rw [List.mem_singleton.mp z] at l
  exact Nat.lt_irrefl _ l
/-- the result of an expression: the store has grown -/
def RX (S : Cells) (O : List Nat) (b : Nat) (st : Store) (x : MV) (d : D) (st' : Store) : Prop := (∃ g, st' = st ++ g) ∧ RES S O b st' x d
theorem RX.here (r : RES S O b st x d) : RX S O b st x d st := ⟨⟨[], (List.append_nil _).symm⟩, r⟩
theorem RX.fz (r : RP st (Fr S b []) d t) : RX S O b st (.fz, t) d st := .here (.fz r)
theorem RX.new {ds : List D} {ts : List PV} (hb : b ≤ st.length) (hS : ∀ n, S n → n < st.length) (r : RPs st (Fr S b []) ds ts) : RX S O b st (.o1, .lst ts) (.ref st.length) (st ++ [.lst true ds]) := ⟨⟨_, rfl⟩, .newL hb r hS⟩
end
end DI
end
section
set_option maxHeartbeats 1000000
namespace DI
open PySem L2
section
variable {X : Store → Prop} {S : Cells} {O : List Nat} {b : Nat} {st : Store} {x y : MV} {d e : D}
theorem trPif {α β : Type} {R : α → β → Store → Prop} {c c' : Bool} {a : α} {t : T (β × Store)} {m : M β} {st : Store} (hc : c = true → c' = true) (h : TR (.ret a) (m st) R X) : TR (pif c (.ret a)) (mif c' m st) R X := TR.pif hc h
theorem and3 {a b c : Bool} (h : (a && b && c) = true) : a = true ∧ b = true ∧ c = true := by
  cases a <;> cases b <;> cases c <;> first | exact ⟨rfl, rfl, rfl⟩ | cases h
theorem op_binP (op : Operator) (hb : b ≤ st.length) (hS : ∀ n, S n → n < st.length) (rx : RES S O b st x d) (ry : RES S O b st y e) : TR (binP op x y) (binD op d e st) (RX S O b st) X := by
  obtain ⟨m, t⟩ := x
  obtain ⟨m', t'⟩ := y
  cases op <;> cases t <;> cases t' <;> first | exact trivial | skip
  · obtain rfl := rx.bl
    obtain rfl := ry.int
    exact TR.ret (.fz (.int _))
  · obtain rfl := rx.int
    obtain rfl := ry.int
    exact TR.ret (.fz (.int _))
  · obtain rfl := rx.str
    obtain rfl := ry.str
    exact TR.pif id (TR.ret (.fz (.str _)))
  · refine TR.pifP fun hc => ?_
    obtain ⟨h1, h2, h3⟩ := and3 hc
    obtain ⟨ds, rfl, r1⟩ := rx.tup h1
    obtain ⟨es, rfl, r2⟩ := ry.tup h2
    show TR _ (mif (fits (ds.length + es.length)) _ st) _ _
    rw [r1.length, r2.length, h3]
    exact TR.ret (.fz (.tup (r1.append r2)))
  · refine TR.pifP fun hc => ?_
    obtain ⟨h1, h2, h3⟩ := and3 hc
    obtain ⟨n, ds, rfl, e1, r1⟩ := rx.lst h1
    obtain ⟨n2, es, rfl, e2, r2⟩ := ry.lst h2
    show TR _ (match st[n]?, st[n2]? with | some (.lst true xs), some (.lst true ys) => mif (fits (xs.length + ys.length)) (mnew (xs ++ ys)) st | _, _ => .stuck) _ _
    rw [e1, e2]
    show TR _ (mif (fits (ds.length + es.length)) _ st) _ _
    rw [r1.length, r2.length, h3]
    exact TR.ret (.new hb hS (r1.append r2))
  · obtain rfl := rx.bl
    obtain rfl := ry.int
    exact TR.ret (.fz (.int _))
  · obtain rfl := rx.int
    obtain rfl := ry.int
    exact TR.ret (.fz (.int _))
  · obtain rfl := rx.int
    obtain rfl := ry.int
    exact TR.pif id (TR.ret (.fz (.int _)))
  · refine TR.pifP fun hc => ?_
    obtain rfl := ry.int
    rename_i xs k
    obtain ⟨h1, h2⟩ := Bool.and_eq_true_iff.mp hc
    obtain ⟨ds, rfl, r1⟩ := rx.tup h1
    show TR _ (mif (repTB k ds.length) _ st) _ _
    rw [r1.length, h2]
    exact TR.ret (.fz (.tup (r1.rep _)))
  · refine TR.pifP fun hc => ?_
    obtain rfl := ry.int
    rename_i xs k
    obtain ⟨h1, hc1⟩ := Bool.and_eq_true_iff.mp hc
    have hc1 : (decide (0 ≤ k) && decide (k < 100000) && fits (xs.length * k.toNat)) = true := hc1
    obtain ⟨h2, h3, h4⟩ := and3 hc1
    obtain ⟨n, ds, rfl, e1, r1⟩ := rx.lst h1
    show TR _ (match st[n]? with | some (.lst true xs) => mif (decide (0 ≤ k) && decide (k < 100000) && fits (xs.length * k.toNat)) (mnew (List.replicate k.toNat xs).flatten) st | _ => .stuck) _ _
    rw [e1]
    show TR _ (mif (decide (0 ≤ k) && decide (k < 100000) && fits (ds.length * k.toNat)) _ st) _ _
    rw [r1.length, h2, h3, h4]
    exact TR.ret (.new hb hS (r1.rep _))
  · obtain rfl := rx.int
    obtain rfl := ry.int
    exact TR.pif id (TR.ret (.fz (.int _)))
  · obtain rfl := rx.int
    obtain rfl := ry.int
    exact TR.pif id (TR.ret (.fz (.int _)))
  · obtain rfl := rx.int
    obtain rfl := ry.int
    exact TR.pif id (TR.ret (.fz (.int _)))

theorem py_of {st : Store} : ∀ (n : Nat) {d : D} {t : PV} {p : PyData}, RP st (fun _ => True) d t → pyP n t = some p → py n st d = some p
  | 0, _, _, _, _, h => by
    unfold pyP at h
    cases h
  | n + 1, _, _, _, .non, h => h
  | n + 1, _, _, _, .bl b, h => h
  | n + 1, _, _, _, .int b, h => h
  | n + 1, _, _, _, .str b, h => h
  | n + 1, _, _, _, .tup r, h => by
    unfold pyP at h
    split at h
    · rename_i ds e
      unfold py
      rw [pys_of n r e]
      exact h
    · cases h
  | n + 1, _, _, _, .lst s e0 r, h => by
    unfold pyP at h
    split at h
    · rename_i ds e
      unfold py
      rw [e0]
      dsimp only
      rw [pys_of n r e]
      exact h
    · cases h
  | n + 1, _, _, _, .scr s e0, h => by cases h
  | n + 1, _, _, _, .rng s e0, h => by cases h
where pys_of (n : Nat) : ∀ {d : List D} {t : List PV} {p : List PyData}, RPs st (fun _ => True) d t → pyP.pysP n t = some p → pys (py n st) d = some p
  | _, _, _, .nil, h => h
  | _, _, _, .cons r rs, h => by
    unfold pyP.pysP at h
    split at h
    · rename_i p q e1 e2
      unfold pys
      rw [py_of n r e1, pys_of n rs e2]
      exact h
    · cases h
theorem eq_of {p : Bool} (rx : RP st (fun _ => True) d x.2) (ry : RP st (fun _ => True) e y.2) (h : eqP x.2 y.2 = some p) : eqD d e st = some p := by
  unfold eqP at h
  split at h
  · rename_i a c e1 e2
    unfold eqD
    rw [py_of _ rx e1, py_of _ ry e2]
    exact h
  · cases h
theorem RP.flat {S : Cells} {t : PV} (r : RP st S d t) (f : flatP t = true) : flatD d = true ∧ toV d = toVP t := by
  cases r <;> first | exact ⟨rfl, rfl⟩ | cases f
theorem RPs.flat {S : Cells} : ∀ {ds : List D} {ts : List PV}, RPs st S ds ts → ts.all flatP = true → ds.all flatD = true ∧ ds.map toV = ts.map toVP
  | _, _, .nil, _ => ⟨rfl, rfl⟩
  | _, _, .cons r rs, f => by
    rw [List.all_cons] at f
    obtain ⟨f1, f2⟩ := Bool.and_eq_true_iff.mp f
    obtain ⟨a1, a2⟩ := r.flat f1
    obtain ⟨b1, b2⟩ := RPs.flat rs f2
    exact ⟨by rw [List.all_cons, a1, b1] <;> rfl, by rw [List.map_cons, List.map_cons, a2, b2]⟩
theorem RP.flatEq {S : Cells} {t : PV} (r : RP st S d t) : flatD d = flatP t := by
  cases r <;> rfl
theorem RPs.flatEq {S : Cells} : ∀ {ds : List D} {ts : List PV}, RPs st S ds ts → ds.all flatD = ts.all flatP
  | _, _, .nil => rfl
  | _, _, .cons r rs => by rw [List.all_cons, List.all_cons, r.flatEq, RPs.flatEq rs]
theorem in_of {t : PV} {ds : List D} {ts : List PV} (e1 : toV d = toVP t) (e2 : ds.map toV = ts.map toVP) : inD d ds = inP t ts := by
  unfold inD inP
  have h1 : (ds.any fun y => eqV (toV y) (toV d)) = (ds.map toV).any fun y => eqV y (toV d) := by rw [List.any_map] <;> rfl
  have h2 : (ts.any fun y => eqV (toVP y) (toVP t)) = (ts.map toVP).any fun y => eqV y (toVP t) := by rw [List.any_map] <;> rfl
  rw [h1, h2, e1, e2]
theorem items_of {t : PV} {ts : List PV} (r : RP st (fun _ => True) d t) (h : itemsP t = some ts) : ∃ ds, itemsD st d = some ds ∧ RPs st (fun _ => True) ds ts := by
  cases r with
  | tup r =>
    cases h
    exact ⟨_, rfl, r⟩
  | lst s e r =>
    cases h
    refine ⟨_, ?_, r⟩
    unfold itemsD
    dsimp only
    rw [e]
  | _ => cases h
theorem inAny_of {t t' : PV} {ds : List D} {ts : List PV} {k : Bool} (rx : RP st (fun _ => True) d t) (ry : RP st (fun _ => True) e t') (rs : RPs st (fun _ => True) ds ts) (h : inAnyP t t' ts = some k) : inAny st d e ds = some k := by
  unfold inAnyP at h
  unfold inAny
  rw [rx.flatEq, rs.flatEq]
  cases hc : (flatP t && ts.all flatP) with
  | true =>
    rw [hc] at h
    obtain ⟨c1, c2⟩ := Bool.and_eq_true_iff.mp hc
    dsimp only
    rw [in_of (rx.flat c1).2 (rs.flat c2).2]
    exact h
  | false =>
    rw [hc] at h
    have h : inPP t t' = some k := h
    unfold inPP at h
    dsimp only
    unfold inDD
    split at h
    · rename_i a c e1 e2
      rw [py_of _ rx e1, py_of _ ry e2]
      exact h
    · rename_i a c e1 e2
      rw [py_of _ rx e1, py_of _ ry e2]
      exact h
    · cases h
def R0 {α : Type} (st : Store) (a c : α) (st' : Store) : Prop := a = c ∧ st' = st
theorem r0 {α : Type} {a : α} : TR (.ret a) (.ret (a, st)) (R0 st) X := TR.ret ⟨rfl, rfl⟩
theorem tr_popt {o o' : Option Bool} (h : ∀ p, o = some p → o' = some p) : TR (popt o) (mopt o' st) (R0 st) X := by
  cases o with
  | none => trivial
  | some p =>
    rw [h p rfl]
    exact r0
theorem op_cmpP (op : CmpOp) (rx : RP st (fun _ => True) d x.2) (ry : RP st (fun _ => True) e y.2) : TR (cmpP op x.2 y.2) (cmpD op d e st) (R0 st) X := by
  obtain ⟨m, t⟩ := x
  obtain ⟨m', t'⟩ := y
  dsimp only at rx ry ⊢
  cases op
  case Eq => exact tr_popt fun p h => eq_of (x := (m, t)) (y := (m', t')) rx ry h
  case NotEq =>
    refine tr_popt fun p h => ?_
    cases q : eqP t t' with
    | none =>
      rw [q] at h
      cases h
    | some k =>
      rw [q] at h
      rw [eq_of (x := (m, t)) (y := (m', t')) rx ry q]
      exact h
  case Lt => cases rx <;> cases ry <;> first | exact trivial | exact r0
  case LtE => cases rx <;> cases ry <;> first | exact trivial | exact r0
  case Gt => cases rx <;> cases ry <;> first | exact trivial | exact r0
  case GtE => cases rx <;> cases ry <;> first | exact trivial | exact r0
  case Is => cases ry <;> first | exact trivial | (cases rx <;> exact r0)
  case IsNot => cases ry <;> first | exact trivial | (cases rx <;> exact r0)
  case In =>
    unfold cmpP
    dsimp only
    split
    · rename_i ts h
      obtain ⟨ds, h1, h2⟩ := items_of ry h
      unfold cmpD
      dsimp only
      rw [h1]
      dsimp only
      exact tr_popt fun p hp => inAny_of rx ry h2 hp
    · trivial
  case NotIn =>
    unfold cmpP
    dsimp only
    split
    · rename_i ts h
      obtain ⟨ds, h1, h2⟩ := items_of ry h
      unfold cmpD
      dsimp only
      rw [h1]
      dsimp only
      refine tr_popt fun p hp => ?_
      cases q : inAnyP t t' ts with
      | none => rw [q] at hp; cases hp
      | some k =>
        rw [q] at hp
        rw [inAny_of rx ry h2 q]
        exact hp
    · trivial
theorem op_truthP {t : PV} (r : RP st (fun _ => True) d t) : TR (truthP t) (truthD d st) (R0 st) X := by
  cases r with
  | str z => exact TR.pif id r0
  | tup r =>
    show TR _ (T.ret (_, st)) _ _
    rw [r.isEmpty]
    exact r0
  | lst s e r =>
    unfold truthD
    dsimp only
    rw [e]
    dsimp only
    rw [r.isEmpty]
    exact r0
  | scr s e =>
    unfold truthD
    dsimp only
    rw [e]
    dsimp only
    rw [List.isEmpty_map]
    exact r0
  | rng s e => trivial
  | pr _ _ => trivial
  | _ => exact r0
theorem op_asBP {t : PV} (r : RP st (fun _ => True) d t) : TR (asBP t) (asB d st) (R0 st) X := by
  cases r <;> first | exact trivial | exact r0
theorem atI_of' {α β : Type} {xs : List α} {ys : List β} {k : Int} {y : β} (hl : xs.length = ys.length) (h : atI ys k = some y) : ∃ j : Nat, ys[j]? = some y ∧ ∀ x, xs[j]? = some x → atI xs k = some x := by
  unfold atI at h ⊢
  rw [hl]
  cases q : ixN ys.length k with
  | none =>
    rw [q] at h
    cases h
  | some j =>
    rw [q] at h
    exact ⟨j, h, fun x hx => hx⟩
theorem op_ixP (rx : RES S O b st x d) (ry : RP st (fun _ => True) e y.2) : TR (ixP x y.2) (ixD d e st) (RX S O b st) X := by
  obtain ⟨m', t'⟩ := y
  obtain ⟨m, t⟩ := x
  dsimp only at ry ⊢
  cases ry <;> first | exact trivial | skip
  rename_i k
  cases t <;> first | exact trivial | skip
  · obtain rfl := rx.str
    rename_i z
    refine TR.pif id ?_
    show TR (popt ((chrZ z k).map fun c => (Md.fz, PV.str c))) _ _ _
    unfold chrZ
    cases q : atI z.cps.toList k with
    | none => trivial
    | some c => exact TR.ret (.fz (.str _))
  · rename_i ts
    obtain ⟨ds, rfl, hl, hi⟩ := rx.tupIt
    show TR (popt ((atI ts k).map fun y => (itMd m y, y))) (mopt (atI ds k) st) _ _
    cases q : atI ts k with
    | none => trivial
    | some y =>
      obtain ⟨j, h1, h2⟩ := atI_of' hl q
      obtain ⟨x, h3, h4⟩ := hi j y h1
      rw [h2 x h3]
      exact TR.ret (.here h4)
  · rename_i ts
    obtain ⟨n, ds, rfl, e1, hl, hi⟩ := rx.lstIt
    show TR (popt ((atI ts k).map fun y => (itMd m y, y))) (match itemsD st (.ref n) with | some xs => mopt (atI xs k) st | none => .stuck) _ _
    unfold itemsD
    dsimp only
    rw [e1]
    dsimp only
    cases q : atI ts k with
    | none => trivial
    | some y =>
      obtain ⟨j, h1, h2⟩ := atI_of' hl q
      obtain ⟨x, h3, h4⟩ := hi j y h1
      rw [h2 x h3]
      exact TR.ret (.here h4)
  · rename_i ns
    obtain ⟨n, rfl, e1, _⟩ := rx.scr
    show TR (popt ((atI ns k).map fun y => (Md.fz, PV.int y))) (match itemsD st (.ref n) with | some xs => mopt (atI xs k) st | none => .stuck) _ _
    unfold itemsD
    dsimp only
    rw [e1]
    dsimp only
    cases q : atI ns k with
    | none => trivial
    | some y =>
      obtain ⟨j, h1, h2⟩ := atI_of' (xs := ns.map D.int) (List.length_map ..) q
      rw [h2 (.int y) (by rw [List.getElem?_map, h1] <;> rfl)]
      exact TR.ret (.fz (.int _))
theorem cutP_of {S : Cells} {ds : List D} {ts : List PV} {lo hi : Option Int} (r : RPs st S ds ts) : RPs st S (cutD ds lo hi) (cutP ts lo hi) := by
  unfold cutD cutP
  rw [r.length]
  exact (r.drop _).take _
theorem op_sliceP {lo hi : Option Int} (hb : b ≤ st.length) (hS : ∀ n, S n → n < st.length) (rx : RES S O b st x d) : TR (sliceP x lo hi) (sliceD d lo hi st) (RX S O b st) X := by
  obtain ⟨m, t⟩ := x
  cases t <;> first | exact trivial | skip
  · obtain rfl := rx.str
    exact TR.pif id (TR.ret (.fz (.str _)))
  · refine TR.pifP fun hc => ?_
    obtain ⟨ds, rfl, r1⟩ := rx.tup hc
    exact TR.ret (.fz (.tup (cutP_of r1)))
  · refine TR.pifP fun hc => ?_
    obtain ⟨n, ds, rfl, e1, r1⟩ := rx.lst hc
    unfold sliceD
    dsimp only
    rw [e1]
    exact TR.ret (.new hb hS (cutP_of r1))
theorem op_revP (hb : b ≤ st.length) (hS : ∀ n, S n → n < st.length) (rx : RES S O b st x d) : TR (revP x) (revD d st) (RX S O b st) X := by
  obtain ⟨m, t⟩ := x
  cases t <;> first | exact trivial | skip
  refine TR.pifP fun hc => ?_
  obtain ⟨n, ds, rfl, e1, r1⟩ := rx.lst hc
  unfold revD
  dsimp only
  rw [e1]
  exact TR.ret (.new hb hS r1.reverse)
theorem op_isiP {t : PV} {tys : List String} (r : RP st (fun _ => True) d t) : TR (isiP t tys) (isiD d tys st) (RX S O b st) X := by
  have q : ∀ a, tyP t = some a → tyD st d = some a := by
    intro a h
    cases r with
    | lst s e r =>
      unfold tyD
      dsimp only
      rw [e]
      exact h
    | scr s e =>
      unfold tyD
      dsimp only
      rw [e]
      exact h
    | rng s e => cases h
    | _ => exact h
  unfold isiP isiD
  cases h : tyP t with
  | none => trivial
  | some a =>
    rw [q a h]
    exact TR.ret (.fz (.bl _))
theorem op_rgP {l : Bool} {t : PV} (hb : b ≤ st.length) (hS : ∀ n, S n → n < st.length) (r : RP st (fun _ => True) d t) : TR (rgP l t) (rgD l d st) (RX S O b st) X := by
  cases r <;> first | exact trivial | skip
  rename_i n
  refine TR.pif id ?_
  have q : ∀ S : Cells, RPs st S (rgItems n.toNat) (rgItemsP n.toNat) := fun S => by
    have h := RPs.ints (st := st) (S := S) ((List.range n.toNat).map fun (i : Nat) => (i : Int))
    rw [List.map_map, List.map_map] at h
    exact h
  cases l with
  | true => exact TR.ret (.new hb hS (q _))
  | false => exact TR.ret (.fz (.tup (q _)))
theorem ints_ofP {S : Cells} : ∀ {ds : List D} {ts : List PV} {ns : List Int}, RPs st S ds ts → intsP ts = some ns → intsD ds = some ns
  | _, _, _, .nil, h => h
  | _, _, _, .cons r rs, h => by
    cases r <;> first | cases h; done | skip
    rename_i ts i
    have h : (intsP ts).map (i :: ·) = some _ := h
    cases q : intsP ts with
    | none =>
      rw [q] at h
      cases h
    | some ns =>
      rw [q] at h
      show (intsD _).map (i :: ·) = _
      rw [ints_ofP rs q]
      exact h
theorem bls_ofP {S : Cells} : ∀ {ds : List D} {ts : List PV} {ns : List Bool}, RPs st S ds ts → blsP ts = some ns → blsD ds = some ns
  | _, _, _, .nil, h => h
  | _, _, _, .cons r rs, h => by
    cases r <;> first | cases h; done | skip
    rename_i ts i
    have h : (blsP ts).map (i :: ·) = some _ := h
    cases q : blsP ts with
    | none =>
      rw [q] at h
      cases h
    | some ns =>
      rw [q] at h
      show (blsD _).map (i :: ·) = _
      rw [bls_ofP rs q]
      exact h
end
end DI
end
section
set_option maxHeartbeats 1000000
namespace DI
open PySem L2
inductive VALS (S : Cells) (O : List Nat) (st : Store) (F : Cells) : List MV → List D → List Nat → Prop
  | nil : VALS S O st F [] [] []
  | val {x : MV} {d : D} {xs : List MV} {ds : List D} {o1 o2 : List Nat} : VR st F d x o1 → VALS S O st F xs ds o2 → VALS S O st F (x :: xs) (d :: ds) (o1 ++ o2)
  | bor {m : Md} {t : PV} {d : D} {xs : List MV} {ds : List D} {os o2 : List Nat} : VR st S d (retMd m, t) os → (∀ n ∈ os, n ∈ O) → m.stB = false → os.Nodup → VALS S O st F xs ds o2 → VALS S O st F ((m, t) :: xs) (d :: ds) o2
section
variable {X : Store → Prop} {S F F' : Cells} {O : List Nat} {b : Nat} {st : Store} {x y : MV} {d e : D} {xs : List MV} {ds : List D} {os : List Nat}
theorem VALS.mono (h : ∀ n, F n → n < st.length → F' n) : ∀ {xs : List MV} {ds : List D} {os : List Nat}, VALS S O st F xs ds os → VALS S O st F' xs ds os
  | _, _, _, .nil => .nil
  | _, _, _, .val r rs => .val (r.sub h) (rs.mono h)
  | _, _, _, .bor r a c f rs => .bor r a c f (rs.mono h)
theorem VALS.app (g : Store) : ∀ {xs : List MV} {ds : List D} {os : List Nat}, VALS S O st F xs ds os → VALS S O (st ++ g) F xs ds os
  | _, _, _, .nil => .nil
  | _, _, _, .val r rs => .val (r.app g) (rs.app g)
  | _, _, _, .bor r a c f rs => .bor (r.app g) a c f (rs.app g)
theorem VALS.lt : ∀ {xs : List MV} {ds : List D} {os : List Nat}, VALS S O st F xs ds os → ∀ n ∈ os, n < st.length
  | _, _, _, .nil, n, h => by cases h
  | _, _, _, .val r rs, n, h => by
    rcases List.mem_append.mp h with h | h
    · exact r.lt n h
    · exact rs.lt n h
  | _, _, _, .bor r a c f rs, n, h => rs.lt n h
/-- every value by itself -/
inductive RESs (S : Cells) (O : List Nat) (b : Nat) (st : Store) : List MV → List D → Prop
  | nil : RESs S O b st [] []
  | cons {x : MV} {d : D} {xs : List MV} {ds : List D} : RES S O b st x d → RESs S O b st xs ds → RESs S O b st (x :: xs) (d :: ds)
theorem VALS.each {tot : List Nat} : ∀ {xs : List MV} {ds : List D} {os : List Nat}, VALS S O st (Fr S b tot) xs ds os → (∀ n ∈ os, n ∈ tot) → os.Nodup → (∀ n ∈ os, b ≤ n) → RESs S O b st xs ds
  | _, _, _, .nil, _, _, _ => .nil
  | _, _, _, .val (x := (m, t)) r rs, ht, hn, hb => by
    obtain ⟨n1, n2, _⟩ := List.nodup_append.mp hn
    exact .cons (.val (r.sub fun n s _ => s.imp id fun q => ⟨q.1, fun z => q.2 (ht n (List.mem_append_left _ z))⟩) n1 fun n h => hb n (List.mem_append_left _ h))
      (rs.each (fun n h => ht n (List.mem_append_right _ h)) n2 fun n h => hb n (List.mem_append_right _ h))
  | _, _, _, .bor r a c f rs, ht, hn, hb => .cons (.bor r a c f) (rs.each ht hn hb)
/-- values behind expressions -/
def RXs (S : Cells) (O : List Nat) (b : Nat) (st : Store) (xs : List MV) (ds : List D) (st' : Store) : Prop := (∃ g, st' = st ++ g) ∧ ∃ os, VALS S O st' (Fr S b os) xs ds os ∧ os.Nodup ∧ ∀ n ∈ os, b ≤ n
theorem RXs.each {st' : Store} (h : RXs S O b st xs ds st') : RESs S O b st' xs ds := by
  obtain ⟨_, os, h1, h2, h3⟩ := h
  exact h1.each (fun _ h => h) h2 h3
theorem RXs.cons {st1 st2 : Store} (hb : b ≤ st.length) (h1 : RX S O b st x d st1) (h2 : RXs S O st1.length st1 xs ds st2) : RXs S O b st (x :: xs) (d :: ds) st2 := by
  obtain ⟨⟨g, rfl⟩, r⟩ := h1
  obtain ⟨⟨g2, rfl⟩, os, v, nd, ge⟩ := h2
  refine ⟨⟨g ++ g2, List.append_assoc ..⟩, ?_⟩
  have hl : (st ++ g).length = st.length + g.length := List.length_append
  cases r with
  | val r n1 b1 =>
    rename_i m t o1
    have l1 := r.lt
    refine ⟨o1 ++ os, .val (r.mono (fun n s l => ⟨?_, app_lt l⟩) fun n hn => app_lt (l1 n hn)) (v.mono fun n s l => ?_), List.nodup_append.mpr ⟨n1, nd, fun a ha c hc => ?_⟩, fun n hn => ?_⟩
    · refine s.imp id fun q => ⟨q.1, fun z => ?_⟩
      rcases List.mem_append.mp z with z | z
      · exact q.2 z
      · have := ge n z
        omega
    · rcases s with s | ⟨s1, s2⟩
      · exact .inl s
      · refine .inr ⟨by omega, fun z => ?_⟩
        rcases List.mem_append.mp z with z | z
        · have := l1 n z
          omega
        · exact s2 z
    · have := l1 a ha
      have := ge c hc
      omega
    · rcases List.mem_append.mp hn with z | z
      · exact b1 n z
      · have := ge n z
        omega
  | bor r a c f => exact ⟨os, .bor (r.app g2) a c f (v.mono fun n s l => s.imp id fun q => ⟨by omega, q.2⟩), nd, fun n hn => by have := ge n hn; omega⟩

theorem stored_of : ∀ {xs : List MV} {ds : List D} {vs : List PV}, RESs S O b st xs ds → stored xs = some vs → RPs st (Fr S b []) ds vs
  | _, _, _, .nil, h => by
    cases h
    exact .nil
  | _, _, _, .cons (x := (m, t)) r rs, h => by
    unfold stored at h
    split at h
    · rename_i ws h1 h2
      cases h
      exact .cons (r.sto h1) (stored_of rs h2)
    · cases h
theorem RESs.any : ∀ {xs : List MV} {ds : List D}, RESs S O b st xs ds → RPs st (fun _ => True) ds (xs.map (·.2))
  | _, _, .nil => .nil
  | _, _, .cons (x := (m, t)) r rs => .cons r.any rs.any
theorem RESs.length : ∀ {xs : List MV} {ds : List D}, RESs S O b st xs ds → ds.length = xs.length
  | _, _, .nil => rfl
  | _, _, .cons r rs => congrArg (· + 1) rs.length
/-- a display of new lists keeps them -/
theorem news_of : ∀ {es : IEs} {xs : List MV} {ds : List D} {os : List Nat}, VALS S O st F xs ds os → allNew es xs = true → CRs st F ds (xs.map (·.2)) os
  | .nil, _, _, _, .nil, _ => .nil
  | .cons e es, _, _, _, .nil, h => by cases h
  | .nil, _, _, _, .val _ _, h => by cases h
  | .nil, _, _, _, .bor _ _ _ _ _, h => by cases h
  | .cons e es, _, _, _, .val (x := (m, t)) r rs, h => by
    obtain ⟨h1, h2⟩ := Bool.and_eq_true_iff.mp h
    have q := news_of rs h2
    cases r with
    | fz r =>
      have hf : flatP t = true := by
        rcases Bool.or_eq_true_iff.mp h1 with z | z
        · cases z
        · exact (Bool.and_eq_true_iff.mp z).2
      exact .fz (fun us (z : t = .lst us) => by rw [z] at hf; cases hf) r q
    | o1 e0 r => exact .own e0 r q
    | o2 e0 r =>
      rcases Bool.or_eq_true_iff.mp h1 with z | z
      · cases z
      · cases (Bool.and_eq_true_iff.mp z).2
    | o2t r =>
      rcases Bool.or_eq_true_iff.mp h1 with z | z
      · cases z
      · cases (Bool.and_eq_true_iff.mp z).2
  | .cons e es, _, _, _, .bor (m := m) (t := t) r a c f rs, h => by
    obtain ⟨h1, h2⟩ := Bool.and_eq_true_iff.mp h
    rcases Bool.or_eq_true_iff.mp h1 with z | z
    · cases m <;> first | cases z; done | cases c
    · obtain ⟨_, z⟩ := Bool.and_eq_true_iff.mp z
      cases m <;> first | cases c; done | skip
      · cases r with
        | o1 e0 r => cases z
      · cases r with
        | o2 e0 r => cases z
        | o2t r => cases z
theorem stored_eq : ∀ {xs : List MV} {vs : List PV}, stored xs = some vs → xs.map (·.2) = vs
  | [], _, h => by
    cases h
    rfl
  | (m, t) :: xs, _, h => by
    unfold stored at h
    split at h
    · rename_i ws h1 h2
      cases h
      rw [List.map_cons, stored_eq h2]
    · cases h
theorem tup_disp {es : IEs} {vs : List PV} {st' : Store} (hl : b ≤ st.length) (h : RXs S O b st xs ds st') (hs : stored xs = some vs) : RX S O b st (dispMd es xs .fz, .tup vs) (.tup ds) st' := by
  refine ⟨h.1, ?_⟩
  have hz : RES S O b st' (.fz, .tup vs) (.tup ds) := .fz (.tup (stored_of h.each hs))
  obtain ⟨_, os, v, nd, ge⟩ := h
  unfold dispMd
  split
  · exact hz
  · split
    · rename_i c
      obtain ⟨c1, _⟩ := Bool.and_eq_true_iff.mp c
      have q := news_of v c1
      rw [stored_eq hs] at q
      exact .val (.o2t q) nd ge
    · exact hz
theorem lst_disp {es : IEs} {vs : List PV} {st' : Store} (hb : b ≤ st.length) (hS : ∀ n, S n → n < st.length) (h : RXs S O b st xs ds st') (hs : stored xs = some vs) : RX S O b st (dispMd es xs .o1, .lst vs) (.ref st'.length) (st' ++ [.lst true ds]) := by
  have each := stored_of h.each hs
  obtain ⟨⟨g, rfl⟩, os, v, nd, ge⟩ := h
  have hl : (st ++ g).length = st.length + g.length := List.length_append
  refine ⟨⟨g ++ [.lst true ds], List.append_assoc ..⟩, ?_⟩
  have hz : RES S O b (st ++ g ++ [.lst true ds]) (.o1, .lst vs) (.ref (st ++ g).length) := .newL (by omega) each fun n s => by have := hS n s; omega
  unfold dispMd
  split
  · exact hz
  · split
    · rename_i c
      obtain ⟨c1, _⟩ := Bool.and_eq_true_iff.mp c
      have q := news_of v c1
      rw [stored_eq hs] at q
      have lt := v.lt
      have q2 : CRs (st ++ g ++ [.lst true ds]) (Fr S b ((st ++ g).length :: os)) ds vs os := q.mono (fun n s l => ⟨s.imp id fun z => ⟨z.1, fun w => by
        rcases List.mem_cons.mp w with w | w
        · omega
        · exact z.2 w⟩, app_lt l⟩) fun n hn => app_lt (lt n hn)
      have n2 : (st ++ g).length ∉ os := fun z => by
        have := lt _ z
        omega
      refine .val (.o2 (get_last _ _) q2) (List.nodup_cons.mpr ⟨n2, nd⟩) fun n hn => ?_
      · rcases List.mem_cons.mp hn with w | w
        · omega
        · exact ge n w
    · exact hz
/-! ### built-in functions -/
theorem RES.items {m : Md} {t : PV} {ts : List PV} (hc : m.cpB = true) (r : RES S O b st (m, t) d) (h : itemsP t = some ts) : ∃ ds, itemsD st d = some ds ∧ RPs st (Fr S b []) ds ts := by
  cases t <;> first | cases h; done | skip
  · cases h
    obtain ⟨ds, rfl, r'⟩ := r.tup hc
    exact ⟨ds, rfl, r'⟩
  · cases h
    obtain ⟨n, ds, rfl, e, r'⟩ := r.lst hc
    refine ⟨ds, ?_, r'⟩
    unfold itemsD
    dsimp only
    rw [e]
theorem op_bltP (f : Blt) (hb : b ≤ st.length) (hS : ∀ n, S n → n < st.length) (h : RESs S O b st xs ds) : TR (bltP f xs) (bltD f ds st) (RX S O b st) X := by
  cases h with
  | nil => cases f <;> exact trivial
  | @cons x1 d1 xs1 ds1 r1 rs =>
    cases rs with
    | @cons x2 d2 xs2 ds2 r2 rs =>
      cases rs with
      | cons _ _ =>
        obtain ⟨m1, t1⟩ := x1
        obtain ⟨m2, t2⟩ := x2
        cases f <;> first | exact trivial | skip
        all_goals cases t1 <;> first | exact trivial | skip
        all_goals cases t2 <;> exact trivial
      | nil =>
        obtain ⟨m1, t1⟩ := x1
        obtain ⟨m2, t2⟩ := x2
        cases f <;> cases t1 <;> first | exact trivial | skip
        all_goals cases t2 <;> first | exact trivial | skip
        · obtain rfl := r1.int
          obtain rfl := r2.int
          exact TR.ret (.fz (.int _))
        · obtain rfl := r1.int
          obtain rfl := r2.int
          exact TR.ret (.fz (.int _))
        · obtain rfl := r1.int
          obtain rfl := r2.int
          exact TR.pif id (TR.ret (.fz (.int _)))
    | nil =>
      obtain ⟨m, t⟩ := x1
      cases f
      case len =>
        cases t <;> first | exact trivial | skip
        · obtain rfl := r1.str
          exact TR.pif id (TR.ret (.fz (.int _)))
        · rename_i ts
          obtain ⟨ds, rfl, hl, _⟩ := r1.tupIt
          show TR (.ret (Md.fz, PV.int (ts.length : Int))) (.ret (D.int (ds.length : Int), st)) _ _
          rw [hl]
          exact TR.ret (.fz (.int _))
        · rename_i ts
          obtain ⟨n, ds, rfl, e, hl, _⟩ := r1.lstIt
          show TR (.ret (Md.fz, PV.int (ts.length : Int))) (match itemsD st (.ref n) with | some xs => .ret (D.int xs.length, st) | none => .stuck) _ _
          unfold itemsD
          dsimp only
          rw [e]
          dsimp only
          rw [hl]
          exact TR.ret (.fz (.int _))
        · rename_i ns
          obtain ⟨n, rfl, e, _⟩ := r1.scr
          show TR (.ret (Md.fz, PV.int (ns.length : Int))) (match itemsD st (.ref n) with | some xs => .ret (D.int xs.length, st) | none => .stuck) _ _
          unfold itemsD
          dsimp only
          rw [e]
          dsimp only
          rw [List.length_map]
          exact TR.ret (.fz (.int _))
      case list =>
        unfold bltP
        dsimp only
        split
        · rename_i ts h
          refine TR.pifP fun hc => ?_
          obtain ⟨ds, e, r⟩ := r1.items hc h
          unfold bltD
          dsimp only
          rw [e]
          exact TR.ret (.new hb hS r)
        · trivial
      case tuple =>
        unfold bltP
        dsimp only
        split
        · rename_i ts h
          refine TR.pifP fun hc => ?_
          obtain ⟨ds, e, r⟩ := r1.items hc h
          unfold bltD
          dsimp only
          rw [e]
          exact TR.ret (.fz (.tup r))
        · trivial
      case all =>
        have r := r1.any
        cases r <;> first | exact trivial | skip
        rename_i n ds ts s e r
        unfold bltP bltD
        dsimp only
        rw [e]
        dsimp only
        split
        · rename_i bs h
          rw [bls_ofP r h]
          exact TR.ret (.fz (.bl _))
        · trivial
      case any =>
        have r := r1.any
        cases r <;> first | exact trivial | skip
        rename_i n ds ts s e r
        unfold bltP bltD
        dsimp only
        rw [e]
        dsimp only
        split
        · rename_i bs h
          rw [bls_ofP r h]
          exact TR.ret (.fz (.bl _))
        · trivial
      case abs =>
        cases t <;> first | exact trivial | skip
        obtain rfl := r1.int
        exact TR.ret (.fz (.int _))
      case int =>
        cases t <;> first | exact trivial | skip
        · obtain rfl := r1.bl
          exact TR.ret (.fz (.int _))
        · obtain rfl := r1.int
          exact TR.ret (.fz (.int _))
      case str =>
        cases t <;> first | exact trivial | skip
        · obtain rfl := r1.bl
          exact TR.ret (.fz (.str _))
        · obtain rfl := r1.int
          exact TR.pif id (TR.ret (.fz (.str _)))
      case repr =>
        show TR (reprP t) _ _ _
        unfold reprP bltD
        dsimp only
        split
        · rename_i p h
          rw [py_of _ r1.any h]
          exact TR.pif id (TR.ret (.fz (.str _)))
        · trivial
      case sorted =>
        unfold bltP bltD
        dsimp only
        split
        · rename_i ts h
          obtain ⟨ds, e, r⟩ := items_of r1.any h
          rw [e]
          dsimp only
          split
          · rename_i ns h2
            rw [ints_ofP r h2]
            exact TR.pif id (TR.ret (.new hb hS (RPs.ints _)))
          · trivial
        · trivial
      all_goals cases t <;> exact trivial
theorem op_methP (m : Mth) {t : PV} {vs : List PV} (r : RP st (fun _ => True) d t) (h : RPs st (Fr S b []) ds vs) : TR (methP m t vs) (methD m d ds st) (RX S O b st) X := by
  cases m
  case upper =>
    cases r <;> first | exact trivial | skip
    cases h with
    | cons _ _ => exact trivial
    | nil => exact TR.pif id (TR.ret (.fz (.str _)))
  case index =>
    cases r <;> first | exact trivial | skip
    rename_i ds' ts' rs
    cases h with
    | nil => exact trivial
    | cons ry h =>
      cases h with
      | cons _ _ => exact trivial
      | nil =>
        rename_i dy ty
        refine TR.pifP fun hc => ?_
        obtain ⟨c1, c2⟩ := Bool.and_eq_true_iff.mp hc
        obtain ⟨f1, e1⟩ := ry.flat c1
        obtain ⟨f2, e2⟩ := rs.flat c2
        have e : (ds'.findIdx? fun z => eqV (toV z) (toV dy)) = idxP ts' ty := by
          unfold idxP
          have q1 : (ds'.findIdx? fun z => eqV (toV z) (toV dy)) = (ds'.map toV).findIdx? fun v => eqV v (toV dy) := by rw [List.findIdx?_map]; rfl
          have q2 : (ts'.findIdx? fun z => eqV (toVP z) (toVP ty)) = (ts'.map toVP).findIdx? fun v => eqV v (toVP ty) := by rw [List.findIdx?_map]; rfl
          rw [q1, q2, e1, e2]
        show TR _ (match ds'.findIdx? fun z => eqV (toV z) (toV dy) with | some j => mif (flatD dy && ds'.all flatD) (mret (D.int (j : Int))) st | none => .stuck) _ _
        rw [e]
        cases idxP ts' ty with
        | none => exact trivial
        | some j =>
          rw [f1, f2]
          exact TR.ret (.fz (.int _))
  all_goals exact trivial
end
end DI
end
section
set_option maxHeartbeats 1000000
namespace DI
open PySem L2
/-! ### names -/
inductive SRs (st : Store) (S : Cells) : Evr → PEnv → List Nat → Prop
  | nil : SRs st S [] [] []
  | dead {x : Option D} {ds : Evr} {es : PEnv} {os : List Nat} : SRs st S ds es os → SRs st S (x :: ds) (none :: es) os
  | live {d : D} {x : MV} {ds : Evr} {es : PEnv} {o1 os : List Nat} : VR st S d x o1 → SRs st S ds es os → SRs st S (some d :: ds) (some x :: es) (o1 ++ os)
structure ER (st : Store) (S : Cells) (denv : Evr) (env : PEnv) (O : List Nat) : Prop where
  sl : SRs st S denv env O
  nd : O.Nodup
  dis : ∀ n ∈ O, ¬ S n
  lt : ∀ n, S n → n < st.length
section
variable {S S' F A : Cells} {O : List Nat} {b : Nat} {st st' : Store} {x y : MV} {d e : D} {xs : List MV} {ds : List D} {os : List Nat} {denv : Evr} {env : PEnv}
theorem SRs.mono (h : ∀ n, S n → n < st.length → S' n ∧ st'[n]? = st[n]?) : ∀ {ds : Evr} {es : PEnv} {os : List Nat}, (∀ n ∈ os, st'[n]? = st[n]?) → SRs st S ds es os → SRs st' S' ds es os
  | _, _, _, _, .nil => .nil
  | _, _, _, ho, .dead r => .dead (r.mono h ho)
  | _, _, _, ho, .live r rs => .live (r.mono h fun n hn => ho n (List.mem_append_left _ hn)) (rs.mono h fun n hn => ho n (List.mem_append_right _ hn))
theorem SRs.ltO : ∀ {ds : Evr} {es : PEnv} {os : List Nat}, SRs st S ds es os → ∀ n ∈ os, n < st.length
  | _, _, _, .nil, n, h => by cases h
  | _, _, _, .dead r, n, h => r.ltO n h
  | _, _, _, .live r rs, n, h => by
    rcases List.mem_append.mp h with h | h
    · exact r.lt n h
    · exact rs.ltO n h
theorem SRs.get : ∀ {ds : Evr} {es : PEnv} {os : List Nat} {i : Nat} {x : MV}, SRs st S ds es os → es[i]? = some (some x) → ∃ d o1, ds[i]? = some (some d) ∧ VR st S d x o1 ∧ o1.Sublist os
  | _, _, _, i, x, .nil, h => by simp at h
  | _, _, _, 0, x, .dead r, h => by simp at h
  | _, _, _, 0, x, .live r rs, h => by
    simp at h
    subst h
    exact ⟨_, _, rfl, r, List.sublist_append_left _ _⟩
  | _, _, _, i + 1, x, .dead r, h => r.get (i := i) (by simpa using h)
  | _, _, _, i + 1, x, .live r rs, h => by
    obtain ⟨d, o, h1, h2, h3⟩ := rs.get (i := i) (by simpa using h)
    exact ⟨d, o, by simpa using h1, h2, h3.trans (List.sublist_append_right _ _)⟩
theorem ER.app (E : ER st S denv env O) (g : Store) : ER (st ++ g) S denv env O :=
  ⟨E.sl.mono (fun n s l => ⟨s, app_lt l⟩) fun n hn => app_lt (E.sl.ltO n hn), E.nd, E.dis, fun n s => by have := E.lt n s; rw [List.length_append]; omega⟩
theorem ER.var {i : Nat} (E : ER st S denv env O) (h : varP env i = some x) : ∃ d, denv[i]? = some (some d) ∧ RES S O st.length st x d := by
  unfold varP at h
  split at h
  · rename_i m v e
    cases h
    obtain ⟨d, o1, h1, h2, h3⟩ := E.sl.get e
    refine ⟨d, h1, ?_⟩
    cases m with
    | fz =>
      cases h2 with
      | fz r => exact .fz (r.sub fun _ s _ => Fr.old s)
    | o1 => exact .bor h2 (fun n hn => h3.subset hn) rfl (E.nd.sublist h3)
    | o2 => exact .bor h2 (fun n hn => h3.subset hn) rfl (E.nd.sublist h3)
    | b1 => cases h2
    | b2 => cases h2
  · cases h
/-- a name takes a frozen value; a name is forgotten -/
theorem SRs.setF {d : D} {t : PV} (r : RP st S d t) : ∀ {ds : Evr} {es : PEnv} {os : List Nat} (i : Nat), SRs st S ds es os → ∃ os', SRs st S (ds.set i (some d)) (es.set i (some (.fz, t))) os' ∧ os'.Sublist os
  | _, _, _, _, .nil => ⟨_, .nil, .slnil⟩
  | _, _, _, 0, .dead rs => ⟨_, .live (o1 := []) (.fz r) rs, List.Sublist.refl _⟩
  | _, _, _, 0, .live q rs => ⟨_, .live (o1 := []) (.fz r) rs, List.sublist_append_right _ _⟩
  | _, _, _, i + 1, .dead rs => by
    obtain ⟨os', h1, h2⟩ := rs.setF r i
    exact ⟨os', .dead h1, h2⟩
  | _, _, _, i + 1, .live q rs => by
    obtain ⟨os', h1, h2⟩ := rs.setF r i
    exact ⟨_, .live q h1, List.Sublist.append_left h2 _⟩
theorem SRs.setN {x : Option D} : ∀ {ds : Evr} {es : PEnv} {os : List Nat} (i : Nat), SRs st S ds es os → ∃ os', SRs st S (ds.set i x) (es.set i none) os' ∧ os'.Sublist os
  | _, _, _, _, .nil => ⟨_, .nil, .slnil⟩
  | _, _, _, 0, .dead rs => ⟨_, .dead rs, List.Sublist.refl _⟩
  | _, _, _, 0, .live q rs => ⟨_, .dead rs, List.sublist_append_right _ _⟩
  | _, _, _, i + 1, .dead rs => by
    obtain ⟨os', h1, h2⟩ := rs.setN (x := x) i
    exact ⟨os', .dead h1, h2⟩
  | _, _, _, i + 1, .live q rs => by
    obtain ⟨os', h1, h2⟩ := rs.setN (x := x) i
    exact ⟨_, .live q h1, List.Sublist.append_left h2 _⟩
theorem ER.sub (E : ER st S denv env O) {O' : List Nat} (r : SRs st S ds' env' O') (h : O'.Sublist O) : ER st S ds' env' O' := ⟨r, E.nd.sublist h, fun n hn => E.dis n (h.subset hn), E.lt⟩
theorem ER.setF {d : D} {t : PV} (E : ER st S denv env O) (r : RP st S d t) (i : Nat) : ∃ O', ER st S (denv.set i (some d)) (env.set i (some (.fz, t))) O' ∧ O'.Sublist O := by
  obtain ⟨o', h1, h2⟩ := E.sl.setF r i
  exact ⟨o', E.sub h1 h2, h2⟩
theorem ER.setN {x : Option D} (E : ER st S denv env O) (i : Nat) : ∃ O', ER st S (denv.set i x) (env.set i none) O' ∧ O'.Sublist O := by
  obtain ⟨o', h1, h2⟩ := E.sl.setN (x := x) i
  exact ⟨o', E.sub h1 h2, h2⟩
theorem ER.setFs : ∀ {is : List Nat} {ds : List D} {ts : List PV} {denv : Evr} {env env' : PEnv} {O : List Nat}, ER st S denv env O → RPs st S ds ts → setEnvsP is ts env = some env' → ∃ denv' O', setEnvs is ds denv = some denv' ∧ ER st S denv' env' O' ∧ O'.Sublist O
  | [], _, _, _, _, _, _, E, .nil, h => by
    cases h
    exact ⟨_, _, rfl, E, List.Sublist.refl _⟩
  | [], _, _, _, _, _, _, E, .cons _ _, h => by cases h
  | i :: is, _, _, _, _, _, _, E, .nil, h => by cases h
  | i :: is, _, _, _, _, _, _, E, .cons r rs, h => by
    obtain ⟨O1, E1, s1⟩ := E.setF r i
    obtain ⟨denv', O2, e2, E2, s2⟩ := ER.setFs E1 rs h
    exact ⟨denv', O2, e2, E2, s2.trans s1⟩
theorem ER.bind {tg : ITg} {d : D} {t : PV} {env' : PEnv} (E : ER st S denv env O) (r : RP st S d t) (h : bindP tg t env = some env') : ∃ denv' O', bindTg tg d denv = some denv' ∧ ER st S denv' env' O' ∧ O'.Sublist O := by
  cases tg with
  | name i =>
    cases h
    obtain ⟨O1, E1, s1⟩ := E.setF r i
    exact ⟨_, O1, rfl, E1, s1⟩
  | tup ts =>
    cases r <;> first | cases h; done | skip
    · rename_i r
      exact ER.setFs E r h
    · rename_i r s
      exact ER.setFs E (.cons r (.cons s .nil)) h
theorem ER.wipe (E : ER st S denv env O) : ∀ is : List Nat, ∃ O', ER st S (wipeE denv is) (wipeP env is) O' ∧ O'.Sublist O
  | [] => ⟨O, E, List.Sublist.refl _⟩
  | i :: is => by
    obtain ⟨O1, E1, s1⟩ := E.wipe is
    obtain ⟨O2, E2, s2⟩ := E1.setN (x := none) i
    exact ⟨O2, E2, s2.trans s1⟩
/-! ### walks -/
def PlR (st : Store) (F A : Cells) (pl : Pl) (ts : List PV) : Prop := plLen pl = ts.length ∧ ∀ st' : Store, (∀ n, A n → n < st.length → st'[n]? = st[n]?) →
  plEnd st' pl = true ∧ ∀ (i : Nat) (t : PV), ts[i]? = some t → ∃ d, plItem st' pl i = some d ∧ RP st F d t
theorem PlR.tup {ts : List PV} (r : RPs st F ds ts) : PlR st F A (.tup ds) ts := ⟨r.length, fun st' _ => ⟨rfl, fun i t h => r.get h⟩⟩
theorem lstAt_is {n : Nat} {w : Bool} {ds : List D} (e : st'[n]? = some (.lst w ds)) : lstAt st' n ds.length = some ds := by
  unfold lstAt
  rw [e]
  dsimp only
  rw [if_pos rfl]
theorem PlR.lst {n : Nat} {ts : List PV} (e : st[n]? = some (.lst true ds)) (hA : A n) (r : RPs st F ds ts) : PlR st F A (.lst n ds.length) ts := by
  refine ⟨r.length, fun st' h => ?_⟩
  have q := lstAt_is ((h n hA (lt_of e)).trans e)
  refine ⟨by show (lstAt st' n ds.length).isSome = true; rw [q]; rfl, fun i t ht => ?_⟩
  obtain ⟨d, h1, h2⟩ := r.get ht
  exact ⟨d, by show (lstAt st' n ds.length).bind _ = _; rw [q]; exact h1, h2⟩
theorem enumP_get : ∀ (xs : List PV) (j i : Nat), (enumP j xs)[i]? = (xs[i]?).map fun x => .pr (.int ((j + i : Nat) : Int)) x
  | [], j, i => by simp [enumP]
  | x :: xs, j, 0 => by
    simp [enumP]
    rfl
  | x :: xs, j, i + 1 => by
    rw [enumP, List.getElem?_cons_succ, List.getElem?_cons_succ, enumP_get xs (j + 1) i, show j + 1 + i = j + (i + 1) by omega]
theorem enumP_length : ∀ (xs : List PV) (j : Nat), (enumP j xs).length = xs.length
  | [], _ => rfl
  | x :: xs, j => by rw [enumP, List.length_cons, List.length_cons, enumP_length xs]
theorem en_item {i : Nat} {ts : List PV} {t : PV} (r : RPs st F ds ts) (h : (enumP 0 ts)[i]? = some t) : ∃ d, (ds[i]?).map (fun x => D.pr (.int i) x) = some d ∧ RP st F d t := by
  rw [enumP_get, Nat.zero_add] at h
  cases q : ts[i]? with
  | none =>
    rw [q] at h
    cases h
  | some y =>
    rw [q] at h
    cases h
    obtain ⟨d, h1, h2⟩ := r.get q
    exact ⟨_, by rw [h1]; rfl, .pr (.int _) h2⟩
theorem PlR.enumT {ts : List PV} (r : RPs st F ds ts) : PlR st F A (.enumT ds) (enumP 0 ts) := ⟨by rw [enumP_length]; exact r.length, fun st' _ => ⟨rfl, fun i t h => en_item r h⟩⟩
theorem PlR.enumL {n : Nat} {ts : List PV} (e : st[n]? = some (.lst true ds)) (hA : A n) (r : RPs st F ds ts) : PlR st F A (.enumL n ds.length) (enumP 0 ts) := by
  refine ⟨by rw [enumP_length]; exact r.length, fun st' h => ?_⟩
  have q := lstAt_is ((h n hA (lt_of e)).trans e)
  refine ⟨by show (lstAt st' n ds.length).isSome = true; rw [q]; rfl, fun i t ht => ?_⟩
  obtain ⟨d, h1, h2⟩ := en_item r ht
  exact ⟨d, by show (lstAt st' n ds.length).bind _ = _; rw [q]; exact h1, h2⟩
theorem zipP_get : ∀ (xs ys : List PV) (i : Nat), (zipP xs ys)[i]? = (xs[i]?).bind fun x => (ys[i]?).map fun y => .pr x y
  | [], ys, i => by simp [zipP]
  | x :: xs, [], i => by
    rw [zipP]
    · cases (x :: xs)[i]? <;> simp
    · intros; contradiction
  | x :: xs, y :: ys, 0 => by simp [zipP]
  | x :: xs, y :: ys, i + 1 => by rw [zipP, List.getElem?_cons_succ, List.getElem?_cons_succ, List.getElem?_cons_succ, zipP_get xs ys i]
theorem zipP_length : ∀ xs ys : List PV, (zipP xs ys).length = min xs.length ys.length
  | [], ys => by simp [zipP]
  | x :: xs, [] => by
    rw [zipP]
    · simp
    · intros; contradiction
  | x :: xs, y :: ys => by rw [zipP, List.length_cons, List.length_cons, List.length_cons, zipP_length xs ys]; omega
theorem zip_item {i : Nat} {ts us : List PV} {es : List D} {t : PV} (r : RPs st F ds ts) (q : RPs st F es us) (h : (zipP ts us)[i]? = some t) : ∃ d, ((ds[i]?).bind fun x => (es[i]?).map fun y => D.pr x y) = some d ∧ RP st F d t := by
  rw [zipP_get] at h
  cases e1 : ts[i]? with
  | none =>
    rw [e1] at h
    cases h
  | some y =>
    cases e2 : us[i]? with
    | none =>
      rw [e1, e2] at h
      cases h
    | some z =>
      rw [e1, e2] at h
      cases h
      obtain ⟨d1, h1, h2⟩ := r.get e1
      obtain ⟨d2, h3, h4⟩ := q.get e2
      exact ⟨_, by rw [h1, h3]; rfl, .pr h2 h4⟩
theorem PlR.rng {lo : Int} {n : Nat} : PlR st F A (.rng lo n) ((List.range n).map fun (i : Nat) => PV.int (lo + (i : Int))) := by
  refine ⟨by rw [List.length_map, List.length_range]; rfl, fun st' _ => ⟨rfl, fun i t h => ?_⟩⟩
  rw [List.getElem?_map] at h
  cases q : (List.range n)[i]? with
  | none =>
    rw [q] at h
    cases h
  | some j =>
    rw [q] at h
    cases h
    obtain ⟨h1, h2⟩ := List.getElem?_eq_some_iff.mp q
    rw [List.getElem_range] at h2
    rw [List.length_range] at h1
    subst h2
    exact ⟨.int (lo + i), by show (if i < n then some (D.int (lo + i)) else none) = _; rw [if_pos h1], .int _⟩
/-- a walk's items are read by any A that holds them -/
theorem seq_of {bb : Bool} (hA : ∀ n, Fr S b [] n → A n) (hO : bb = true → ∀ n ∈ O, A n) (rx : RES S O b st x d) : seqP bb x = .stuck ∨ ∃ ts, seqP bb x = .ret ts ∧
    ((∃ ds, d = .tup ds ∧ RPs st (Fr S b []) ds ts ∧ x.2 = .tup ts) ∨ ∃ n ds, d = .ref n ∧ st[n]? = some (.lst true ds) ∧ A n ∧ RPs st (Fr S b []) ds ts ∧ x.2 = .lst ts) := by
  obtain ⟨m, t⟩ := x
  cases t <;> first | exact .inl rfl | skip
  · rename_i ts
    cases hc : m.cpB && (bb || m.stB) with
    | false => exact .inl (by show pif (m.cpB && (bb || m.stB)) _ = _; rw [hc]; rfl)
    | true =>
      obtain ⟨h1, _⟩ := Bool.and_eq_true_iff.mp hc
      obtain ⟨ds, rfl, r⟩ := rx.tup h1
      exact .inr ⟨ts, by show pif (m.cpB && (bb || m.stB)) _ = _; rw [hc]; rfl, .inl ⟨ds, rfl, r, rfl⟩⟩
  · rename_i ts
    cases hc : m.cpB && (bb || m.stB) with
    | false => exact .inl (by show pif (m.cpB && (bb || m.stB)) _ = _; rw [hc]; rfl)
    | true =>
      obtain ⟨h1, h2⟩ := Bool.and_eq_true_iff.mp hc
      obtain ⟨n, ds, rfl, e, r⟩ := rx.lst h1
      refine .inr ⟨ts, by show pif (m.cpB && (bb || m.stB)) _ = _; rw [hc]; rfl, .inr ⟨n, ds, rfl, e, ?_, r, rfl⟩⟩
      cases rx with
      | val r h1 h2 =>
        cases r with
        | fz r =>
          cases r with
          | lst s _ _ => exact hA n s.nil
        | o1 _ _ => exact hA n (.inr ⟨h2 n List.mem_cons_self, List.not_mem_nil⟩)
        | o2 _ _ => exact hA n (.inr ⟨h2 n List.mem_cons_self, List.not_mem_nil⟩)
      | bor r h1 h3 =>
        have hb : bb = true := by
          rcases Bool.or_eq_true_iff.mp h2 with z | z
          · exact z
          · have z : m.stB = true := z
            rw [z] at h3
            cases h3
        generalize hm : retMd m = m' at r
        cases r with
        | fz _ => cases m <;> first | cases hm; done | cases h3
        | o1 _ _ => exact hO hb n (h1 n List.mem_cons_self)
        | o2 _ _ => exact hO hb n (h1 n List.mem_cons_self)
end
end DI
end
section
set_option maxHeartbeats 1000000
namespace DI
open PySem L2
def Gx (st : Store) : Store → Prop := fun s => ∃ g, s = st ++ g
theorem TR.map {α β γ : Type} {R : γ → β → Store → Prop} {X : Store → Prop} {f : α → γ} : ∀ {p : PT α} {t : T (β × Store)}, TR p t (fun a c st => R (f a) c st) X → TR (p.bind fun a => .ret (f a)) t R X
  | .ret a, t, h => h
  | .draw n k, t, h => by
    obtain ⟨k', rfl, h⟩ := h
    exact ⟨_, rfl, fun v => TR.map (h v)⟩
  | .exc x, t, h => h
  | .stuck, _, _ => trivial
theorem TR.stP {α β : Type} {R : α → β → Store → Prop} {X : Store → Prop} {m : Md} {v : PV} {f : PV → PT α} {t : T (β × Store)} (h : m.stB = true → TR (f v) t R X) : TR ((DI.stP (m, v)).bind f) t R X := by
  cases m <;> first | exact h rfl | exact trivial
theorem lcLoop_sim {turnP : PV → PT (Option PV)} {turn : D → M (Option D)} {pl : Pl} {ts : List PV} {F : Cells} {st1 : Store} {J : List D → List PV → Store → Prop} {X X0 : Store → Prop}
    (hpl : ∀ acc g, plEnd (st1 ++ .lst true acc :: g) pl = true ∧ ∀ (i : Nat) (t : PV), ts[i]? = some t → ∃ d, plItem (st1 ++ .lst true acc :: g) pl i = some d ∧ RP st1 F d t)
    (ht : ∀ d t acc accP g, RP st1 F d t → J acc accP g → TR (turnP t) (turn d (st1 ++ .lst true acc :: g)) (fun o o' st' => ∃ g', st' = st1 ++ .lst true acc :: g' ∧ match o, o' with
      | none, none => J acc accP g'
      | some y, some e => J (acc ++ [e]) (accP ++ [y]) g'
      | _, _ => False) X0) (hf : fits ts.length = true) : ∀ (m i : Nat) (acc : List D) (accP : List PV) (g : Store), i + m = ts.length → acc.length ≤ i → J acc accP g →
    TR (plc turnP (ts.drop i)) (lcLoop turn pl st1.length m i (st1 ++ .lst true acc :: g)) (fun ys _ st' => ∃ acc' g', st' = st1 ++ .lst true acc' :: g' ∧ J acc' (accP ++ ys) g') X
  | 0, i, acc, accP, g, hi, hl, hJ => by
    rw [List.drop_of_length_le (by omega)]
    show TR (.ret []) (mif (plEnd (st1 ++ .lst true acc :: g) pl) (mret ()) (st1 ++ .lst true acc :: g)) _ _
    rw [(hpl acc g).1]
    exact TR.ret ⟨acc, g, rfl, by rw [List.append_nil]; exact hJ⟩
  | m + 1, i, acc, accP, g, hi, hl, hJ => by
    have h1 : i < ts.length := by omega
    rw [List.drop_eq_getElem_cons h1]
    obtain ⟨d, e1, r⟩ := (hpl acc g).2 i ts[i] (List.getElem?_eq_getElem h1)
    unfold plc lcLoop
    rw [e1]
    refine TR.bind (X := X) (fun _ h => h) (fun o o' st' h => ?_) (ht d ts[i] acc accP g r hJ).nox
    obtain ⟨g', rfl, h⟩ := h
    cases o with
    | none =>
      cases o' with
      | some _ => exact h.elim
      | none => exact TR.map (lcLoop_sim hpl ht hf m (i + 1) acc accP g' (by omega) (by omega) h)
    | some y =>
      cases o' with
      | none => exact h.elim
      | some e =>
        dsimp only
        rw [mid_get]
        dsimp only
        have hfit : fits (acc.length + 1) = true := Nat.ble_eq.mpr (Nat.le_trans (by omega) (Nat.le_of_ble_eq_true hf))
        rw [hfit]
        dsimp only
        rw [mid_set]
        refine TR.map (TR.mono (X := X) (fun ys u st' q => ?_) (fun _ h => h) (lcLoop_sim hpl ht hf m (i + 1) (acc ++ [e]) (accP ++ [y]) g' (by omega) (by rw [List.length_append]; show acc.length + 1 ≤ i + 1; omega) h))
        obtain ⟨acc', g2, h1, h2⟩ := q
        exact ⟨acc', g2, h1, by rw [List.append_assoc] at h2; exact h2⟩
/-- a value that a call hands back -/
def RV (S : Cells) (b : Nat) (st : Store) (x : MV) (d : D) : Prop := ∃ os, VR st (Fr S b os) d x os ∧ os.Nodup ∧ ∀ n ∈ os, b ≤ n
structure CS (C' : Cfg) (C : PCfg) : Prop where
  kord : C.kord = C'.kord
  call : ∀ (f : Str) (ds : List D) (vs : List PV) (S : Cells) (st : Store), (∀ n, S n → n < st.length) → RPs st S ds vs → TR (C.call f vs) (C'.call f ds st) (fun x d st' => (∃ g, st' = st ++ g) ∧ RV S st.length st' x d) (Gx st)
def SimE (C' : Cfg) (C : PCfg) (e : IE) : Prop := ∀ (st : Store) (S : Cells) (O : List Nat) (denv : Evr) (env : PEnv), ER st S denv env O → TR (pev C e env) (ev C' e denv st) (RX S O st.length st) (Gx st)
def SimEs (C' : Cfg) (C : PCfg) (e : IEs) : Prop := ∀ (st : Store) (S : Cells) (O : List Nat) (denv : Evr) (env : PEnv), ER st S denv env O → TR (pevs C e env) (evs C' e denv st) (RXs S O st.length st) (Gx st)
def SimO (C' : Cfg) (C : PCfg) (o : IO) : Prop := ∀ (st : Store) (S : Cells) (O : List Nat) (denv : Evr) (env : PEnv), ER st S denv env O → TR (pevO C o env) (evO C' o denv st) (fun a c st' => a = c ∧ ∃ g, st' = st ++ g) (Gx st) ∧
  TR (pevC C o env) (evC C' o denv st) (fun a c st' => a = c ∧ ∃ g, st' = st ++ g) (Gx st)
/-- b: only frozen lists are walked -/
def SimI (C' : Cfg) (C : PCfg) (it : IIt) : Prop := ∀ (bb : Bool) (st : Store) (S : Cells) (O : List Nat) (denv : Evr) (env : PEnv), ER st S denv env O →
  TR (pevIt C bb it env) (evIt C' it denv st) (fun ts pl st' => (∃ g, st' = st ++ g) ∧ PlR st' (Fr S st.length []) (fun n => Fr S st.length [] n ∨ (bb = true ∧ n ∈ O)) pl ts) (Gx st)
section
variable {C' : Cfg} {C : PCfg} {S S' F A : Cells} {O O' : List Nat} {b : Nat} {st st1 st2 st' : Store} {x y : MV} {d e : D} {xs : List MV} {ds : List D} {os : List Nat} {denv : Evr} {env : PEnv}
theorem RES.own (h : ∀ n ∈ O, n ∈ O') (r : RES S O b st x d) : RES S O' b st x d := by
  cases r with
  | val r h1 h2 => exact .val r h1 h2
  | bor r h1 h2 h3 => exact .bor r (fun n hn => h n (h1 n hn)) h2 h3
theorem RX.own (h : ∀ n ∈ O, n ∈ O') (r : RX S O b st x d st') : RX S O' b st x d st' := ⟨r.1, r.2.own h⟩
theorem RX.trans (h : ∃ g, st1 = st ++ g) (r : RX S O b st1 x d st2) : RX S O b st x d st2 := by
  obtain ⟨g, rfl⟩ := h
  obtain ⟨⟨g2, rfl⟩, r⟩ := r
  exact ⟨⟨g ++ g2, List.append_assoc ..⟩, r⟩
theorem gr_len (h : ∃ g, st1 = st ++ g) : st.length ≤ st1.length := by
  obtain ⟨g, rfl⟩ := h
  rw [List.length_append]
  omega
theorem gr_trans (h : ∃ g, st1 = st ++ g) (h2 : ∃ g, st2 = st1 ++ g) : ∃ g, st2 = st ++ g := by
  obtain ⟨g, rfl⟩ := h
  obtain ⟨g2, rfl⟩ := h2
  exact ⟨g ++ g2, List.append_assoc ..⟩
theorem ER.gr (E : ER st S denv env O) (h : ∃ g, st1 = st ++ g) : ER st1 S denv env O := by
  obtain ⟨g, rfl⟩ := h
  exact E.app g
theorem RES.gr (r : RES S O b st x d) (h : ∃ g, st1 = st ++ g) : RES S O b st1 x d := by
  obtain ⟨g, rfl⟩ := h
  exact r.app g
theorem ltS (E : ER st S denv env O) (h : ∃ g, st1 = st ++ g) : ∀ n, S n → n < st1.length := fun n s => Nat.lt_of_lt_of_le (E.lt n s) (gr_len h)
theorem gx0 : ∀ s, Gx st s → Gx st s := fun _ h => h
theorem gxg (g : ∃ g, st1 = st ++ g) : ∀ s, Gx st1 s → Gx st s := fun _ h => gr_trans g h
/-- one expression, then something -/
theorem one {α β : Type} {R : α → β → Store → Prop} {a : IE} {f : MV → PT α} {g : D → M β} (h : SimE C' C a) (E : ER st S denv env O)
    (k : ∀ x d st1, (∃ g, st1 = st ++ g) → RES S O st.length st1 x d → TR (f x) (g d st1) R (Gx st)) : TR ((pev C a env).bind f) (mbind (ev C' a denv) g st) R (Gx st) :=
  TR.bind gx0 (fun x d st1 q => k x d st1 q.1 q.2) (h st S O denv env E)
theorem two {α β : Type} {R : α → β → Store → Prop} {a c : IE} {f : MV → MV → PT α} {g : D → D → M β} (h : SimE C' C a) (h2 : SimE C' C c) (E : ER st S denv env O)
    (k : ∀ x y d e st1, (∃ g, st1 = st ++ g) → RES S O st.length st1 x d → RES S O st.length st1 y e → TR (f x y) (g d e st1) R (Gx st)) :
    TR ((pev C a env).bind fun x => (pev C c env).bind fun y => f x y) (mbind (ev C' a denv) (fun x => mbind (ev C' c denv) fun y => g x y) st) R (Gx st) :=
  one h E fun x d st1 g1 r1 => TR.bind (gxg g1) (fun y e st2 q => k x y d e st2 (gr_trans g1 q.1) (r1.gr q.1) (q.2.low (gr_len g1))) (h2 st1 S O denv env (E.gr g1))
theorem many {α β : Type} {R : α → β → Store → Prop} {a : IEs} {f : List MV → PT α} {g : List D → M β} (h : SimEs C' C a) (E : ER st S denv env O)
    (k : ∀ xs ds st1, RXs S O st.length st xs ds st1 → TR (f xs) (g ds st1) R (Gx st)) : TR ((pevs C a env).bind f) (mbind (evs C' a denv) g st) R (Gx st) :=
  TR.bind gx0 (fun x d st1 q => k x d st1 q) (h st S O denv env E)
theorem fzB {k : Bool} (h : ∃ g, st1 = st ++ g) : RX S O b st (.fz, .bl k) (.bl k) st1 := ⟨h, .fz (.bl _)⟩
theorem sim_var (i : Nat) : SimE C' C (.var i) := fun st S O denv env E => by
  unfold pev ev
  cases h : varP env i with
  | none => trivial
  | some x =>
    obtain ⟨d, e1, r⟩ := E.var h
    unfold mopt
    rw [e1]
    exact TR.ret (.here r)
theorem sim_tup {es : IEs} (h : SimEs C' C es) : SimE C' C (.tup es) := fun st S O denv env E => by
  unfold pev ev
  refine many h E fun xs ds st1 q => ?_
  split
  · rename_i vs hs
    have hl : ds.length = vs.length := (stored_of q.each hs).length
    rw [hl]
    exact TR.pif id (TR.ret (tup_disp (Nat.le_refl _) q hs))
  · trivial
theorem sim_lst {es : IEs} (h : SimEs C' C es) : SimE C' C (.lst es) := fun st S O denv env E => by
  unfold pev ev
  refine many h E fun xs ds st1 q => ?_
  split
  · rename_i vs hs
    have hl : ds.length = vs.length := (stored_of q.each hs).length
    rw [hl]
    exact TR.pif id (TR.ret (lst_disp (Nat.le_refl _) E.lt q hs))
  · trivial
theorem sim_bin {op : Operator} {a c : IE} (h : SimE C' C a) (h2 : SimE C' C c) : SimE C' C (.bin op a c) := fun st S O denv env E => by
  unfold pev ev
  exact two h h2 E fun x y d e st1 g r1 r2 => TR.mono (fun _ _ _ q => q.trans g) (fun _ h => h) (op_binP op (gr_len g) (ltS E g) r1 r2)
theorem sim_neg {a : IE} (h : SimE C' C a) : SimE C' C (.neg a) := fun st S O denv env E => by
  unfold pev ev
  refine one h E fun x d st1 g r => ?_
  obtain ⟨m, t⟩ := x
  cases t <;> first | exact trivial | skip
  obtain rfl := r.int
  exact TR.ret ⟨g, .fz (.int _)⟩
theorem sim_cmp {op : CmpOp} {a c : IE} (h : SimE C' C a) (h2 : SimE C' C c) : SimE C' C (.cmp op a c) := fun st S O denv env E => by
  unfold pev ev
  exact two h h2 E fun x y d e st1 g r1 r2 => TR.bind0 (fun k k' st2 q => by
    obtain ⟨rfl, rfl⟩ := q
    exact TR.ret (fzB g)) (op_cmpP op (x := x) (y := y) r1.any r2.any)
theorem sim_chain {o1 o2 : CmpOp} {a c z : IE} (h : SimE C' C a) (h2 : SimE C' C c) (h3 : SimE C' C z) : SimE C' C (.chain o1 o2 a c z) := fun st S O denv env E => by
  unfold pev ev
  refine two h h2 E fun x y d e st1 g r1 r2 => TR.bind0 (fun k k' st2 q => ?_) (op_cmpP o1 (x := x) (y := y) r1.any r2.any)
  obtain ⟨rfl, rfl⟩ := q
  cases k with
  | false => exact TR.ret (fzB g)
  | true =>
    refine TR.bind (gxg g) (fun z u st3 q => ?_) (h3 st2 S O denv env (E.gr g))
    exact TR.bind0 (fun k k' st4 w => by
      obtain ⟨rfl, rfl⟩ := w
      exact TR.ret (fzB (gr_trans g q.1))) (op_cmpP o2 (x := y) (y := z) (r2.gr q.1).any q.2.any)
theorem RX.of {st0 : Store} (g : ∃ g, st1 = st ++ g) (q : RX S O st1.length st1 x d st2) : RX S O st.length st x d st2 := ⟨gr_trans g q.1, q.2.low (gr_len g)⟩
theorem sim_and {a c : IE} (h : SimE C' C a) (h2 : SimE C' C c) : SimE C' C (.and a c) := fun st S O denv env E => by
  unfold pev ev
  refine one h E fun x d st1 g r => TR.bind0 (fun k k' st2 q => ?_) (op_asBP r.any)
  obtain ⟨rfl, rfl⟩ := q
  cases k with
  | false => exact TR.ret (fzB g)
  | true => exact TR.mono (fun _ _ _ q => q.of (st0 := st2) g) (gxg g) (h2 st2 S O denv env (E.gr g))
theorem sim_or {a c : IE} (h : SimE C' C a) (h2 : SimE C' C c) : SimE C' C (.or a c) := fun st S O denv env E => by
  unfold pev ev
  refine one h E fun x d st1 g r => TR.bind0 (fun k k' st2 q => ?_) (op_asBP r.any)
  obtain ⟨rfl, rfl⟩ := q
  cases k with
  | true => exact TR.ret (fzB g)
  | false => exact TR.mono (fun _ _ _ q => q.of (st0 := st2) g) (gxg g) (h2 st2 S O denv env (E.gr g))
theorem sim_not {a : IE} (h : SimE C' C a) : SimE C' C (.not a) := fun st S O denv env E => by
  unfold pev ev
  refine one h E fun x d st1 g r => TR.bind0 (fun k k' st2 q => ?_) (op_truthP r.any)
  obtain ⟨rfl, rfl⟩ := q
  exact TR.ret (fzB g)
theorem sim_ite {a c z : IE} (h : SimE C' C a) (h2 : SimE C' C c) (h3 : SimE C' C z) : SimE C' C (.ite a c z) := fun st S O denv env E => by
  unfold pev ev
  refine one h E fun x d st1 g r => TR.bind0 (fun k k' st2 q => ?_) (op_truthP r.any)
  obtain ⟨rfl, rfl⟩ := q
  cases k with
  | true => exact TR.mono (fun _ _ _ q => q.of (st0 := st2) g) (gxg g) (h2 st2 S O denv env (E.gr g))
  | false => exact TR.mono (fun _ _ _ q => q.of (st0 := st2) g) (gxg g) (h3 st2 S O denv env (E.gr g))
theorem sim_ix {a c : IE} (h : SimE C' C a) (h2 : SimE C' C c) : SimE C' C (.ix a c) := fun st S O denv env E => by
  unfold pev ev
  exact two h h2 E fun x y d e st1 g r1 r2 => TR.mono (fun _ _ _ q => q.trans g) (fun _ h => h) (op_ixP r1 r2.any)
theorem sim_slice {a : IE} {lo hi : IO} (h : SimE C' C a) (h2 : SimO C' C lo) (h3 : SimO C' C hi) : SimE C' C (.slice a lo hi) := fun st S O denv env E => by
  unfold pev ev
  refine one h E fun x d st1 g r => TR.bind (gxg g) (fun l l' st2 q => ?_) (h2 st1 S O denv env (E.gr g)).1
  obtain ⟨rfl, g2⟩ := q
  have g12 := gr_trans g g2
  refine TR.bind (gxg g12) (fun k k' st3 q => ?_) (h3 st2 S O denv env (E.gr g12)).1
  obtain ⟨rfl, g3⟩ := q
  have g13 := gr_trans g12 g3
  exact TR.mono (fun _ _ _ q => q.trans g13) (fun _ h => h) (op_sliceP (gr_len g13) (ltS E g13) (r.gr (gr_trans g2 g3)))
theorem sim_rev {a : IE} (h : SimE C' C a) : SimE C' C (.rev a) := fun st S O denv env E => by
  unfold pev ev
  exact one h E fun x d st1 g r => TR.mono (fun _ _ _ q => q.trans g) (fun _ h => h) (op_revP (gr_len g) (ltS E g) r)
theorem sim_blt {f : Blt} {es : IEs} (h : SimEs C' C es) : SimE C' C (.blt f es) := fun st S O denv env E => by
  unfold pev ev
  exact many h E fun xs ds st1 q => TR.mono (fun _ _ _ w => w.trans q.1) (fun _ h => h) (op_bltP f (gr_len q.1) (ltS E q.1) q.each)
theorem sim_lr {a : IE} (h : SimE C' C a) : SimE C' C (.lr a) := fun st S O denv env E => by
  unfold pev ev
  exact one h E fun x d st1 g r => TR.mono (fun _ _ _ q => q.trans g) (fun _ h => h) (op_rgP (gr_len g) (ltS E g) r.any)
theorem sim_tr {a : IE} (h : SimE C' C a) : SimE C' C (.tr a) := fun st S O denv env E => by
  unfold pev ev
  exact one h E fun x d st1 g r => TR.mono (fun _ _ _ q => q.trans g) (fun _ h => h) (op_rgP (gr_len g) (ltS E g) r.any)
theorem sim_isi {a : IE} {tys : List String} (h : SimE C' C a) : SimE C' C (.isi a tys) := fun st S O denv env E => by
  unfold pev ev
  exact one h E fun x d st1 g r => TR.mono (fun _ _ _ q => q.trans g) (fun _ h => h) (op_isiP r.any)
theorem call_of (H : CS C' C) {f : Str} {vs : List PV} (E : ER st S denv env O) (g : ∃ g, st1 = st ++ g) (r : RPs st1 (Fr S st.length []) ds vs) : TR (C.call f vs) (C'.call f ds st1) (RX S O st.length st) (Gx st) := by
  have hl := gr_len g
  refine TR.mono (fun x d st2 q => ⟨gr_trans g q.1, ?_⟩) (gxg g) (H.call f ds vs (fun n => Fr S st.length [] n ∧ n < st1.length) st1 (fun n s => s.2) (r.sub fun n s l => ⟨s, l⟩))
  obtain ⟨_, os, r, n1, b1⟩ := q
  obtain ⟨m, t⟩ := x
  exact .val (r.sub fun n s l => (by
      rcases s with ⟨s | s, s2⟩ | ⟨s1, s2⟩
      · exact .inl s
      · exact .inr ⟨s.1, fun z => by have := b1 n z; omega⟩
      · exact .inr ⟨by omega, s2⟩)) n1 fun n hn => by have := b1 n hn; omega
theorem sim_call (H : CS C' C) {f : Str} {es : IEs} (h : SimEs C' C es) : SimE C' C (.call f es) := fun st S O denv env E => by
  unfold pev ev
  refine many h E fun xs ds st1 q => ?_
  split
  · rename_i vs hs
    exact call_of H E q.1 (stored_of q.each hs)
  · trivial
theorem pick_of : ∀ {o : List Nat} {ds : List D} {vs zs : List PV}, RPs st F ds vs → pickP vs o = some zs → ∃ es, pickD ds o = some es ∧ RPs st F es zs
  | [], ds, vs, zs, r, h => by
    cases h
    exact ⟨[], rfl, .nil⟩
  | i :: o, ds, vs, zs, r, h => by
    unfold pickP at h
    split at h
    · rename_i x ys h1 h2
      cases h
      obtain ⟨d, e1, r1⟩ := r.get h1
      obtain ⟨es, e2, r2⟩ := pick_of r h2
      exact ⟨d :: es, by unfold pickD; rw [e1, e2], .cons r1 r2⟩
    · cases h
theorem sim_callK (H : CS C' C) {f : Str} {es ws : IEs} {ks : List Str} (h : SimEs C' C es) (h2 : SimEs C' C ws) : SimE C' C (.callK f es ks ws) := fun st S O denv env E => by
  unfold pev ev
  refine many h E fun xs ds st1 q => TR.bind (gxg q.1) (fun ys es2 st2 q2 => ?_) (h2 st1 S O denv env (E.gr q.1))
  have g2 := gr_trans q.1 q2.1
  split
  · rename_i us vs hu hv
    have r1 := stored_of q.each hu
    have r2 := stored_of q2.each hv
    have r : RPs st2 (Fr S st.length []) (ds ++ es2) (us ++ vs) := by
      obtain ⟨g', rfl⟩ := q2.1
      exact (r1.app g').append (r2.sub fun n s _ => s.imp id fun w => ⟨Nat.le_trans (gr_len q.1) w.1, w.2⟩)
    rw [H.kord, r1.length]
    split
    · rename_i o ho
      split
      · rename_i zs hz
        obtain ⟨es3, e3, r3⟩ := pick_of r hz
        dsimp only
        try rw [ho]
        try dsimp only
        rw [e3]
        exact call_of H E g2 r3
      · trivial
    · trivial
  · trivial
theorem sim_meth {m : Mth} {a : IE} {es : IEs} (h : SimE C' C a) (h2 : SimEs C' C es) : SimE C' C (.meth m a es) := fun st S O denv env E => by
  unfold pev ev
  refine one h E fun x d st1 g r => TR.pifP fun hc => ?_
  obtain ⟨m', t⟩ := x
  have hr : recvOk m d = true := by
    have rr := r.any
    cases m <;> first | (cases hc; done) | skip
    all_goals (cases rr <;> first | rfl | cases hc)
  show TR _ (mif (recvOk m d) (mbind (evs C' es denv) fun xs => methD m d xs) st1) _ _
  rw [hr]
  show TR _ (mbind (evs C' es denv) (fun xs => methD m d xs) st1) _ _
  refine TR.bind (gxg g) (fun ys es2 st2 q2 => ?_) (h2 st1 S O denv env (E.gr g))
  have g2 := gr_trans g q2.1
  split
  · rename_i vs hv
    exact TR.mono (fun _ _ _ q => q.trans g2) (fun _ h => h) (op_methP m (r.gr q2.1).any ((stored_of q2.each hv).sub fun n s _ => s.imp id fun w => ⟨Nat.le_trans (gr_len g) w.1, w.2⟩))
  · trivial
/-! ### comprehensions -/
theorem sim_it_seq {a : IE} (h : SimE C' C a) : SimI C' C (.seq a) := fun bb st S O denv env E => by
  unfold pevIt evIt
  refine one h E fun x d st1 g r => ?_
  rcases seq_of (bb := bb) (A := fun n => Fr S st.length [] n ∨ (bb = true ∧ n ∈ O)) (fun n s => .inl s) (fun hb n hn => .inr ⟨hb, hn⟩) r with q | ⟨ts, q, ⟨ds, rfl, r, _⟩ | ⟨n, ds, rfl, e, hA, r, _⟩⟩
  · rw [q]
    trivial
  · rw [q]
    exact TR.ret ⟨g, .tup r⟩
  · rw [q]
    dsimp only
    rw [e]
    exact TR.ret ⟨g, .lst e hA r⟩
theorem sim_it_enum {a : IE} (h : SimE C' C a) : SimI C' C (.enum a) := fun bb st S O denv env E => by
  unfold pevIt evIt
  refine one h E fun x d st1 g r => ?_
  rcases seq_of (bb := bb) (A := fun n => Fr S st.length [] n ∨ (bb = true ∧ n ∈ O)) (fun n s => .inl s) (fun hb n hn => .inr ⟨hb, hn⟩) r with q | ⟨ts, q, ⟨ds, rfl, r, _⟩ | ⟨n, ds, rfl, e, hA, r, _⟩⟩
  · rw [q]
    trivial
  · rw [q]
    exact TR.ret ⟨g, .enumT r⟩
  · rw [q]
    dsimp only
    rw [e]
    exact TR.ret ⟨g, .enumL e hA r⟩
theorem PlR.zipT {ts us : List PV} {es : List D} (r : RPs st F ds ts) (q : RPs st F es us) : PlR st F A (.zipT ds es) (zipP ts us) :=
  ⟨by rw [zipP_length]; show min ds.length es.length = _; rw [r.length, q.length], fun st' _ => ⟨rfl, fun i t h => zip_item r q h⟩⟩
theorem PlR.zipL {n m : Nat} {ts us : List PV} {es : List D} (e : st[n]? = some (.lst true ds)) (e' : st[m]? = some (.lst true es)) (hA : A n) (hB : A m) (r : RPs st F ds ts) (q : RPs st F es us) : PlR st F A (.zipL n m ds.length es.length) (zipP ts us) := by
  refine ⟨by rw [zipP_length]; show min ds.length es.length = _; rw [r.length, q.length], fun st' h => ?_⟩
  have q1 := lstAt_is ((h n hA (lt_of e)).trans e)
  have q2 := lstAt_is ((h m hB (lt_of e')).trans e')
  refine ⟨by show ((lstAt st' n ds.length).isSome && (lstAt st' m es.length).isSome) = true; rw [q1, q2]; rfl, fun i t ht => ?_⟩
  obtain ⟨d, h1, h2⟩ := zip_item r q ht
  exact ⟨d, by show ((lstAt st' n ds.length).bind fun xs => (lstAt st' m es.length).bind _) = _; rw [q1, q2]; exact h1, h2⟩
theorem sim_it_zip {a c : IE} (h : SimE C' C a) (h2 : SimE C' C c) : SimI C' C (.zip a c) := fun bb st S O denv env E => by
  unfold pevIt evIt
  refine two h h2 E fun x y d e st1 g r1 r2 => ?_
  have q1 := seq_of (bb := bb) (A := fun n => Fr S st.length [] n ∨ (bb = true ∧ n ∈ O)) (fun n s => .inl s) (fun hb n hn => .inr ⟨hb, hn⟩) r1
  have q2 := seq_of (bb := bb) (A := fun n => Fr S st.length [] n ∨ (bb = true ∧ n ∈ O)) (fun n s => .inl s) (fun hb n hn => .inr ⟨hb, hn⟩) r2
  obtain ⟨m, t⟩ := x
  obtain ⟨m', t'⟩ := y
  cases t <;> first | exact trivial | skip
  · cases t' <;> first | exact trivial | skip
    rcases q1 with q | ⟨ts, q, ⟨ds, rfl, r, _⟩ | ⟨n, ds, rfl, e, hA, r, z⟩⟩
    · dsimp only
      rw [q]
      trivial
    · dsimp only
      rw [q]
      rcases q2 with q | ⟨us, q, ⟨es, rfl, r', _⟩ | ⟨n, es, rfl, e, hA, r', z⟩⟩
      · dsimp only [PT.bind]
        rw [q]
        trivial
      · dsimp only [PT.bind]
        rw [q]
        exact TR.ret ⟨g, .zipT r r'⟩
      · cases z
    · cases z
  · cases t' <;> first | exact trivial | skip
    rcases q1 with q | ⟨ts, q, ⟨ds, rfl, r, z⟩ | ⟨n, ds, rfl, e, hA, r, z⟩⟩
    · dsimp only
      rw [q]
      trivial
    · cases z
    · dsimp only
      rw [q]
      rcases q2 with q | ⟨us, q, ⟨es, rfl, r', z⟩ | ⟨n', es, rfl, e', hA', r', z⟩⟩
      · dsimp only [PT.bind]
        rw [q]
        trivial
      · cases z
      · dsimp only [PT.bind]
        rw [q, e, e']
        exact TR.ret ⟨g, .zipL e e' hA hA' r r'⟩
theorem sim_it_r1 {a : IE} (h : SimE C' C a) : SimI C' C (.range1 a) := fun bb st S O denv env E => by
  unfold pevIt evIt
  refine one h E fun x d st1 g r => ?_
  obtain ⟨m, t⟩ := x
  cases t <;> first | exact trivial | skip
  rename_i j
  obtain rfl := r.int
  refine TR.pif (fun h => (rg1B_def _).symm.trans h) (TR.ret ⟨g, ?_⟩)
  have := PlR.rng (st := st1) (F := Fr S st.length []) (A := fun n => Fr S st.length [] n ∨ (bb = true ∧ n ∈ O)) (lo := 0) (n := j.toNat)
  simp only [Int.zero_add] at this
  exact this
theorem sim_it_r2 {a c : IE} (h : SimE C' C a) (h2 : SimE C' C c) : SimI C' C (.range2 a c) := fun bb st S O denv env E => by
  unfold pevIt evIt
  refine two h h2 E fun x y d e st1 g r1 r2 => ?_
  obtain ⟨m, t⟩ := x
  obtain ⟨m', t'⟩ := y
  cases t <;> first | exact trivial | skip
  cases t' <;> first | exact trivial | skip
  obtain rfl := r1.int
  obtain rfl := r2.int
  exact TR.pif (fun h => (rg2B_def _ _).symm.trans h) (TR.ret ⟨g, .rng⟩)
theorem sim_o_none : SimO C' C .none := fun st S O denv env E => ⟨TR.ret ⟨rfl, [], (List.append_nil _).symm⟩, TR.ret ⟨rfl, [], (List.append_nil _).symm⟩⟩
theorem sim_o_some {a : IE} (h : SimE C' C a) : SimO C' C (.some a) := fun st S O denv env E => by
  constructor
  · unfold pevO evO
    refine one h E fun x d st1 g r => ?_
    obtain ⟨m, t⟩ := x
    cases t <;> first | exact trivial | skip
    obtain rfl := r.int
    exact TR.ret ⟨rfl, g⟩
  · unfold pevC evC
    refine one h E fun x d st1 g r => TR.mono (fun a c st' q => ?_) (fun _ h => h) (op_truthP r.any)
    obtain ⟨rfl, rfl⟩ := q
    exact ⟨rfl, g⟩
theorem sim_es_nil : SimEs C' C .nil := fun st S O denv env E => TR.ret ⟨⟨[], (List.append_nil _).symm⟩, [], .nil, .nil, fun n hn => by cases hn⟩
theorem sim_es_cons {a : IE} {es : IEs} (h : SimE C' C a) (h2 : SimEs C' C es) : SimEs C' C (.cons a es) := fun st S O denv env E => by
  unfold pevs evs
  refine TR.bind gx0 (fun x d st1 q => ?_) (h st S O denv env E)
  refine TR.bind (R' := RXs S O st.length st) (gxg q.1) (fun xs ds st2 q2 => ?_) (h2 st1 S O denv env (E.gr q.1))
  exact TR.ret (RXs.cons (Nat.le_refl _) q q2)
/-- a comprehension -/
theorem sim_lc {own : List (Str × Nat)} {tg : ITg} {it : IIt} {cn : IO} {a : IE} (hi : SimI C' C it) (hc : SimO C' C cn) (h : SimE C' C a) : SimE C' C (.lc own tg it cn a) := fun st S O denv env E => by
  unfold pev ev
  refine TR.bind gx0 (fun ts pl st1 q => TR.pifP fun hf => ?_) (hi true st S O denv env E)
  obtain ⟨g, hl, hp⟩ := q
  have hlen := gr_len g
  have base : ∀ acc g', (∀ n, n < st1.length → (st1 ++ SO.lst true acc :: g')[n]? = st1[n]?) := fun acc g' n hn => app_lt hn
  have hpl : ∀ acc g', plEnd (st1 ++ .lst true acc :: g') pl = true ∧ ∀ (i : Nat) (t : PV), ts[i]? = some t → ∃ d, plItem (st1 ++ .lst true acc :: g') pl i = some d ∧ RP st1 (Fr S st.length []) d t := fun acc g' => hp _ fun n _ hn => base acc g' n hn
  -- a turn's names
  have turnE : ∀ (d : D) (t : PV) (acc : List D) (g' : Store) (env' : PEnv), RP st1 (Fr S st.length []) d t → bindP tg t (wipeP env (own.map (·.2))) = some env' →
      ∃ denv' O', bindTg tg d (wipeE denv (own.map (·.2))) = some denv' ∧ ER (st1 ++ .lst true acc :: g') (fun n => Fr S st.length [] n ∧ n < st1.length) denv' env' O' := by
    intro d t acc g' env' r hb
    have E1 : ER (st1 ++ .lst true acc :: g') (fun n => Fr S st.length [] n ∧ n < st1.length) denv env O := by
      refine ⟨E.sl.mono (fun n s l => ⟨⟨.inl s, by omega⟩, ?_⟩) fun n hn => ?_, E.nd, fun n hn z => ?_, fun n s => by rw [List.length_append]; have := s.2; omega⟩
      · obtain ⟨g0, rfl⟩ := g
        rw [List.append_assoc]
        exact app_lt l
      · obtain ⟨g0, rfl⟩ := g
        rw [List.append_assoc]
        exact app_lt (E.sl.ltO n hn)
      · rcases z.1 with z | z
        · exact E.dis n hn z
        · have := E.sl.ltO n hn
          omega
    obtain ⟨O1, E2, _⟩ := E1.wipe (own.map (·.2))
    obtain ⟨denv', O2, e2, E3, _⟩ := E2.bind (r.mono fun n s l => ⟨⟨s, l⟩, base acc g' n l⟩) hb
    exact ⟨denv', O2, e2, E3⟩
  cases hn : newE a with
  | false =>
    have key := lcLoop_sim (X := Gx st) (turnP := fun x => match bindP tg x (wipeP env (own.map (·.2))) with
        | none => .stuck
        | some env' => (pevC C cn env').bind fun k => match k with
          | false => .ret none
          | true => (pev C a env').bind fun y => (stP y).bind fun v => .ret (some v))
      (turn := fun x => match bindTg tg x (wipeE denv (own.map (·.2))) with
        | none => mstuck
        | some env' => mbind (evC C' cn env') fun k => match k with
          | false => mret none
          | true => mbind (ev C' a env') fun y => mret (some y))
      (F := Fr S st.length []) (J := fun acc accP g' => ∀ X, RPs (st1 ++ X :: g') (Fr S st.length [st1.length]) acc accP) hpl (fun d t acc accP g' r hJ => by
        cases hb : bindP tg t (wipeP env (own.map (·.2))) with
        | none => trivial
        | some env' =>
          obtain ⟨denv', O', e2, E'⟩ := turnE d t acc g' env' r hb
          rw [e2]
          refine TR.bind (X' := fun _ => True) (fun _ _ => trivial) (fun k k' st2 q => ?_) (hc _ _ _ _ _ E').2
          obtain ⟨rfl, g2⟩ := q
          cases k with
          | false =>
            obtain ⟨g2, rfl⟩ := g2
            exact TR.ret ⟨g' ++ g2, by rw [List.append_assoc, List.cons_append], fun X => by rw [← List.cons_append, ← List.append_assoc]; exact (hJ X).app g2⟩
          | true =>
            refine TR.bind (fun _ _ => trivial) (fun y e st3 q => ?_) (h _ _ _ _ _ (E'.gr g2))
            obtain ⟨m, v⟩ := y
            refine TR.stP fun hs => ?_
            have hr := q.2.sto hs
            obtain ⟨g3, g4⟩ := gr_trans g2 q.1
            subst g4
            have l2 := gr_len g2
            rw [List.length_append] at l2
            refine TR.ret ⟨g' ++ g3, by rw [List.append_assoc, List.cons_append], fun X => ?_⟩
            refine RPs.append (by rw [← List.cons_append, ← List.append_assoc]; exact (hJ X).app g3) (.cons (hr.mono fun n s l => ?_) .nil)
            have hn1 : n ≠ st1.length := by
              rcases s with ⟨_, s⟩ | ⟨s, _⟩
              · omega
              · have s : st2.length ≤ n := s
                have : (SO.lst true acc :: g').length = g'.length + 1 := rfl
                omega
            refine ⟨?_, ?_⟩
            · rcases s with ⟨s | s, s2⟩ | ⟨s, _⟩
              · exact .inl s
              · exact .inr ⟨s.1, fun z => hn1 (List.mem_singleton.mp z)⟩
              · have s : st2.length ≤ n := s
                exact .inr ⟨by omega, fun z => hn1 (List.mem_singleton.mp z)⟩
            · rw [List.append_assoc, List.cons_append]
              by_cases hlt : n < st1.length
              · rw [app_lt hlt, app_lt hlt]
              · rw [List.getElem?_append_right (by omega), List.getElem?_append_right (by omega)]
                obtain ⟨j, hj⟩ : ∃ j, n - st1.length = j + 1 := ⟨n - st1.length - 1, by omega⟩
                rw [hj]
                rfl) hf ts.length 0 [] [] [] (Nat.zero_add _) (Nat.le_refl _) (fun X => .nil)
    rw [List.drop_zero] at key
    dsimp only
    rw [hl]
    refine TR.bind (X := Gx st) gx0 (fun ys u st2 q => ?_) key
    obtain ⟨acc', g', rfl, hJ⟩ := q
    rw [List.nil_append] at hJ
    refine TR.ret ⟨?_, .val (.o1 (mid_get _ _ _) (hJ _)) (List.nodup_cons.mpr ⟨List.not_mem_nil, .nil⟩) fun n hn => by rw [List.mem_singleton.mp hn]; exact hlen⟩
    obtain ⟨g0, rfl⟩ := g
    exact ⟨_, List.append_assoc ..⟩
  | true =>
    have ha : a = .lst .nil := by
      unfold newE at hn
      split at hn
      · rfl
      · cases hn
    subst ha
    have grow : ∀ {X : SO} {g1 g2 : Store} {acc : List D} {accP : List PV} {os : List Nat}, CRs (st1 ++ X :: g1) (Fr S st.length (st1.length :: os)) acc accP os → CRs (st1 ++ X :: (g1 ++ g2)) (Fr S st.length (st1.length :: os)) acc accP os := by
      intro X g1 g2 acc accP os r
      have e : st1 ++ X :: (g1 ++ g2) = (st1 ++ X :: g1) ++ g2 := by rw [List.append_assoc, List.cons_append]
      rw [e]
      exact r.mono (fun n s l => ⟨s, app_lt l⟩) fun n hn => app_lt (r.lt n hn)
    have key := lcLoop_sim (X := Gx st) (turnP := fun x => match bindP tg x (wipeP env (own.map (·.2))) with
        | none => .stuck
        | some env' => (pevC C cn env').bind fun k => match k with
          | false => .ret none
          | true => (pev C (.lst .nil) env').bind fun y => (stP y).bind fun v => .ret (some v))
      (turn := fun x => match bindTg tg x (wipeE denv (own.map (·.2))) with
        | none => mstuck
        | some env' => mbind (evC C' cn env') fun k => match k with
          | false => mret none
          | true => mbind (ev C' (.lst .nil) env') fun y => mret (some y))
      (F := Fr S st.length []) (J := fun acc accP g' => ∃ os, (∀ X, CRs (st1 ++ X :: g') (Fr S st.length (st1.length :: os)) acc accP os) ∧ (st1.length :: os).Nodup ∧ ∀ n ∈ os, st1.length < n) hpl (fun d t acc accP g' r hJ => by
        cases hb : bindP tg t (wipeP env (own.map (·.2))) with
        | none => trivial
        | some env' =>
          obtain ⟨denv', O', e2, E'⟩ := turnE d t acc g' env' r hb
          rw [e2]
          refine TR.bind (X' := fun _ => True) (fun _ _ => trivial) (fun k k' st2 q => ?_) (hc _ _ _ _ _ E').2
          obtain ⟨rfl, g2, rfl⟩ := q
          obtain ⟨os, h1, h2, h3⟩ := hJ
          cases k with
          | false => exact TR.ret ⟨g' ++ g2, by rw [List.append_assoc, List.cons_append], os, fun X => grow (h1 X), h2, h3⟩
          | true =>
            refine TR.ret ⟨g' ++ g2 ++ [.lst true []], by show st1 ++ SO.lst true acc :: g' ++ g2 ++ [SO.lst true []] = _; simp, os ++ [(st1 ++ SO.lst true acc :: g' ++ g2).length], fun X => ?_, ?_, ?_⟩
            · have hl : ∀ n ∈ os, n < (st1 ++ SO.lst true acc :: g' ++ g2).length := fun n hn => by
                have := (h1 (.lst true acc)).lt n hn
                rw [List.length_append]
                omega
              have c1 : CRs (st1 ++ X :: (g' ++ g2 ++ [.lst true []])) (Fr S st.length (st1.length :: (os ++ [(st1 ++ SO.lst true acc :: g' ++ g2).length]))) acc accP os := by
                have q := h1 X
                rw [List.append_assoc]
                have e : st1 ++ X :: (g' ++ (g2 ++ [SO.lst true []])) = (st1 ++ X :: g') ++ (g2 ++ [SO.lst true []]) := by rw [List.append_assoc, List.cons_append]
                rw [e]
                refine q.mono (fun n s l => ⟨s.imp id fun z => ⟨z.1, fun w => ?_⟩, app_lt l⟩) fun n hn => app_lt (q.lt n hn)
                rcases List.mem_cons.mp w with w | w
                · exact z.2 (by rw [w]; exact List.mem_cons_self)
                · rcases List.mem_append.mp w with w | w
                  · exact z.2 (List.mem_cons_of_mem _ w)
                  · have w := List.mem_singleton.mp w
                    rw [List.length_append] at l
                    have l : n < st1.length + (X :: g').length := l
                    have : (X :: g').length = g'.length + 1 := rfl
                    have e3 : (st1 ++ SO.lst true acc :: g' ++ g2).length = st1.length + (g'.length + 1) + g2.length := by rw [List.length_append, List.length_append] <;> rfl
                    omega
              have app : ∀ {ds es : List D} {ts us : List PV} {o1 o2 : List Nat} {s0 : Store} {F0 : Cells}, CRs s0 F0 ds ts o1 → CRs s0 F0 es us o2 → CRs s0 F0 (ds ++ es) (ts ++ us) (o1 ++ o2) := by
                intro ds es ts us o1 o2 s0 F0 r q
                induction r with
                | nil => exact q
                | own e r rs ih => exact .own e r ih
                | fz z r rs ih => exact .fz z r ih
              refine app c1 (.own (es := []) (us := []) ?_ .nil .nil)
              have e4 : st1 ++ X :: (g' ++ g2 ++ [SO.lst true []]) = (st1 ++ X :: (g' ++ g2)) ++ [SO.lst true []] := by simp
              have e5 : (st1 ++ SO.lst true acc :: g' ++ g2).length = (st1 ++ X :: (g' ++ g2)).length := by
                simp only [List.length_append, List.length_cons]
                omega
              rw [e4, e5]
              exact get_last _ _
            · obtain ⟨n1, n2⟩ := List.nodup_cons.mp h2
              have hl : ∀ n ∈ os, n < (st1 ++ SO.lst true acc :: g' ++ g2).length := fun n hn => by
                have := (h1 (.lst true acc)).lt n hn
                rw [List.length_append]
                omega
              have hn0 : st1.length < (st1 ++ SO.lst true acc :: g' ++ g2).length := by
                rw [List.length_append, List.length_append]
                show st1.length < st1.length + (g'.length + 1) + g2.length
                omega
              refine List.nodup_cons.mpr ⟨fun z => ?_, List.nodup_append.mpr ⟨n2, List.nodup_cons.mpr ⟨List.not_mem_nil, .nil⟩, fun a ha c hc => ?_⟩⟩
              · rcases List.mem_append.mp z with z | z
                · exact n1 z
                · have := List.mem_singleton.mp z
                  omega
              · have := hl a ha
                rw [List.mem_singleton.mp hc]
                omega
            · intro n hn
              rcases List.mem_append.mp hn with z | z
              · exact h3 n z
              · rw [List.mem_singleton.mp z, List.length_append, List.length_append]
                show st1.length < st1.length + (g'.length + 1) + g2.length
                omega) hf ts.length 0 [] [] [] (Nat.zero_add _) (Nat.le_refl _) ⟨[], fun X => .nil, List.nodup_cons.mpr ⟨List.not_mem_nil, .nil⟩, fun n hn => by cases hn⟩
    rw [List.drop_zero] at key
    dsimp only
    rw [hl]
    refine TR.bind (X := Gx st) gx0 (fun ys u st2 q => ?_) key
    obtain ⟨acc', g', rfl, os, h1, h2, h3⟩ := q
    rw [List.nil_append] at h1
    refine TR.ret ⟨?_, .val (.o2 (mid_get _ _ _) (h1 _)) h2 fun n hn => ?_⟩
    · obtain ⟨g0, rfl⟩ := g
      exact ⟨_, List.append_assoc ..⟩
    · rcases List.mem_cons.mp hn with z | z
      · rw [z]
        exact hlen
      · have := h3 n z
        omega
mutual
theorem sim_e (H : CS C' C) : ∀ e : IE, SimE C' C e
  | .var i => sim_var i
  | .cint i => fun st S O denv env E => by unfold pev ev; exact TR.ret (.fz (.int _))
  | .cstr i => fun st S O denv env E => by unfold pev ev; exact TR.ret (.fz (.str _))
  | .cbl i => fun st S O denv env E => by unfold pev ev; exact TR.ret (.fz (.bl _))
  | .cnon => fun st S O denv env E => by unfold pev ev; exact TR.ret (.fz .non)
  | .tup es => sim_tup (sim_es H es)
  | .lst es => sim_lst (sim_es H es)
  | .bin _ a b => sim_bin (sim_e H a) (sim_e H b)
  | .neg a => sim_neg (sim_e H a)
  | .cmp _ a b => sim_cmp (sim_e H a) (sim_e H b)
  | .chain _ _ a b c => sim_chain (sim_e H a) (sim_e H b) (sim_e H c)
  | .and a b => sim_and (sim_e H a) (sim_e H b)
  | .or a b => sim_or (sim_e H a) (sim_e H b)
  | .not a => sim_not (sim_e H a)
  | .ite c a b => sim_ite (sim_e H c) (sim_e H a) (sim_e H b)
  | .ix a i => sim_ix (sim_e H a) (sim_e H i)
  | .slice a lo hi => sim_slice (sim_e H a) (sim_o H lo) (sim_o H hi)
  | .rev a => sim_rev (sim_e H a)
  | .blt f es => sim_blt (sim_es H es)
  | .lr a => sim_lr (sim_e H a)
  | .tr a => sim_tr (sim_e H a)
  | .isi a _ => sim_isi (sim_e H a)
  | .call _ es => sim_call H (sim_es H es)
  | .callK _ es _ ws => sim_callK H (sim_es H es) (sim_es H ws)
  | .meth _ o es => sim_meth (sim_e H o) (sim_es H es)
  | .lc _ _ it c e => sim_lc (sim_it H it) (sim_o H c) (sim_e H e)
theorem sim_es (H : CS C' C) : ∀ es : IEs, SimEs C' C es
  | .nil => sim_es_nil
  | .cons e es => sim_es_cons (sim_e H e) (sim_es H es)
theorem sim_o (H : CS C' C) : ∀ o : IO, SimO C' C o
  | .none => sim_o_none
  | .some e => sim_o_some (sim_e H e)
theorem sim_it (H : CS C' C) : ∀ it : IIt, SimI C' C it
  | .seq e => sim_it_seq (sim_e H e)
  | .range1 a => sim_it_r1 (sim_e H a)
  | .range2 a b => sim_it_r2 (sim_e H a) (sim_e H b)
  | .enum e => sim_it_enum (sim_e H e)
  | .zip a b => sim_it_zip (sim_e H a) (sim_e H b)
end
end
end DI
end
section
set_option maxHeartbeats 1000000
namespace DI
open PySem L2
/-! ### statements -/
structure Kp (base : Nat) (S S' : Cells) (st st' : Store) : Prop where
  len : st.length ≤ st'.length
  keep : ∀ n, n < base → st'[n]? = st[n]?
  sub : ∀ n, S' n → S n ∨ base ≤ n
  fz : ∀ n, S n → S' n ∧ st'[n]? = st[n]?
structure OE (base : Nat) (st : Store) (S : Cells) (denv : Evr) (env : PEnv) (O : List Nat) : Prop where
  er : ER st S denv env O
  ge : ∀ n ∈ O, base ≤ n
  bl : base ≤ st.length
section
variable {C' : Cfg} {C : PCfg} {S S' S1 F A : Cells} {O O' : List Nat} {base : Nat} {st st1 st2 st' : Store} {x y : MV} {d e : D} {xs : List MV} {ds : List D} {os : List Nat} {denv : Evr} {env : PEnv}
theorem Kp.refl : Kp base S S st st := ⟨Nat.le_refl _, fun _ _ => rfl, fun _ s => .inl s, fun _ s => ⟨s, rfl⟩⟩
theorem Kp.trans (a : Kp base S S' st st') (b : Kp base S' S1 st' st1) : Kp base S S1 st st1 :=
  ⟨Nat.le_trans a.len b.len, fun n h => (b.keep n h).trans (a.keep n h), fun n s => (b.sub n s).elim (a.sub n) .inr, fun n s => ⟨(b.fz n (a.fz n s).1).1, ((b.fz n (a.fz n s).1).2).trans (a.fz n s).2⟩⟩
theorem Kp.grow (hb : base ≤ st.length) (hS : ∀ n, S n → n < st.length) (g : ∃ g, st' = st ++ g) : Kp base S S st st' := by
  obtain ⟨g, rfl⟩ := g
  exact ⟨gr_len ⟨g, rfl⟩, fun n h => app_lt (by omega), fun _ s => .inl s, fun n s => ⟨s, app_lt (hS n s)⟩⟩
theorem OE.gr (E : OE base st S denv env O) (g : ∃ g, st' = st ++ g) : OE base st' S denv env O := ⟨E.er.gr g, E.ge, Nat.le_trans E.bl (gr_len g)⟩
/-- a name's slot -/
theorem SRs.put : ∀ {ds : Evr} {es : PEnv} {os : List Nat} (j : Nat), SRs st S ds es os → ∃ o1 pre post, os = pre ++ o1 ++ post ∧ (∀ x, es[j]? = some (some x) → ∃ d, ds[j]? = some (some d) ∧ VR st S d x o1) ∧
    ∀ (st' : Store) (S' : Cells), (∀ n, S n → n < st.length → S' n ∧ st'[n]? = st[n]?) → (∀ n ∈ pre ++ post, st'[n]? = st[n]?) →
      (∀ (d' : D) (y : MV) (o1' : List Nat), VR st' S' d' y o1' → ∃ os', os'.Sublist (pre ++ o1' ++ post) ∧ SRs st' S' (ds.set j (some d')) (es.set j (some y)) os') ∧ ∃ os', os'.Sublist (pre ++ post) ∧ SRs st' S' ds (es.set j none) os'
  | _, _, _, j, .nil => ⟨[], [], [], rfl, fun x h => by simp at h, fun st' S' _ _ => ⟨fun d' y o1' _ => ⟨[], List.nil_sublist _, .nil⟩, [], List.nil_sublist _, .nil⟩⟩
  | _, _, _, 0, .dead (os := os) rs => ⟨[], [], os, rfl, fun x h => by simp at h, fun st' S' h1 h2 => ⟨fun d' y o1' r => ⟨_, List.Sublist.refl _, .live r (rs.mono h1 h2)⟩, _, List.Sublist.refl _, .dead (rs.mono h1 h2)⟩⟩
  | _, _, _, 0, .live (d := d) (x := x0) (o1 := o1) (os := os) r rs => ⟨o1, [], os, rfl, fun x h => by simp at h; subst h; exact ⟨d, rfl, r⟩, fun st' S' h1 h2 => ⟨fun d' y o1' r' => ⟨_, List.Sublist.refl _, .live r' (rs.mono h1 h2)⟩, _, List.Sublist.refl _, .dead (rs.mono h1 h2)⟩⟩
  | _, _, _, j + 1, .dead rs => by
    obtain ⟨o1, pre, post, e, h1, h2⟩ := rs.put j
    refine ⟨o1, pre, post, e, fun x h => h1 x (by simpa using h), fun st' S' a b => ⟨fun d' y o1' r => ?_, ?_⟩⟩
    · obtain ⟨os', q1, q2⟩ := (h2 st' S' a b).1 d' y o1' r
      exact ⟨os', q1, .dead q2⟩
    · obtain ⟨os', q1, q2⟩ := (h2 st' S' a b).2
      exact ⟨os', q1, .dead q2⟩
  | _, _, _, j + 1, .live (o1 := o0) r0 rs => by
    obtain ⟨o1, pre, post, e, h1, h2⟩ := rs.put j
    refine ⟨o1, o0 ++ pre, post, by rw [e]; simp, fun x h => h1 x (by simpa using h), fun st' S' a b => ?_⟩
    have b1 : ∀ n ∈ o0, st'[n]? = st[n]? := fun n hn => b n (by simp [hn])
    have b2 : ∀ n ∈ pre ++ post, st'[n]? = st[n]? := fun n hn => b n (by
      rcases List.mem_append.mp hn with z | z
      · simp [z]
      · simp [z])
    refine ⟨fun d' y o1' r => ?_, ?_⟩
    · obtain ⟨os', q1, q2⟩ := (h2 st' S' a b2).1 d' y o1' r
      refine ⟨o0 ++ os', ?_, .live (r0.mono a b1) q2⟩
      have := List.Sublist.append_left q1 o0
      simpa using this
    · obtain ⟨os', q1, q2⟩ := (h2 st' S' a b2).2
      refine ⟨o0 ++ os', ?_, .live (r0.mono a b1) q2⟩
      have := List.Sublist.append_left q1 o0
      simpa using this
theorem set_getSelf {α : Type} {l : List α} {i : Nat} {a : α} (h : l[i]? = some a) : l.set i a = l := by
  apply List.ext_getElem?
  intro j
  by_cases e : i = j
  · subst e
    rw [List.getElem?_set_self (List.getElem?_eq_some_iff.mp h).1, h]
  · rw [List.getElem?_set_ne e]
/-- a name's slot changes; what it had is given up or kept -/
theorem OE.put' (E : OE base st S denv env O) (j : Nat) : ∃ o1 pre post, O = pre ++ o1 ++ post ∧ (∀ x, env[j]? = some (some x) → ∃ d, denv[j]? = some (some d) ∧ VR st S d x o1) ∧
    ∀ (st' : Store) (S' : Cells), Kp base S S' st st' → (∀ n, S' n → n < st'.length) → (∀ n ∈ pre ++ post, st'[n]? = st[n]? ∧ ¬ S' n) →
      (∀ (d' : D) (y : MV) (o1' : List Nat), VR st' S' d' y o1' → o1'.Nodup → (∀ n ∈ o1', base ≤ n ∧ ¬ S' n ∧ n ∉ pre ++ post) → ∃ O', OE base st' S' (denv.set j (some d')) (env.set j (some y)) O' ∧ O'.Sublist (pre ++ o1' ++ post)) ∧ ∃ O', OE base st' S' denv (env.set j none) O' ∧ O'.Sublist (pre ++ post) := by
  obtain ⟨o1, pre, post, e, h1, h2⟩ := E.er.sl.put j
  refine ⟨o1, pre, post, e, h1, fun st' S' K hlt hpp => ?_⟩
  obtain ⟨q1, q2⟩ := h2 st' S' (fun n s _ => K.fz n s) fun n hn => (hpp n hn).1
  have nd0 : (pre ++ post).Nodup := by
    have := E.er.nd
    rw [e] at this
    exact this.sublist (by rw [List.append_assoc]; exact List.Sublist.append_left (List.sublist_append_right _ _) _)
  have ge0 : ∀ n ∈ pre ++ post, base ≤ n := fun n hn => E.ge n (by
    rw [e]
    rcases List.mem_append.mp hn with z | z
    · simp [z]
    · simp [z])
  refine ⟨fun d' y o1' r nd hd => ?_, ?_⟩
  · obtain ⟨os', s1, s2⟩ := q1 d' y o1' r
    refine ⟨os', ⟨⟨s2, List.Nodup.sublist s1 ?_, fun n hn => ?_, hlt⟩, fun n hn => ?_, Nat.le_trans E.bl K.len⟩, s1⟩
    · obtain ⟨n1, n2, n3⟩ := List.nodup_append.mp nd0
      refine List.nodup_append.mpr ⟨List.nodup_append.mpr ⟨n1, nd, fun a ha b hb z => ?_⟩, n2, fun a ha b hb z => ?_⟩
      · subst z
        exact (hd a hb).2.2 (List.mem_append_left _ ha)
      · subst z
        rcases List.mem_append.mp ha with w | w
        · exact n3 a w a hb rfl
        · exact (hd a w).2.2 (List.mem_append_right _ hb)
    · have := s1.subset hn
      rcases List.mem_append.mp this with w | w
      · rcases List.mem_append.mp w with w | w
        · exact (hpp n (List.mem_append_left _ w)).2
        · exact (hd n w).2.1
      · exact (hpp n (List.mem_append_right _ w)).2
    · have := s1.subset hn
      rcases List.mem_append.mp this with w | w
      · rcases List.mem_append.mp w with w | w
        · exact ge0 n (List.mem_append_left _ w)
        · exact (hd n w).1
      · exact ge0 n (List.mem_append_right _ w)
  · obtain ⟨os', s1, s2⟩ := q2
    exact ⟨os', ⟨⟨s2, nd0.sublist s1, fun n hn => (hpp n (s1.subset hn)).2, hlt⟩, fun n hn => ge0 n (s1.subset hn), Nat.le_trans E.bl K.len⟩, s1⟩
theorem OE.put (E : OE base st S denv env O) (j : Nat) : ∃ o1 pre post, O = pre ++ o1 ++ post ∧ (∀ x, env[j]? = some (some x) → ∃ d, denv[j]? = some (some d) ∧ VR st S d x o1) ∧
    ∀ (st' : Store) (S' : Cells), Kp base S S' st st' → (∀ n, S' n → n < st'.length) → (∀ n ∈ pre ++ post, st'[n]? = st[n]? ∧ ¬ S' n) →
      (∀ (d' : D) (y : MV) (o1' : List Nat), VR st' S' d' y o1' → o1'.Nodup → (∀ n ∈ o1', base ≤ n ∧ ¬ S' n ∧ n ∉ pre ++ post) → ∃ O', OE base st' S' (denv.set j (some d')) (env.set j (some y)) O') ∧ ∃ O', OE base st' S' denv (env.set j none) O' ∧ O'.Sublist (pre ++ post) := by
  obtain ⟨o1, pre, post, e, h1, h2⟩ := E.put' j
  refine ⟨o1, pre, post, e, h1, fun st' S' a b c => ⟨fun d' y o1' p q r => ?_, (h2 st' S' a b c).2⟩⟩
  obtain ⟨O', w, _⟩ := (h2 st' S' a b c).1 d' y o1' p q r
  exact ⟨O', w⟩
/-- a slot is frozen -/
theorem OE.frz1 (E : OE base st S denv env O) (j : Nat) (f : Bool) : ∃ S' O', OE base st S' denv (DI.frz1 env j f) O' ∧ Kp base S S' st st := by
  obtain ⟨o1, pre, post, e, h1, h2⟩ := E.put j
  have nd := E.er.nd
  rw [e] at nd
  obtain ⟨n1, n2, n3⟩ := List.nodup_append.mp nd
  obtain ⟨m1, m2, m3⟩ := List.nodup_append.mp n1
  have out : ∀ n ∈ o1, n ∉ pre ++ post := fun n hn z => by
    rcases List.mem_append.mp z with z | z
    · exact m3 n z n hn rfl
    · exact n3 n (List.mem_append_right _ hn) n z rfl
  have ltO : ∀ n ∈ O, n < st.length := E.er.sl.ltO
  have inO : ∀ n ∈ o1, n ∈ O := fun n hn => by rw [e]; simp [hn]
  have ppO : ∀ n ∈ pre ++ post, n ∈ O := fun n hn => by
    rw [e]
    rcases List.mem_append.mp hn with z | z
    · simp [z]
    · simp [z]
  -- rel: the cells that are given up
  have go : ∀ (rel keep : List Nat) (y : MV) (d : D), denv[j]? = some (some d) → (∀ n ∈ rel, n ∈ o1) → (∀ n ∈ keep, n ∈ o1 ∧ n ∉ rel) → keep.Nodup → VR st (fun n => S n ∨ n ∈ rel) d y keep →
      ∃ S' O', OE base st S' denv (env.set j (some y)) O' ∧ Kp base S S' st st := by
    intro rel keep y d hd hr hk hn r
    obtain ⟨q, _⟩ := h2 st (fun n => S n ∨ n ∈ rel) ⟨Nat.le_refl _, fun _ _ => rfl, fun n s => s.imp id fun z => E.ge n (inO n (hr n z)), fun n s => ⟨.inl s, rfl⟩⟩ (fun n s => s.elim (E.er.lt n) fun z => ltO n (inO n (hr n z)))
      (fun n hn => ⟨rfl, fun s => s.elim (E.er.dis n (ppO n hn)) fun z => out n (hr n z) hn⟩)
    obtain ⟨O', q⟩ := q d y keep r hn fun n hn => ⟨E.ge n (inO n (hk n hn).1), fun s => s.elim (E.er.dis n (inO n (hk n hn).1)) (hk n hn).2, out n (hk n hn).1⟩
    rw [set_getSelf hd] at q
    exact ⟨_, O', q, ⟨Nat.le_refl _, fun _ _ => rfl, fun n s => s.imp id fun z => E.ge n (inO n (hr n z)), fun n s => ⟨.inl s, rfl⟩⟩⟩
  have same : ∃ S' O', OE base st S' denv env O' ∧ Kp base S S' st st := ⟨S, O, E, .refl⟩
  unfold DI.frz1
  split
  · rename_i v hj
    obtain ⟨d, hd, r⟩ := h1 _ hj
    cases f with
    | false => exact same
    | true => exact go o1 [] (.fz, v) d hd (fun _ h => h) (fun n hn => by cases hn) .nil (.fz (r.all (fun _ s => .inl s) fun n hn => .inr hn))
  · rename_i vs hj
    obtain ⟨d, hd, r⟩ := h1 _ hj
    cases f with
    | true => exact go o1 [] (.fz, .lst vs) d hd (fun _ h => h) (fun n hn => by cases hn) .nil (.fz (r.all (fun _ s => .inl s) fun n hn => .inr hn))
    | false =>
      cases r with
      | o2 e0 r =>
        rename_i n ds os
        refine go os [n] (.o1, .lst vs) _ hd (fun _ h => List.mem_cons_of_mem _ h) (fun k hk => ?_) (List.nodup_cons.mpr ⟨List.not_mem_nil, .nil⟩) (.o1 e0 (r.all (fun _ s => .inl s) fun n hn => .inr hn))
        rw [List.mem_singleton.mp hk]
        exact ⟨List.mem_cons_self, (List.nodup_cons.mp m2).1⟩
  · rename_i v hv hj
    obtain ⟨d, hd, r⟩ := h1 _ hj
    exact go o1 [] (.fz, v) d hd (fun _ h => h) (fun n hn => by cases hn) .nil (.fz (r.all (fun _ s => .inl s) fun n hn => .inr hn))
  · exact same
theorem OE.frz : ∀ (l : List (Nat × Bool)) {env : PEnv} {S : Cells} {O : List Nat}, OE base st S denv env O → ∃ S' O', OE base st S' denv (DI.frz env l) O' ∧ Kp base S S' st st
  | [], _, S, O, E => ⟨S, O, E, .refl⟩
  | (j, f) :: r, _, S, O, E => by
    obtain ⟨S1, O1, E1, K1⟩ := E.frz1 j f
    obtain ⟨S2, O2, E2, K2⟩ := OE.frz r E1
    exact ⟨S2, O2, E2, K1.trans K2⟩
end
end DI
end
section
set_option maxHeartbeats 1000000
namespace DI
open PySem L2
/-- how a statement ends, side by side -/
def FlR (base : Nat) (S' : Cells) (st' : Store) : PS → (Fl × Evr) → Prop
  | (.next, env), (.next, denv) => ∃ O', OE base st' S' denv env O'
  | (.brk, env), (.brk, denv) => ∃ O', OE base st' S' denv env O'
  | (.cont, env), (.cont, denv) => ∃ O', OE base st' S' denv env O'
  | (.exc x, env), (.exc y, denv) => x = y ∧ ∃ O', OE base st' S' denv env O'
  | (.ret v, _), (.ret d, _) => ∃ os, VR st' S' d v os ∧ os.Nodup ∧ ∀ n ∈ os, base ≤ n ∧ ¬ S' n
  | _, _ => False
def PSR (base : Nat) (S : Cells) (st : Store) (p : PS) (q : Fl × Evr) (st' : Store) : Prop := ∃ S', Kp base S S' st st' ∧ FlR base S' st' p q
def NoX : Store → Prop := fun _ => False
section
variable {C' : Cfg} {C : PCfg} {S S' S1 F A : Cells} {O O' : List Nat} {base : Nat} {st st1 st2 st' : Store} {x y : MV} {d e : D} {xs : List MV} {ds : List D} {os : List Nat} {denv : Evr} {env : PEnv}
theorem PSR.of {p : PS} {q : Fl × Evr} (K : Kp base S S1 st st1) (h : PSR base S1 st1 p q st') : PSR base S st p q st' := by
  obtain ⟨S', K', h⟩ := h
  exact ⟨S', K.trans K', h⟩
def SimS (C' : Cfg) (C : PCfg) (s : IS) : Prop := ∀ (base : Nat) (st : Store) (S : Cells) (O : List Nat) (denv : Evr) (env : PEnv), OE base st S denv env O → TR (pex C s env) (ex C' s denv st) (PSR base S st) NoX
def SimSs (C' : Cfg) (C : PCfg) (s : ISs) : Prop := ∀ (base : Nat) (st : Store) (S : Cells) (O : List Nat) (denv : Evr) (env : PEnv), OE base st S denv env O → TR (pexs C s env) (exs C' s denv st) (PSR base S st) NoX
theorem TR.resc {α β : Type} {R : α → β → Store → Prop} {f : α → PT PS} {g : β → M (Fl × Evr)} (E : OE base st S denv env O) (hf : ∀ a c st', R a c st' → TR (f a) (g c st') (PSR base S st) NoX) :
    ∀ {p : PT α} {t : T (β × Store)}, TR p t R (Gx st) → TR (p.resc env f) (t.resc denv g) (PSR base S st) NoX
  | .ret a, t, h => by
    obtain ⟨b, st', rfl, h⟩ := h
    exact hf a b st' h
  | .draw n k, t, h => by
    obtain ⟨k', rfl, h⟩ := h
    exact ⟨_, rfl, fun v => TR.resc E hf (h v)⟩
  | .exc x, t, h => by
    obtain ⟨st', rfl, h⟩ := h
    exact TR.ret ⟨S, .grow E.bl E.er.lt h, rfl, O, E.gr h⟩
  | .stuck, _, _ => trivial
/-- an expression, behind a freezing -/
theorem oneS {a : IE} {l : List (Nat × Bool)} {f : MV → PT PS} {g : D → M (Fl × Evr)} (h : SimE C' C a) (E : OE base st S denv env O)
    (k : ∀ (S1 : Cells) (O1 : List Nat) (b : Nat) (x : MV) (d : D) (st1 : Store), OE base st1 S1 denv (frz env l) O1 → b ≤ st1.length → base ≤ b → (∀ n, S1 n → n < b) → (∀ n ∈ O1, n < b) → RES S1 O1 b st1 x d → TR (f x) (g d st1) (PSR base S1 st1) NoX) :
    TR ((pev C a (frz env l)).resc (frz env l) f) (doE denv (ev C' a denv) g st) (PSR base S st) NoX := by
  obtain ⟨S1, O1, E1, K1⟩ := E.frz l
  have key := TR.resc (f := f) (g := g) (R := RX S1 O1 st.length st) E1 (fun x d st1 q =>
    TR.mono (fun p q' st' h => PSR.of (.grow E1.bl E1.er.lt q.1) h) (fun _ h => h) (k S1 O1 st.length x d st1 (E1.gr q.1) (gr_len q.1) E1.bl E1.er.lt E1.er.sl.ltO q.2)) (h st S1 O1 denv (frz env l) E1.er)
  exact TR.mono (fun _ _ _ h => PSR.of K1 h) (fun _ h => h) key
/-- .. without a freezing -/
theorem oneS0 {a : IE} {f : MV → PT PS} {g : D → M (Fl × Evr)} (h : SimE C' C a) (E : OE base st S denv env O)
    (k : ∀ (b : Nat) (x : MV) (d : D) (st1 : Store), OE base st1 S denv env O → b ≤ st1.length → base ≤ b → (∀ n, S n → n < b) → (∀ n ∈ O, n < b) → (∃ g, st1 = st ++ g) → RES S O b st1 x d → TR (f x) (g d st1) (PSR base S st1) NoX) :
    TR ((pev C a env).resc env f) (doE denv (ev C' a denv) g st) (PSR base S st) NoX :=
  TR.resc (f := f) (g := g) (R := RX S O st.length st) E (fun x d st1 q =>
    TR.mono (fun p q' st' h => PSR.of (.grow E.bl E.er.lt q.1) h) (fun _ h => h) (k st.length x d st1 (E.gr q.1) (gr_len q.1) E.bl E.er.lt E.er.sl.ltO q.1 q.2)) (h st S O denv env E.er)
theorem manyS {a : IEs} {l : List (Nat × Bool)} {f : List MV → PT PS} {g : List D → M (Fl × Evr)} (h : SimEs C' C a) (E : OE base st S denv env O)
    (k : ∀ (S1 : Cells) (O1 : List Nat) (b : Nat) (xs : List MV) (ds : List D) (st1 : Store), OE base st1 S1 denv (frz env l) O1 → b ≤ st1.length → base ≤ b → (∀ n, S1 n → n < b) → (∀ n ∈ O1, n < b) → RESs S1 O1 b st1 xs ds → TR (f xs) (g ds st1) (PSR base S1 st1) NoX) :
    TR ((pevs C a (frz env l)).resc (frz env l) f) (doE denv (evs C' a denv) g st) (PSR base S st) NoX := by
  obtain ⟨S1, O1, E1, K1⟩ := E.frz l
  have key := TR.resc (f := f) (g := g) (R := RXs S1 O1 st.length st) E1 (fun x d st1 q =>
    TR.mono (fun p q' st' h => PSR.of (.grow E1.bl E1.er.lt q.1) h) (fun _ h => h) (k S1 O1 st.length x d st1 (E1.gr q.1) (gr_len q.1) E1.bl E1.er.lt E1.er.sl.ltO q.each)) (h st S1 O1 denv (frz env l) E1.er)
  exact TR.mono (fun _ _ _ h => PSR.of K1 h) (fun _ h => h) key
/-- new cells become part of what is read -/
def Gr' (S : Cells) (b : Nat) (os : List Nat) (st : Store) : Cells := fun n => Fr S b os n ∧ n < st.length
theorem Kp.more {b : Nat} {os : List Nat} (hb : base ≤ b) (hS : ∀ n, S n → n < b) (hl : b ≤ st.length) : Kp base S (Gr' S b os st) st st :=
  ⟨Nat.le_refl _, fun _ _ => rfl, fun n s => s.1.imp id fun z => Nat.le_trans hb z.1, fun n s => ⟨⟨.inl s, Nat.lt_of_lt_of_le (hS n s) hl⟩, rfl⟩⟩
theorem OE.more {b : Nat} (os : List Nat) (E : OE base st S denv env O) (hb : base ≤ b) (hS : ∀ n, S n → n < b) (hO : ∀ n ∈ O, n < b) (hl : b ≤ st.length) : OE base st (Gr' S b os st) denv env O :=
  ⟨⟨E.er.sl.mono (fun n s l => ⟨⟨.inl s, l⟩, rfl⟩) fun _ _ => rfl, E.er.nd, fun n hn s => s.1.elim (E.er.dis n hn) fun z => by have := hO n hn; omega, fun n s => s.2⟩, E.ge, E.bl⟩
theorem RP.inG {t : PV} {b : Nat} (r : RP st (Fr S b []) d t) : RP st (Gr' S b [] st) d t := r.sub fun n s l => ⟨s, l⟩
theorem RPs.inG {t : List PV} {b : Nat} (r : RPs st (Fr S b []) ds t) : RPs st (Gr' S b [] st) ds t := r.sub fun n s l => ⟨s, l⟩
theorem OE.next {S2 : Cells} (K : Kp base S S2 st st') (E : OE base st' S2 denv env O) : PSR base S st (.next, env) (.next, denv) st' := ⟨S2, K, O, E⟩
/-- a frozen value goes into a name -/
theorem OE.setF {t : PV} {i : Nat} (E : OE base st S denv env O) (r : RP st S d t) : ∃ O', OE base st S (denv.set i (some d)) (env.set i (some (.fz, t))) O' := by
  obtain ⟨O', E', s⟩ := E.er.setF r i
  exact ⟨O', E', fun n hn => E.ge n (s.subset hn), E.bl⟩
theorem OE.bind {tg : ITg} {t : PV} {env' : PEnv} (E : OE base st S denv env O) (r : RP st S d t) (h : bindP tg t env = some env') : ∃ denv' O', bindTg tg d denv = some denv' ∧ OE base st S denv' env' O' := by
  obtain ⟨denv', O', e, E', s⟩ := E.er.bind r h
  exact ⟨denv', O', e, E', fun n hn => E.ge n (s.subset hn), E.bl⟩
/-- a value goes into a name -/
theorem OE.setV {b : Nat} {m : Md} {t : PV} (i : Nat) (E : OE base st S denv env O) (hb : base ≤ b) (hS : ∀ n, S n → n < b) (hO : ∀ n ∈ O, n < b) (hl : b ≤ st.length) (hm : m.stB = true) (r : RES S O b st (m, t) d) :
    ∃ S2 O2, OE base st S2 (denv.set i (some d)) (env.set i (some (m, t))) O2 ∧ Kp base S S2 st st := by
  cases r with
  | bor r h1 h2 =>
    rw [hm] at h2
    cases h2
  | val r n1 b1 =>
    rename_i os
    obtain ⟨o1, pre, post, e, h1, h2⟩ := E.put i
    have K := Kp.more (st := st) (os := os) hb hS hl
    have ppO : ∀ n ∈ pre ++ post, n ∈ O := fun n hn => by
      rw [e]
      rcases List.mem_append.mp hn with z | z
      · simp [z]
      · simp [z]
    obtain ⟨q, _⟩ := h2 st (Gr' S b os st) K (fun n s => s.2) (fun n hn => ⟨rfl, fun s => by
      have := hO n (ppO n hn)
      rcases s.1 with z | z
      · exact E.er.dis n (ppO n hn) z
      · omega⟩)
    obtain ⟨O2, q⟩ := q d (m, t) os (r.sub fun n s l => ⟨s, l⟩) n1 fun n hn => ⟨Nat.le_trans hb (b1 n hn), fun s => (by
      rcases s.1 with z | z
      · have := hS n z
        have := b1 n hn
        omega
      · exact z.2 hn), fun z => by have := hO n (ppO n z); have := b1 n hn; omega⟩
    exact ⟨_, O2, q, K⟩
theorem RES.newMd {b : Nat} {m : Md} {t : PV} (i : Nat) (h : m.stB = true) (r : RES S O b st (m, t) d) : RES S O b st (DI.newMd C i m t, t) d ∧ (DI.newMd C i m t).stB = true := by
  unfold DI.newMd
  split
  · split
    · refine ⟨?_, rfl⟩
      cases r with
      | bor r h1 h2 => cases h2
      | val r n1 b1 =>
        cases r with
        | o1 e r =>
          cases r
          exact .val (.o2 e .nil) n1 b1
    · exact ⟨r, h⟩
  · exact ⟨r, h⟩
theorem sS_set {i : Nat} {a : IE} (h : SimE C' C a) (hp : ∀ j, a ≠ .meth .pop (.var j) .nil) : SimS C' C (.set i a) := fun base st S O denv env E => by
  have e1 : pex C (.set i a) env = (pev C a (frz env (esc 2 a))).resc (frz env (esc 2 a)) fun x => pif x.1.stB (.ret (.next, (frz env (esc 2 a)).set i (some (DI.newMd C i x.1 x.2, x.2)))) := by
    rw [pex]
    intro j hj
    exact hp j hj
  rw [e1]
  unfold ex
  refine oneS h E fun S1 O1 b x d st1 E1 hl hb hS hO r => TR.pifP fun hc => ?_
  obtain ⟨m, t⟩ := x
  obtain ⟨r', hm⟩ := r.newMd (C := C) i hc
  obtain ⟨S2, O2, E2, K2⟩ := E1.setV i hb hS hO hl hm r'
  exact TR.ret ⟨S2, K2, O2, E2⟩
theorem RP.asTup {t : PV} (r : RP st S d t) (h : ∀ ns, t ≠ .scr ns) : RP st S (DI.asTup st d) (asTupP t) := by
  cases r with
  | lst s e r =>
    unfold DI.asTup
    dsimp only
    rw [e]
    exact .tup r
  | scr s e => exact absurd rfl (h _)
  | rng s e =>
    unfold DI.asTup
    dsimp only
    rw [e]
    exact .rng s e
  | non => exact .non
  | bl b => exact .bl b
  | int i => exact .int i
  | str x => exact .str x
  | tup r => exact .tup r
  | pr r s => exact .pr r s
theorem sS_setT {ts : List Nat} {a : IE} (h : SimE C' C a) : SimS C' C (.setT ts a) := fun base st S O denv env E => by
  unfold pex ex
  refine oneS h E fun S1 O1 b x d st1 E1 hl hb hS hO r => ?_
  obtain ⟨m, t⟩ := x
  refine TR.stP fun hs => ?_
  have r' := (r.sto hs).inG
  cases hbd : bindP (.tup ts) (asTupP t) (frz env (esc 2 a)) with
  | none => trivial
  | some env' =>
    have hn : ∀ ns, t ≠ .scr ns := by
      rintro ns rfl
      cases hbd
    obtain ⟨denv', O', e2, E2⟩ := (E1.more [] hb hS hO hl).bind (r'.asTup hn) hbd
    dsimp only
    rw [e2]
    exact TR.ret ⟨_, .more hb hS hl, O', E2⟩
theorem OE.setVs {b : Nat} {tot : List Nat} {O0 : List Nat} : ∀ {is : List Nat} {xs : List MV} {ds : List D} {os : List Nat} {denv : Evr} {env env' : PEnv} {O : List Nat}, VALS S O0 st (Fr S b tot) xs ds os → (∀ n ∈ os, n ∈ tot) → os.Nodup → (∀ n ∈ os, b ≤ n) → base ≤ b → (∀ n, S n → n < b) →
    OE base st (Gr' S b tot st) denv env O → (∀ n ∈ O, n ∉ os) → setEnvsM is xs env = some env' → ∃ denv' O', setEnvs is ds denv = some denv' ∧ OE base st (Gr' S b tot st) denv' env' O'
  | [], _, _, _, _, _, _, _, .nil, _, _, _, _, _, E, _, h => by
    cases h
    exact ⟨_, _, rfl, E⟩
  | [], _, _, _, _, _, _, _, .val _ _, _, _, _, _, _, E, _, h => by cases h
  | [], _, _, _, _, _, _, _, .bor _ _ _ _ _, _, _, _, _, _, E, _, h => by cases h
  | i :: is, _, _, _, _, _, _, _, .nil, _, _, _, _, _, E, _, h => by cases h
  | i :: is, _, _, _, _, _, _, _, .bor r h1 h2 h3 rs, _, _, _, _, _, E, _, h => by
    unfold setEnvsM at h
    rw [h2] at h
    cases h
  | i :: is, _, _, _, denv, env, env', O, .val (x := (m, t)) (d := d) (o1 := o1) (o2 := o2) r rs, ht, nd, ge, hb, hS, E, dis, h => by
    unfold setEnvsM at h
    rw [r.stB] at h
    obtain ⟨n1, n2, n3⟩ := List.nodup_append.mp nd
    obtain ⟨p1, pre, post, e, _, k⟩ := E.put' i
    have ppO : ∀ n ∈ pre ++ post, n ∈ O := fun n hn => by
      rw [e]
      rcases List.mem_append.mp hn with z | z
      · simp [z]
      · simp [z]
    obtain ⟨q, _⟩ := k st (Gr' S b tot st) .refl (fun n s => s.2) fun n hn => ⟨rfl, E.er.dis n (ppO n hn)⟩
    have nS : ∀ n ∈ o1, ¬ Gr' S b tot st n := fun n hn s => by
      rcases s.1 with z | z
      · have := hS n z
        have := ge n (List.mem_append_left _ hn)
        omega
      · exact z.2 (ht n (List.mem_append_left _ hn))
    obtain ⟨O1, E1, s1⟩ := q d (m, t) o1 (r.sub fun n s l => ⟨s, l⟩) n1 fun n hn => ⟨Nat.le_trans hb (ge n (List.mem_append_left _ hn)), nS n hn, fun z => dis n (ppO n z) (List.mem_append_left _ hn)⟩
    obtain ⟨dv, O2, e2, E2⟩ := OE.setVs rs (fun n hn => ht n (List.mem_append_right _ hn)) n2 (fun n hn => ge n (List.mem_append_right _ hn)) hb hS E1 (fun n hn z => by
      rcases List.mem_append.mp (s1.subset hn) with w | w
      · rcases List.mem_append.mp w with w | w
        · exact dis n (ppO n (List.mem_append_left _ w)) (List.mem_append_right _ z)
        · exact n3 n w n z rfl
      · exact dis n (ppO n (List.mem_append_right _ w)) (List.mem_append_right _ z)) h
    exact ⟨dv, O2, e2, E2⟩
theorem sS_par {ts : List Nat} {es : IEs} (h : SimEs C' C es) : SimS C' C (.par ts es) := fun base st S O denv env E => by
  unfold pex ex
  obtain ⟨S1, O1, E1, K1⟩ := E.frz (escs 2 es)
  have key := TR.resc (f := fun xs => match setEnvsM ts xs (frz env (escs 2 es)) with
      | some env' => .ret (.next, env')
      | none => .stuck) (g := fun xs => match setEnvs ts xs denv with
      | some env' => mret (.next, env')
      | none => mstuck) (R := RXs S1 O1 st.length st) E1 (fun xs ds st1 q => by
    obtain ⟨g, os, v, nd, ge⟩ := q
    have K2 := Kp.grow E1.bl E1.er.lt g
    have E2 := (E1.gr g).more (b := st.length) os E1.bl E1.er.lt E1.er.sl.ltO (gr_len g)
    cases hs : setEnvsM ts xs (frz env (escs 2 es)) with
    | none => trivial
    | some env' =>
      obtain ⟨denv', O', e2, E3⟩ := OE.setVs v (fun _ h => h) nd ge E1.bl E1.er.lt E2 (fun n hn z => by
        have := E1.er.sl.ltO n hn
        have := ge n z
        omega) hs
      dsimp only
      rw [e2]
      exact TR.ret ⟨_, K2.trans (.more E1.bl E1.er.lt (gr_len g)), O', E3⟩) (h st S1 O1 denv _ E1.er)
  exact TR.mono (fun _ _ _ h => PSR.of K1 h) (fun _ h => h) key
theorem sS_expr0 {a : IE} (h : SimE C' C a) (E : OE base st S denv env O) : TR ((pev C a (frz env (esc 2 a))).resc (frz env (esc 2 a)) fun _ => .ret (.next, frz env (esc 2 a))) (ex C' (.expr a) denv st) (PSR base S st) NoX := by
  unfold ex
  exact oneS h E fun S1 O1 b x d st1 E1 hl hb hS hO r => TR.ret ⟨S1, .refl, O1, E1⟩
theorem VR.ret {m : Md} {t : PV} (r : VR st S d (retMd m, t) os) : VR st S d (retMd m, t) os := r
theorem sS_ret {a : IE} (h : SimE C' C a) : SimS C' C (.ret a) := fun base st S O denv env E => by
  have e1 : ∃ l, pex C (.ret a) env = (pev C a (frz env l)).resc (frz env l) fun x => .ret (.ret (retMd x.1, x.2), frz env l) := ⟨_, by unfold pex; rfl⟩
  obtain ⟨l, e1⟩ := e1
  rw [e1]
  unfold ex
  refine oneS h E fun S1 O1 b x d st1 E1 hl hb hS hO r => ?_
  obtain ⟨m, t⟩ := x
  cases r with
  | val r n1 b1 =>
    rename_i os
    have hm : retMd m = m := by
      have := r.stB
      cases m <;> first | rfl | cases this
    refine TR.ret ⟨Gr' S1 b os st1, .more hb hS hl, os, ?_, n1, fun n hn => ⟨Nat.le_trans hb (b1 n hn), fun s => ?_⟩⟩
    · rw [hm]
      exact r.sub fun n s l => ⟨s, l⟩
    · rcases s.1 with z | z
      · have := hS n z
        have := b1 n hn
        omega
      · exact z.2 hn
  | bor r h1 h2 h3 =>
    rename_i os
    exact TR.ret ⟨S1, .refl, os, r, h3, fun n hn => ⟨E1.ge n (h1 n hn), E1.er.dis n (h1 n hn)⟩⟩
theorem sS_ite {c : IE} {a b : ISs} (h : SimE C' C c) (ha : SimSs C' C a) (hb : SimSs C' C b) : SimS C' C (.ite c a b) := fun base st S O denv env E => by
  obtain ⟨S1, O1, E1, K1⟩ := E.frz (esc 0 c)
  unfold pex ex
  have key := TR.resc (f := fun k => match k with
      | true => pexs C a (frz env (esc 0 c))
      | false => pexs C b (frz env (esc 0 c))) (g := fun k => match k with
      | true => exs C' a denv
      | false => exs C' b denv) (R := fun a c st' => a = c ∧ ∃ g, st' = st ++ g) E1 (fun x d st1 q => by
    obtain ⟨rfl, g⟩ := q
    have K2 := Kp.grow E1.bl E1.er.lt g
    cases x with
    | true => exact TR.mono (fun _ _ _ h => PSR.of K2 h) (fun _ h => h) (ha base st1 S1 O1 denv _ (E1.gr g))
    | false => exact TR.mono (fun _ _ _ h => PSR.of K2 h) (fun _ h => h) (hb base st1 S1 O1 denv _ (E1.gr g))) ((sim_o_some h st S1 O1 denv _ E1.er).2)
  exact TR.mono (fun _ _ _ h => PSR.of K1 h) (fun _ h => h) key
theorem sSs_nil : SimSs C' C .nil := fun base st S O denv env E => TR.ret ⟨S, .refl, O, E⟩
theorem sSs_cons {s : IS} {ss : ISs} (h : SimS C' C s) (hs : SimSs C' C ss) : SimSs C' C (.cons s ss) := fun base st S O denv env E => by
  unfold pexs exs
  refine TR.bind (fun _ h => h) (fun p q st1 w => ?_) (h base st S O denv env E)
  obtain ⟨S', K, w⟩ := w
  obtain ⟨fp, envp⟩ := p
  obtain ⟨fq, envq⟩ := q
  cases fp <;> cases fq <;> first | exact w.elim | skip
  · obtain ⟨O', E'⟩ := w
    exact TR.mono (fun _ _ _ h => PSR.of K h) (fun _ h => h) (hs base st1 S' O' envq envp E')
  · exact TR.ret ⟨S', K, w⟩
  · exact TR.ret ⟨S', K, w⟩
  · exact TR.ret ⟨S', K, w⟩
  · exact TR.ret ⟨S', K, w⟩
end
end DI
end
section
set_option maxHeartbeats 1000000
namespace DI
open PySem L2
section
variable {C' : Cfg} {C : PCfg} {S S' S1 F A : Cells} {O O' : List Nat} {base b : Nat} {st st1 st2 st' : Store} {x y : MV} {d e : D} {xs : List MV} {ds : List D} {os : List Nat} {denv : Evr} {env : PEnv}
theorem set_ne' {n m : Nat} {o : SO} (h : m ≠ n) : (st.set n o)[m]? = st[m]? := List.getElem?_set_ne (Ne.symm h)
theorem set_eq' {n : Nat} {o : SO} (h : n < st.length) : (st.set n o)[n]? = some o := List.getElem?_set_self h
theorem TR.rescP {α β : Type} {R : α → β → Store → Prop} {R' : PS → (Fl × Evr) → Store → Prop} {X' : Store → Prop} {f : α → PT PS} {g : β → M (Fl × Evr)} (hf : ∀ a c st', R a c st' → TR (f a) (g c st') R' X') : ∀ {p : PT α} {t : T (β × Store)}, TR p t R NoX → TR (p.bind f) (t.resc denv g) R' X'
  | .ret a, t, h => by
    obtain ⟨b, st', rfl, h⟩ := h
    exact hf a b st' h
  | .draw n k, t, h => by
    obtain ⟨k', rfl, h⟩ := h
    exact ⟨_, rfl, fun v => TR.rescP hf (h v)⟩
  | .exc x, t, h => by
    obtain ⟨st', rfl, h⟩ := h
    exact h.elim
  | .stuck, _, _ => trivial
/-- a cell that names keep is written -/
theorem Kp.wr {n : Nat} {o : SO} (hb : base ≤ n) (hS : ¬ S n) : Kp base S S st (st.set n o) :=
  ⟨by rw [List.length_set]; exact Nat.le_refl _, fun m h => set_ne' (by omega), fun _ s => .inl s, fun m s => ⟨s, set_ne' fun e => hS (e ▸ s)⟩⟩
theorem OE.mut {j : Nat} {xs : List PV} (E : OE base st S denv env O) (hj : env[j]? = some (some (.o1, .lst xs))) : ∃ n ds, denv[j]? = some (some (.ref n)) ∧ st[n]? = some (.lst true ds) ∧ RPs st S ds xs ∧
    ∀ ds' xs', RPs st S ds' xs' → ∃ O', OE base (st.set n (.lst true ds')) S denv (env.set j (some (.o1, .lst xs'))) O' ∧ Kp base S S st (st.set n (.lst true ds')) := by
  obtain ⟨o1, pre, post, e, h1, h2⟩ := E.put j
  obtain ⟨d, hd, r⟩ := h1 _ hj
  cases r with
  | o1 e0 r =>
    rename_i n ds
    refine ⟨n, ds, hd, e0, r, fun ds' xs' r' => ?_⟩
    have nd := E.er.nd
    rw [e] at nd
    have hn : n ∈ O := by rw [e]; simp
    have hS := E.er.dis n hn
    have hb := E.ge n hn
    have npp : n ∉ pre ++ post := by
      obtain ⟨n1, n2, n3⟩ := List.nodup_append.mp nd
      obtain ⟨m1, m2, m3⟩ := List.nodup_append.mp n1
      intro z
      rcases List.mem_append.mp z with z | z
      · exact m3 n z n List.mem_cons_self rfl
      · exact n3 n (by simp) n z rfl
    have ppO : ∀ m ∈ pre ++ post, m ∈ O := fun m hm => by
      rw [e]
      rcases List.mem_append.mp hm with z | z
      · simp [z]
      · simp [z]
    have K : Kp base S S st (st.set n (.lst true ds')) := .wr hb hS
    obtain ⟨q, _⟩ := h2 (st.set n (.lst true ds')) S K (fun m s => by rw [List.length_set]; exact E.er.lt m s) (fun m hm => ⟨set_ne' fun z => npp (z ▸ hm), E.er.dis m (ppO m hm)⟩)
    obtain ⟨O', q⟩ := q (.ref n) (.o1, .lst xs') [n] (.o1 (set_eq' (lt_of e0)) (r'.mono fun m s _ => K.fz m s)) (List.nodup_cons.mpr ⟨List.not_mem_nil, .nil⟩) (fun m hm => by
      rw [List.mem_singleton.mp hm]
      exact ⟨hb, hS, npp⟩)
    rw [set_getSelf hd] at q
    exact ⟨O', q, K⟩
theorem op_mutP {m : Mth} {n : Nat} {ts vs : List PV} {es : List D} (he : st[n]? = some (.lst true ds)) (r : RPs st S ds ts) (q : RPs st S es vs) : TR (mutP m ts vs) (methD m (.ref n) es st) (fun p c st' => ∃ ds', st' = st.set n (.lst true ds') ∧ RPs st S ds' p.1 ∧ RP st S c p.2) NoX := by
  cases m
  case append =>
    cases q <;> first | exact trivial | skip
    rename_i q qs
    cases qs <;> first | exact trivial | skip
    refine TR.pifP fun hc => ?_
    unfold methD
    dsimp only
    rw [he]
    dsimp only
    rw [r.length, hc]
    exact TR.ret ⟨_, rfl, r.append (.cons q .nil), .non⟩
  case insert =>
    cases q <;> first | exact trivial | skip
    rename_i q qs
    cases q <;> first | exact trivial | skip
    cases qs <;> first | exact trivial | skip
    rename_i q qs
    cases qs <;> first | exact trivial | skip
    refine TR.pifP fun hc => ?_
    unfold methD
    dsimp only
    rw [he]
    dsimp only
    rw [r.length, hc]
    exact TR.ret ⟨_, rfl, ((r.take _).append (.cons q .nil)).append (r.drop _), .non⟩
  case pop =>
    cases q <;> first | exact trivial | skip
    unfold mutP methD
    dsimp only
    rw [he]
    dsimp only
    rw [r.length]
    split
    · rename_i y hy
      obtain ⟨c, h1, h2⟩ := r.get hy
      rw [h1]
      exact TR.ret ⟨_, rfl, r.dropLast, h2⟩
    · trivial
  case popAt =>
    cases q <;> first | exact trivial | skip
    rename_i q qs
    cases q <;> first | exact trivial | skip
    cases qs <;> first | exact trivial | skip
    unfold mutP methD
    dsimp only
    rw [he]
    dsimp only
    split
    · rename_i y hy
      obtain ⟨c, h1, h2⟩ := r.get hy
      rw [h1]
      exact TR.pif id (TR.ret ⟨_, rfl, r.eraseIdx _, h2⟩)
    · trivial
  all_goals exact trivial
theorem mutS_or (m : Mth) (env : PEnv) (j : Nat) (vs : List PV) : mutS m env j vs = .stuck ∨ ∃ xs, env[j]? = some (some (.o1, .lst xs)) ∧ mutS m env j vs = (mutP m xs vs).bind fun p => .ret (p.2, env.set j (some (.o1, .lst p.1))) := by
  unfold mutS
  split
  · rename_i xs h
    exact .inr ⟨xs, h, rfl⟩
  · exact .inl rfl
/-- a method changes a name's own list -/
theorem OE.meth {m : Mth} {j : Nat} {vs : List PV} {es : List D} (E : OE base st S denv env O) (q : RPs st S es vs) : mutS m env j vs = .stuck ∨ ∃ n, denv[j]? = some (some (.ref n)) ∧
    TR (mutS m env j vs) (methD m (.ref n) es st) (fun p c st' => Kp base S S st st' ∧ RP st' S c p.1 ∧ ∃ O', OE base st' S denv p.2 O') NoX := by
  rcases mutS_or m env j vs with h | ⟨xs, hj, h⟩
  · exact .inl h
  · obtain ⟨n, ds, hd, e0, r, k⟩ := E.mut hj
    refine .inr ⟨n, hd, ?_⟩
    rw [h]
    refine TR.map (TR.mono (fun p c st' w => ?_) (fun _ h => h) (op_mutP e0 r q))
    obtain ⟨ds', rfl, r1, r2⟩ := w
    obtain ⟨O', E', K⟩ := k ds' p.1 r1
    exact ⟨K, r2.mono fun n s _ => K.fz n s, O', E'⟩
theorem sS_pop {i j : Nat} : SimS C' C (.set i (.meth .pop (.var j) .nil)) := fun base st S O denv env E => by
  unfold pex ex
  rcases E.meth (m := .pop) (j := j) (vs := []) .nil with h | ⟨n, hd, h⟩
  · rw [h]
    trivial
  · have e1 : ev C' (.meth .pop (.var j) .nil) denv st = methD .pop (.ref n) [] st := by
      unfold ev
      show (mopt (denv[j]?.bind id) st).bind _ = _
      rw [hd]
      rfl
    show TR _ ((ev C' (.meth .pop (.var j) .nil) denv st).resc denv _) _ _
    rw [e1]
    refine TR.rescP ?_ h
    intro p c st' w
    obtain ⟨K, r, O', E'⟩ := w
    obtain ⟨O2, E2⟩ := E'.setF (i := i) r
    exact TR.ret ⟨S, K, O2, E2⟩
theorem resc_bind {α β γ : Type} (denv : Evr) (g : γ → M (Fl × Evr)) (k : α × Store → T (γ × Store)) : ∀ t : T (α × Store), (t.bind k).resc denv g = T.resc denv (fun (a : α) st => (k (a, st)).resc denv g) t
  | .ret p => rfl
  | .draw n f => by
    show T.draw n _ = T.draw n _
    congr 1
    funext v
    exact resc_bind (β := β) denv g k (f v)
  | .exc x st => rfl
  | .stuck => rfl
theorem own_of {j : Nat} (E : OE base st S denv env O) (h : ownB env j = true) : ∃ n, denv[j]? = some (some (.ref n)) := by
  unfold ownB at h
  split at h
  · rename_i xs hj
    obtain ⟨d, o1, h1, h2, _⟩ := E.er.sl.get hj
    cases h2
    exact ⟨_, h1⟩
  · rename_i xs hj
    obtain ⟨d, o1, h1, h2, _⟩ := E.er.sl.get hj
    cases h2
    exact ⟨_, h1⟩
  · cases h
theorem own_frz {l : List (Nat × Bool)} {j : Nat} (E : OE base st S denv env O) (h : ownB (frz env l) j = true) : ∃ n, denv[j]? = some (some (.ref n)) := by
  obtain ⟨S1, O1, E1, _⟩ := E.frz l
  exact own_of E1 h
theorem ev_recv {j n : Nat} {m : Mth} {es : IEs} (h : denv[j]? = some (some (.ref n))) (hm : m.listB = true) : ev C' (.meth m (.var j) es) denv st = mbind (evs C' es denv) (fun xs => methD m (.ref n) xs) st := by
  rw [ev]
  show (ev C' (.var j) denv st).bind _ = _
  rw [ev]
  show (mopt (denv[j]?.bind id) st).bind _ = _
  rw [h]
  cases m <;> first | rfl | cases hm
theorem sS_meth {m : Mth} {j : Nat} {es : IEs} (h : SimEs C' C es) (E : OE base st S denv env O) : TR (pif (ownB (frz env (escs 2 es)) j && m.listB) ((pevs C es (frz env (escs 2 es))).resc (frz env (escs 2 es)) fun xs => match stored xs with
      | some vs => (mutS m (frz env (escs 2 es)) j vs).bind fun p => .ret (.next, p.2)
      | none => .stuck)) (ex C' (.expr (.meth m (.var j) es)) denv st) (PSR base S st) NoX := by
  refine TR.pifP fun hc => ?_
  obtain ⟨c1, c2⟩ := Bool.and_eq_true_iff.mp hc
  obtain ⟨n, hd⟩ := own_frz E c1
  have e1 : ex C' (.expr (.meth m (.var j) es)) denv st = doE denv (evs C' es denv) (fun xs st1 => T.resc denv (fun _ => mret (.next, denv)) (methD m (.ref n) xs st1)) st := by
    unfold ex doE
    rw [ev_recv hd c2]
    exact resc_bind (β := D) denv _ _ _
  rw [e1]
  refine manyS h E fun S1 O1 b xs ds st1 E1 hl hb hS hO r => ?_
  split
  · rename_i vs hv
    have r' := (stored_of r hv).inG
    have K1 := Kp.more (base := base) (S := S1) (st := st1) (os := []) hb hS hl
    rcases (E1.more [] hb hS hO hl).meth (m := m) (j := j) r' with q | ⟨n', hd', q⟩
    · rw [q]
      trivial
    · rw [hd] at hd'
      cases hd'
      refine TR.rescP (fun p c st' w => ?_) q
      obtain ⟨K, r, O', E'⟩ := w
      exact TR.ret ⟨_, K1.trans K, O', E'⟩
  · trivial
/-- .. of lists: the items' lists are its own too -/
theorem CRs.app : ∀ {ds es : List D} {ts us : List PV} {o1 o2 : List Nat}, CRs st S ds ts o1 → CRs st S es us o2 → CRs st S (ds ++ es) (ts ++ us) (o1 ++ o2)
  | _, _, _, _, _, _, .nil, q => q
  | _, _, _, _, _, _, .own e r rs, q => .own e r (rs.app q)
  | _, _, _, _, _, _, .fz z r rs, q => .fz z r (rs.app q)
theorem CRs.length : ∀ {ds : List D} {ts : List PV} {os : List Nat}, CRs st S ds ts os → ds.length = ts.length
  | _, _, _, .nil => rfl
  | _, _, _, .own e r rs => congrArg (· + 1) rs.length
  | _, _, _, .fz z r rs => congrArg (· + 1) rs.length
theorem CRs.at : ∀ {ds : List D} {ts : List PV} {os : List Nat} {i : Nat} {us : List PV}, CRs st S ds ts os → ts[i]? = some (.lst us) → ∃ m es pre post, ds[i]? = some (.ref m) ∧ os = pre ++ m :: post ∧ st[m]? = some (.lst true es) ∧ RPs st S es us ∧
    ∀ (st' : Store) (S' : Cells), (∀ n, S n → n < st.length → S' n ∧ st'[n]? = st[n]?) → (∀ n ∈ pre ++ post, st'[n]? = st[n]?) → ∀ es' us', st'[m]? = some (.lst true es') → RPs st' S' es' us' → CRs st' S' ds (ts.set i (.lst us')) os
  | _, _, _, i, us, .nil, h => by simp at h
  | _, _, _, 0, us, .own (m := m) (es := es) (os := os) e r rs, h => by
    simp at h
    subst h
    exact ⟨m, es, [], os, rfl, rfl, e, r, fun st' S' a b es' us' e' r' => .own e' r' (rs.mono a b)⟩
  | _, _, _, 0, us, .fz z r rs, h => by
    simp at h
    exact absurd h (z _)
  | _, _, _, i + 1, us, .own (m := m0) e r rs, h => by
    obtain ⟨m, es, pre, post, h1, h2, h3, h4, h5⟩ := rs.at (i := i) (by simpa using h)
    refine ⟨m, es, m0 :: pre, post, by simpa using h1, by rw [h2]; rfl, h3, h4, fun st' S' a b es' us' e' r' => ?_⟩
    exact .own ((b m0 (by simp)).trans e) (r.mono a) (h5 st' S' a (fun n hn => b n (by
      rcases List.mem_append.mp hn with z | z
      · simp [z]
      · simp [z])) es' us' e' r')
  | _, _, _, i + 1, us, .fz z r rs, h => by
    obtain ⟨m, es, pre, post, h1, h2, h3, h4, h5⟩ := rs.at (i := i) (by simpa using h)
    exact ⟨m, es, pre, post, by simpa using h1, h2, h3, h4, fun st' S' a b es' us' e' r' => .fz z (r.mono a) (h5 st' S' a b es' us' e' r')⟩
end
end DI
end
section
set_option maxHeartbeats 1000000
namespace DI
open PySem L2
section
variable {C' : Cfg} {C : PCfg} {S S' S1 F A : Cells} {O O' : List Nat} {base b : Nat} {st st1 st2 st' : Store} {x y : MV} {d e : D} {xs : List MV} {ds : List D} {os : List Nat} {denv : Evr} {env : PEnv}
/-- a value of the list of lists at j changes to a list ds' with items ts', whose own cells are os' -/
theorem OE.mut2 {j : Nat} {xs : List PV} (E : OE base st S denv env O) (hj : env[j]? = some (some (.o2, .lst xs))) : ∃ n ds os, denv[j]? = some (some (.ref n)) ∧ st[n]? = some (.lst true ds) ∧ CRs st S ds xs os ∧ (n :: os).Nodup ∧ (∀ m ∈ n :: os, m ∈ O ∧ base ≤ m ∧ ¬ S m) ∧
    ∀ (st' : Store) (S' : Cells), Kp base S S' st st' → (∀ m, S' m → m < st'.length) → (∀ m ∈ O, m ∉ n :: os → st'[m]? = st[m]?) → (∀ m ∈ O, ¬ S' m) → ∀ (y : MV) (os' : List Nat), VR st' S' (.ref n) y os' → os'.Nodup → (∀ m ∈ os', base ≤ m ∧ ¬ S' m ∧ (m ∈ O → m ∈ n :: os)) →
      ∃ O', OE base st' S' denv (env.set j (some y)) O' := by
  obtain ⟨o1, pre, post, e, h1, h2⟩ := E.put j
  obtain ⟨d, hd, r⟩ := h1 _ hj
  cases r with
  | o2 e0 r =>
    rename_i n ds os
    have nd := E.er.nd
    rw [e] at nd
    obtain ⟨n1, n2, n3⟩ := List.nodup_append.mp nd
    obtain ⟨m1, m2, m3⟩ := List.nodup_append.mp n1
    have inO : ∀ m ∈ n :: os, m ∈ O := fun m hm => by
      rw [e]
      exact List.mem_append_left _ (List.mem_append_right _ hm)
    have ppO : ∀ m ∈ pre ++ post, m ∈ O := fun m hm => by
      rw [e]
      rcases List.mem_append.mp hm with z | z
      · simp [z]
      · simp [z]
    have npp : ∀ m ∈ n :: os, m ∉ pre ++ post := fun m hm z => by
      rcases List.mem_append.mp z with z | z
      · exact m3 m z m hm rfl
      · exact n3 m (List.mem_append_right _ hm) m z rfl
    refine ⟨n, ds, os, hd, e0, r, m2, fun m hm => ⟨inO m hm, E.ge m (inO m hm), E.er.dis m (inO m hm)⟩, fun st' S' K hlt hk hd' y os' r' nd' hos => ?_⟩
    obtain ⟨q, _⟩ := h2 st' S' K hlt (fun m hm => ⟨hk m (ppO m hm) fun z => npp m z hm, hd' m (ppO m hm)⟩)
    obtain ⟨O', q⟩ := q (.ref n) y os' r' nd' fun m hm => ⟨(hos m hm).1, (hos m hm).2.1, fun z => npp m ((hos m hm).2.2 (ppO m z)) z⟩
    rw [set_getSelf hd] at q
    exact ⟨O', q⟩
theorem app_ref {n : Nat} {c : D} (he : st[n]? = some (.lst true ds)) (hc : fits (ds.length + 1) = true) : methD .append (.ref n) [c] st = .ret (.non, st.set n (.lst true (ds ++ [c]))) := by
  unfold methD
  dsimp only
  rw [he]
  dsimp only
  rw [hc]
  rfl
/-- append -/
theorem OE.app {j : Nat} {m : Md} {t : PV} (E : OE base st1 S denv env O) (hb : base ≤ b) (hS : ∀ n, S n → n < b) (hO : ∀ n ∈ O, n < b) (hl : b ≤ st1.length) (r : RES S O b st1 (m, t) d) : appS env j (m, t) = .stuck ∨ ∃ n env' st', denv[j]? = some (some (.ref n)) ∧ appS env j (m, t) = .ret env' ∧
    methD .append (.ref n) [d] st1 = .ret (.non, st') ∧ ∃ S', Kp base S S' st1 st' ∧ ∃ O', OE base st' S' denv env' O' := by
  unfold appS
  split
  · rename_i xs hj
    cases hc : m.stB && fits (xs.length + 1) with
    | false => exact .inl rfl
    | true =>
      obtain ⟨c1, c2⟩ := Bool.and_eq_true_iff.mp hc
      have K1 := Kp.more (base := base) (S := S) (st := st1) (os := []) hb hS hl
      obtain ⟨n, ds, hd, e0, rs, k⟩ := (E.more [] hb hS hO hl).mut hj
      obtain ⟨O', E', K⟩ := k (ds ++ [d]) (xs ++ [t]) (rs.append (.cons (r.sto c1).inG .nil))
      exact .inr ⟨n, _, _, hd, rfl, app_ref e0 (by rw [rs.length]; exact c2), _, K1.trans K, O', E'⟩
  · rename_i xs hj
    cases m <;> first | exact .inl rfl | skip
    cases hc : fits (xs.length + 1) with
    | false => exact .inl rfl
    | true =>
      cases r with
      | bor r h1 h2 => cases h2
      | val r n1 b1 =>
        cases r with
        | o1 e1 r =>
          rename_i m es us
          have bm := b1 m List.mem_cons_self
          have lm := lt_of e1
          obtain ⟨n, ds, os, hd, e0, cr, nd, hos, k⟩ := E.mut2 hj
          have K1 := Kp.more (base := base) (S := S) (st := st1) (os := [m]) hb hS hl
          have lo : ∀ i ∈ n :: os, i < b := fun i hi => hO i (hos i hi).1
          have nSn : ¬ Gr' S b [m] st1 n := fun s => s.1.elim (hos n List.mem_cons_self).2.2 fun z => by have := lo n List.mem_cons_self; omega
          have K2 : Kp base (Gr' S b [m] st1) (Gr' S b [m] st1) st1 (st1.set n (.lst true (ds ++ [.ref m]))) := .wr (hos n List.mem_cons_self).2.1 nSn
          have K := K1.trans K2
          obtain ⟨O', E'⟩ := k (st1.set n (.lst true (ds ++ [.ref m]))) (Gr' S b [m] st1) K (fun i s => by rw [List.length_set]; exact s.2) (fun i hi hn => set_ne' fun z => hn (by rw [z]; exact List.mem_cons_self))
            (fun i hi s => s.1.elim (E.er.dis i hi) fun z => by have := hO i hi; omega) (.o2, .lst (xs ++ [.lst us])) (n :: (os ++ [m]))
            (.o2 (set_eq' (lt_of e0)) (CRs.app (cr.mono (fun i s l => K.fz i s) fun i hi => set_ne' fun z => (List.nodup_cons.mp nd).1 (z ▸ hi)) (.own ((set_ne' (by have := lo n List.mem_cons_self; omega)).trans e1) (r.mono fun i s l => ⟨⟨s, l⟩, set_ne' fun z => by
              subst z
              exact nSn ⟨s, l⟩⟩) .nil)))
            (by
              obtain ⟨a1, a2⟩ := List.nodup_cons.mp nd
              refine List.nodup_cons.mpr ⟨fun z => ?_, List.nodup_append.mpr ⟨a2, List.nodup_cons.mpr ⟨List.not_mem_nil, .nil⟩, fun i hi c hc => ?_⟩⟩
              · rcases List.mem_append.mp z with z | z
                · exact a1 z
                · have := lo n List.mem_cons_self
                  have := List.mem_singleton.mp z
                  omega
              · have := lo i (List.mem_cons_of_mem _ hi)
                rw [List.mem_singleton.mp hc]
                omega)
            (fun i hi => by
              have hcase : i ∈ n :: os ∨ i = m := by
                rcases List.mem_cons.mp hi with z | z
                · exact .inl (by rw [z]; exact List.mem_cons_self)
                · rcases List.mem_append.mp z with z | z
                  · exact .inl (List.mem_cons_of_mem _ z)
                  · exact .inr (List.mem_singleton.mp z)
              rcases hcase with z | z
              · exact ⟨(hos i z).2.1, fun s => s.1.elim (hos i z).2.2 fun w => (by have := lo i z; omega), fun _ => z⟩
              · subst z
                refine ⟨Nat.le_trans hb bm, fun s => s.1.elim (fun w => by have := hS i w; omega) fun w => w.2 List.mem_cons_self, fun w => ?_⟩
                have := hO i w
                omega)
          exact .inr ⟨n, _, _, hd, rfl, app_ref e0 (by rw [cr.length]; exact hc), _, K, O', E'⟩
  · exact .inl rfl
theorem OE.mov {i j : Nat} {e : IE} (E : OE base st S denv env O) (h : movB C env j e = some i) : e = .var i ∧ (movS env j i = .stuck ∨ ∃ n c env' st', denv[j]? = some (some (.ref n)) ∧ denv[i]? = some (some c) ∧ movS env j i = .ret env' ∧
    methD .append (.ref n) [c] st = .ret (.non, st') ∧ Kp base S S st st' ∧ ∃ O', OE base st' S denv env' O') := by
  unfold movB at h
  split at h
  · rename_i i'
    split at h
    · rename_i xs ys hc hj hi
      cases h
      refine ⟨rfl, ?_⟩
      obtain ⟨_, hij⟩ := Bool.and_eq_true_iff.mp hc
      have hij : i ≠ j := of_decide_eq_true hij
      cases hf : fits (xs.length + 1) with
      | false => exact .inl (by unfold movS; rw [hj, hi]; dsimp only; rw [hf]; rfl)
      | true =>
        obtain ⟨o1, pre, post, e, h1, h2⟩ := E.put i
        obtain ⟨c, hdi, r⟩ := h1 _ hi
        have ppO : ∀ m ∈ pre ++ post, m ∈ O := fun m hm => by
          rw [e]
          rcases List.mem_append.mp hm with z | z
          · simp [z]
          · simp [z]
        obtain ⟨_, O1, E1, s1⟩ := h2 st S .refl E.er.lt fun m hm => ⟨rfl, E.er.dis m (ppO m hm)⟩
        cases r with
        | o1 e1 r =>
          rename_i m es
          have mO : m ∈ O := by rw [e]; simp
          have mO1 : m ∉ O1 := fun z => by
            have nd := E.er.nd
            rw [e] at nd
            obtain ⟨n1, n2, n3⟩ := List.nodup_append.mp nd
            obtain ⟨m1, m2, m3⟩ := List.nodup_append.mp n1
            rcases List.mem_append.mp (s1.subset z) with z | z
            · exact m3 m z m List.mem_cons_self rfl
            · exact n3 m (by simp) m z rfl
          have hj' : (env.set i none)[j]? = some (some (.o2, .lst xs)) := by rw [List.getElem?_set_ne hij]; exact hj
          obtain ⟨n, ds, os, hd, e0, cr, nd, hos, k⟩ := E1.mut2 hj'
          have hmn : m ∉ n :: os := fun z => mO1 (hos m z).1
          have K : Kp base S S st (st.set n (.lst true (ds ++ [.ref m]))) := .wr (hos n List.mem_cons_self).2.1 (hos n List.mem_cons_self).2.2
          obtain ⟨O', E'⟩ := k (st.set n (.lst true (ds ++ [.ref m]))) S K (fun i s => by rw [List.length_set]; exact E.er.lt i s) (fun i hi hn => set_ne' fun z => hn (by rw [z]; exact List.mem_cons_self))
            (fun i hi => E1.er.dis i hi) (.o2, .lst (xs ++ [.lst ys])) (n :: (os ++ [m]))
            (.o2 (set_eq' (lt_of e0)) (CRs.app (cr.mono (fun i s l => K.fz i s) fun i hi => set_ne' fun z => (List.nodup_cons.mp nd).1 (z ▸ hi)) (.own ((set_ne' fun z => hmn (by rw [z]; exact List.mem_cons_self)).trans e1) (r.mono fun i s l => K.fz i s) .nil)))
            (by
              obtain ⟨a1, a2⟩ := List.nodup_cons.mp nd
              refine List.nodup_cons.mpr ⟨fun z => ?_, List.nodup_append.mpr ⟨a2, List.nodup_cons.mpr ⟨List.not_mem_nil, .nil⟩, fun i hi c hc => ?_⟩⟩
              · rcases List.mem_append.mp z with z | z
                · exact a1 z
                · exact hmn (by rw [List.mem_singleton.mp z]; exact List.mem_cons_self)
              · rw [List.mem_singleton.mp hc]
                intro z
                exact hmn (z ▸ List.mem_cons_of_mem _ hi))
            (fun i hi => by
              have hcase : i ∈ n :: os ∨ i = m := by
                rcases List.mem_cons.mp hi with z | z
                · exact .inl (by rw [z]; exact List.mem_cons_self)
                · rcases List.mem_append.mp z with z | z
                  · exact .inl (List.mem_cons_of_mem _ z)
                  · exact .inr (List.mem_singleton.mp z)
              rcases hcase with z | z
              · exact ⟨(hos i z).2.1, (hos i z).2.2, fun _ => z⟩
              · subst z
                exact ⟨E.ge i mO, E.er.dis i mO, fun w => absurd w mO1⟩)
          exact .inr ⟨n, .ref m, _, _, hd, hdi, by unfold movS; rw [hj, hi]; dsimp only; rw [hf]; rfl, app_ref e0 (by rw [cr.length]; exact hf), K, O', E'⟩
    · cases h
  · cases h
theorem sS_append {j : Nat} {a : IE} (h : SimE C' C a) : SimS C' C (.expr (.meth .append (.var j) (.cons a .nil))) := fun base st S O denv env E => by
  unfold pex
  split
  · rename_i i hm
    obtain ⟨rfl, q | ⟨n, c, env', st', hd, hi, e1, e2, K, O', E'⟩⟩ := E.mov hm
    · rw [q]
      trivial
    · rw [e1]
      have e3 : ex C' (.expr (.meth .append (.var j) (.cons (.var i) .nil))) denv st = .ret ((.next, denv), st') := by
        unfold ex doE
        rw [ev_recv hd rfl]
        show T.resc denv _ ((evs C' (.cons (.var i) .nil) denv st).bind _) = _
        rw [evs]
        show T.resc denv _ (((ev C' (.var i) denv st).bind _).bind _) = _
        rw [ev]
        show T.resc denv _ (((mopt (denv[i]?.bind id) st).bind _).bind _) = _
        rw [hi]
        show T.resc denv _ (methD .append (.ref n) [c] st) = _
        rw [e2]
        rfl
      rw [e3]
      exact TR.ret ⟨S, K, O', E'⟩
  · refine TR.pifP fun hc => ?_
    obtain ⟨n, hd⟩ := own_frz E hc
    have e1 : ex C' (.expr (.meth .append (.var j) (.cons a .nil))) denv st = doE denv (ev C' a denv) (fun c st1 => T.resc denv (fun _ => mret (.next, denv)) (methD .append (.ref n) [c] st1)) st := by
      unfold ex doE
      rw [ev_recv hd rfl]
      show T.resc denv _ ((evs C' (.cons a .nil) denv st).bind _) = _
      rw [evs]
      show T.resc denv _ (((ev C' a denv st).bind _).bind _) = _
      rw [resc_bind (β := D), resc_bind (β := D)]
      congr 1
    rw [e1]
    refine oneS h E fun S1 O1 b x d st1 E1 hl hb hS hO r => ?_
    obtain ⟨m, t⟩ := x
    rcases E1.app (j := j) hb hS hO hl r with q | ⟨n', env', st', hd', q1, q2, S', K, O', E'⟩
    · rw [q]
      trivial
    · rw [hd] at hd'
      cases hd'
      rw [q1, q2]
      exact TR.ret ⟨S', K, O', E'⟩
end
end DI
end
section
set_option maxHeartbeats 1000000
namespace DI
open PySem L2
section
variable {C' : Cfg} {C : PCfg} {S S' S1 F A : Cells} {O O' : List Nat} {base b : Nat} {st st1 st2 st' : Store} {x y : MV} {d e : D} {xs : List MV} {ds : List D} {os : List Nat} {denv : Evr} {env : PEnv}
theorem ch2_of {j nn : Nat} {k : PV} {ys : List PV} (h : ch2 env j k = some (nn, ys)) : ∃ xs kk, k = .int kk ∧ env[j]? = some (some (.o2, .lst xs)) ∧ ixN xs.length kk = some nn ∧ xs[nn]? = some (.lst ys) := by
  unfold ch2 at h
  split at h
  · rename_i xs kk hj
    split at h
    · rename_i n hn
      split at h
      · rename_i ys' hy
        cases h
        exact ⟨xs, kk, rfl, hj, hn, hy⟩
      · cases h
    · cases h
  · cases h
theorem OE.app2 {j nn : Nat} {t : PV} {ys xs : List PV} (E : OE base st1 S denv env O) (hj : env[j]? = some (some (.o2, .lst xs))) (hx : xs[nn]? = some (.lst ys)) (hb : base ≤ b) (hS : ∀ n, S n → n < b) (hO : ∀ n ∈ O, n < b) (hl : b ≤ st1.length) (hf : fits (ys.length + 1) = true)
    (r : RP st1 (Fr S b []) d t) : ∃ n ds m, denv[j]? = some (some (.ref n)) ∧ st1[n]? = some (.lst true ds) ∧ ds.length = xs.length ∧ ds[nn]? = some (.ref m) ∧ ∃ st', methD .append (.ref m) [d] st1 = .ret (.non, st') ∧ ∃ S', Kp base S S' st1 st' ∧ ∃ O', OE base st' S' denv (env.set j (some (.o2, .lst (xs.set nn (.lst (ys ++ [t])))))) O' := by
  obtain ⟨n, ds, os, hd, e0, cr, nd, hos, k⟩ := E.mut2 hj
  have K1 := Kp.more (base := base) (S := S) (st := st1) (os := []) hb hS hl
  obtain ⟨m, es, pre, post, c1, c2, c3, c4, c5⟩ := cr.at hx
  have lo : ∀ i ∈ n :: os, i < b := fun i hi => hO i (hos i hi).1
  have hm : m ∈ n :: os := by rw [c2]; simp
  have nS : ∀ i ∈ O, ¬ Gr' S b [] st1 i := fun i hi s => s.1.elim (E.er.dis i hi) fun z => by have := hO i hi; omega
  have hmO := (hos m hm).1
  have K2 : Kp base (Gr' S b [] st1) (Gr' S b [] st1) st1 (st1.set m (.lst true (es ++ [d]))) := .wr (hos m hm).2.1 (nS m hmO)
  have hnm : n ≠ m := fun z => (List.nodup_cons.mp nd).1 (by rw [c2, z]; simp)
  have ndo := (List.nodup_cons.mp nd).2
  rw [c2] at ndo
  have old : ∀ i, S i → i ≠ m := fun i s z => (hos m hm).2.2 (z ▸ s)
  have new : ∀ i, Fr S b [] i → i < st1.length → i ≠ m := fun i s l z => nS m hmO (z ▸ ⟨s, l⟩)
  have r2 : RPs (st1.set m (.lst true (es ++ [d]))) (Gr' S b [] st1) (es ++ [d]) (ys ++ [t]) :=
    RPs.append (c4.mono fun i s l => ⟨(K1.fz i s).1, set_ne' (old i s)⟩) (.cons (r.mono fun i s l => ⟨⟨s, l⟩, set_ne' (new i s l)⟩) .nil)
  have cr' := c5 (st1.set m (.lst true (es ++ [d]))) (Gr' S b [] st1) (fun i s l => ⟨(K1.fz i s).1, set_ne' (old i s)⟩) (fun i hi => set_ne' fun z => by
    subst z
    obtain ⟨n1, n2, n3⟩ := List.nodup_append.mp ndo
    rcases List.mem_append.mp hi with w | w
    · exact n3 i w i List.mem_cons_self rfl
    · exact (List.nodup_cons.mp n2).1 w) (es ++ [d]) (ys ++ [t]) (set_eq' (lt_of c3)) r2
  obtain ⟨O', E'⟩ := k (st1.set m (.lst true (es ++ [d]))) (Gr' S b [] st1) (K1.trans K2) (fun i s => by rw [List.length_set]; exact s.2) (fun i hi hn => set_ne' fun z => hn (z ▸ hm)) nS (.o2, .lst (xs.set nn (.lst (ys ++ [t])))) (n :: os)
    (.o2 ((set_ne' hnm).trans e0) cr') nd (fun i hi => ⟨(hos i hi).2.1, nS i (hos i hi).1, fun _ => hi⟩)
  exact ⟨n, ds, m, hd, e0, cr.length, c1, _, app_ref c3 (by rw [c4.length]; exact hf), _, K1.trans K2, O', E'⟩
theorem sS_app2 {j : Nat} {i a : IE} (hi : SimE C' C i) (h : SimE C' C a) : SimS C' C (.expr (.meth .append (.ix (.var j) i) (.cons a .nil))) := fun base st S O denv env E => by
  unfold pex
  refine TR.pifP fun hc => ?_
  obtain ⟨n, hd⟩ := own_frz E hc
  have e1 : ex C' (.expr (.meth .append (.ix (.var j) i) (.cons a .nil))) denv st = doE denv (ev C' i denv) (fun k st1 => T.resc denv (fun _ => mret (.next, denv)) ((ixD (.ref n) k st1).bind fun p => mif (recvOk .append p.1) (mbind (evs C' (.cons a .nil) denv) fun xs => methD .append p.1 xs) p.2)) st := by
    unfold ex doE
    rw [ev]
    show T.resc denv _ ((ev C' (.ix (.var j) i) denv st).bind _) = _
    rw [ev]
    show T.resc denv _ (((ev C' (.var j) denv st).bind _).bind _) = _
    rw [ev]
    show T.resc denv _ (((mopt (denv[j]?.bind id) st).bind _).bind _) = _
    rw [hd]
    show T.resc denv _ (((ev C' i denv st).bind _).bind _) = _
    rw [resc_bind (β := D)]
    have two : ∀ (t : T (D × Store)) (f g : D × Store → T (D × Store)) (k : D → M (Fl × Evr)), T.resc denv (fun (a : D) st => ((g (a, st))).resc denv k) (t.bind f) = T.resc denv (fun (a : D) st => ((f (a, st)).bind g).resc denv k) t := by
      intro t f g k
      rw [resc_bind (β := D)]
      congr 1
      funext a st
      rw [resc_bind (β := D)]
    exact two (ev C' i denv st) (fun p => ixD (.ref n) p.1 p.2) (fun p => mif (recvOk .append p.1) (mbind (evs C' (.cons a .nil) denv) fun xs => methD .append p.1 xs) p.2) (fun _ => mret (.next, denv))
  rw [e1]
  refine oneS hi E fun S1 O1 b k dk st1 E1 hl hb hS hO r => ?_
  obtain ⟨mk, tk⟩ := k
  split
  · trivial
  · rename_i nn ys hch
    obtain ⟨xs, kk, hk, hj, hn, hx⟩ := ch2_of hch
    have hk : tk = .int kk := hk
    subst hk
    obtain rfl := r.int
    -- the item, ahead of the value
    have item : ∃ ds m, st1[n]? = some (.lst true ds) ∧ atI ds kk = some (.ref m) := by
      obtain ⟨n', ds, os, hd', e0, cr, _⟩ := E1.mut2 hj
      rw [hd] at hd'
      cases hd'
      obtain ⟨m, es, pre, post, c1, _⟩ := cr.at hx
      refine ⟨ds, m, e0, ?_⟩
      unfold atI
      rw [cr.length, hn]
      exact c1
    obtain ⟨ds, m, e0, hat⟩ := item
    have e2 : ixD (.ref n) (.int kk) st1 = .ret (.ref m, st1) := by
      unfold ixD itemsD
      dsimp only
      rw [e0]
      dsimp only
      rw [hat]
      rfl
    rw [e2]
    have e3 : T.resc denv (fun _ => mret (.next, denv)) ((T.ret (D.ref m, st1)).bind fun p => mif (recvOk .append p.1) (mbind (evs C' (.cons a .nil) denv) fun xs => methD .append p.1 xs) p.2) =
        doE denv (ev C' a denv) (fun c st2 => T.resc denv (fun _ => mret (.next, denv)) (methD .append (.ref m) [c] st2)) st1 := by
      show T.resc denv _ ((evs C' (.cons a .nil) denv st1).bind _) = _
      rw [evs]
      show T.resc denv _ (((ev C' a denv st1).bind _).bind _) = _
      rw [resc_bind (β := D), resc_bind (β := D)]
      rfl
    rw [e3]
    refine oneS0 h E1 fun b2 x d st2 E2 hl2 hb2 hS2 hO2 g2 r2 => ?_
    obtain ⟨m2, t2⟩ := x
    refine TR.stP fun hs => ?_
    unfold app2S
    rw [hj]
    dsimp only
    cases hf : fits (ys.length + 1) with
    | false => trivial
    | true =>
    obtain ⟨n', ds', m', hd', e0', hlen, c1, st', e4, S', K, O', E'⟩ := E2.app2 hj hx hb2 hS2 hO2 hl2 hf (r2.sto hs)
    rw [hd] at hd'
    cases hd'
    have e5 : ds' = ds := by
      obtain ⟨g, rfl⟩ := g2
      have := (app_lt (g := g) (lt_of e0)).trans e0
      rw [this] at e0'
      cases e0'
      rfl
    subst e5
    have e6 : m' = m := by
      unfold atI at hat
      rw [hlen, hn] at hat
      have hat : ds'[nn]? = some (.ref m) := hat
      rw [c1] at hat
      cases hat
      rfl
    subst e6
    rw [e4]
    exact TR.ret ⟨S', K, O', E'⟩
theorem sS_setSub {j : Nat} {i a : IE} (hi : SimE C' C i) (h : SimE C' C a) : SimS C' C (.setSub (.var j) i a) := fun base st S O denv env E => by
  unfold pex
  refine TR.pifP fun hc => ?_
  obtain ⟨n, hd⟩ := own_frz E hc
  have e1 : ex C' (.setSub (.var j) i a) denv st = doE denv (ev C' a denv) (fun v => doE denv (ev C' i denv) (fun k st1 => T.resc denv (fun _ => mret (.next, denv)) (setSubD (.ref n) k v st1))) st := by
    unfold ex doE
    show T.resc denv _ ((ev C' a denv st).bind _) = _
    rw [resc_bind (β := D)]
    congr 1
    funext v st1
    show T.resc denv _ ((ev C' (.var j) denv st1).bind _) = _
    rw [ev]
    show T.resc denv _ ((mopt (denv[j]?.bind id) st1).bind _) = _
    rw [hd]
    show T.resc denv _ ((ev C' i denv st1).bind _) = _
    rw [resc_bind (β := D)]
  rw [e1]
  refine oneS h E fun S1 O1 b x d st1 E1 hl hb hS hO r => ?_
  obtain ⟨m, t⟩ := x
  refine TR.stP fun hs => ?_
  have K1 := Kp.more (base := base) (S := S1) (st := st1) (os := []) hb hS hl
  have r1 := (r.sto hs).inG
  refine TR.mono (fun _ _ _ w => PSR.of K1 w) (fun _ w => w) (oneS0 hi (E1.more [] hb hS hO hl) fun b2 k dk st2 E2 hl2 hb2 hS2 hO2 g2 r2 => ?_)
  obtain ⟨mk, tk⟩ := k
  unfold setSubS
  split
  · rename_i xs kk hj hk
    have hk : tk = .int kk := hk
    subst hk
    obtain rfl := r2.int
    obtain ⟨n', ds, hd', e0, rs, k⟩ := E2.mut hj
    rw [hd] at hd'
    cases hd'
    unfold setSubD
    dsimp only
    rw [e0]
    dsimp only
    rw [rs.length]
    cases hx : ixN xs.length kk with
    | none => trivial
    | some p =>
      obtain ⟨O', E', K⟩ := k (ds.set p d) (xs.set p t) (rs.set (by
        obtain ⟨g, rfl⟩ := g2
        exact r1.app g) p)
      exact TR.ret ⟨_, K, O', E'⟩
  · trivial
theorem sS_aug {i : Nat} {op : Operator} {a : IE} (h : SimE C' C a) : SimS C' C (.aug i op a) := fun base st S O denv env E => by
  rw [show pex C (.aug i op a) env = (popt (varP (frz env (esc 0 a)) i)).bind fun x => (pev C a (frz env (esc 0 a))).resc (frz env (esc 0 a)) fun y => (augP op x.2 y.2).bind fun z => .ret (.next, (frz env (esc 0 a)).set i (some (.fz, z))) from by rw [pex]]
  cases hv : varP (frz env (esc 0 a)) i with
  | none => trivial
  | some x =>
    obtain ⟨S0, O0, E0, K0⟩ := E.frz (esc 0 a)
    obtain ⟨d0, hd0, r0⟩ := E0.er.var hv
    have e1 : ex C' (.aug i op a) denv st = doE denv (ev C' a denv) (fun y st1 => T.resc denv (fun z => mret (.next, denv.set i (some z))) (augD op d0 y st1)) st := by
      unfold ex doE
      show T.resc denv _ ((mopt (denv[i]?.bind id) st).bind _) = _
      rw [hd0]
      show T.resc denv _ ((ev C' a denv st).bind _) = _
      rw [resc_bind (β := D)]
    rw [e1]
    have rx := r0.any
    refine oneS h E fun S1 O1 b y d st1 E1 hl hb hS hO r => ?_
    obtain ⟨m, t⟩ := x
    obtain ⟨m', t'⟩ := y
    have fin : ∀ (z : PV) (c : D), RP st1 S1 c z → TR (PT.ret (PFl.next, (frz env (esc 0 a)).set i (some (Md.fz, z)))) (T.ret ((Fl.next, denv.set i (some c)), st1)) (PSR base S1 st1) NoX := fun z c r => by
      obtain ⟨O2, E2⟩ := E1.setF (i := i) r
      exact TR.ret ⟨S1, .refl, O2, E2⟩
    cases op <;> first | exact trivial | skip
    · cases t <;> first | exact trivial | skip
      · cases t' <;> first | exact trivial | skip
        obtain rfl := r0.int
        obtain rfl := r.int
        exact fin _ _ (.int _)
      · cases t' <;> first | exact trivial | skip
        obtain rfl := r0.str
        obtain rfl := r.str
        rename_i p q
        show TR ((pif (fits (p.length + q.length)) _).bind _) (T.resc denv _ (mif (fits (p.length + q.length)) _ st1)) _ _
        cases hc : fits (p.length + q.length) with
        | false => trivial
        | true => exact fin _ _ (.str _)
    · cases t <;> first | exact trivial | skip
      cases t' <;> first | exact trivial | skip
      obtain rfl := r0.int
      obtain rfl := r.int
      exact fin _ _ (.int _)
    · cases t <;> first | exact trivial | skip
      cases t' <;> first | exact trivial | skip
      obtain rfl := r0.int
      obtain rfl := r.int
      rename_i p q
      show TR ((pif (mulOk p q) _).bind _) (T.resc denv _ (mif (mulOk p q) _ st1)) _ _
      cases hc : mulOk p q with
      | false => trivial
      | true => exact fin _ _ (.int _)
/-! ### loops -/
theorem for_sim {body : ISs} {tg : ITg} {pl : Pl} (hb : SimSs C' C body) {st0 : Store} {S0 F A : Cells} {ts : List PV}
    (hp : ∀ st' : Store, (∀ n, A n → n < st0.length → st'[n]? = st0[n]?) → plEnd st' pl = true ∧ ∀ (i : Nat) (t : PV), ts[i]? = some t → ∃ d, plItem st' pl i = some d ∧ RP st0 F d t)
    (hA : ∀ n, A n → n < st0.length → S0 n) (hF : ∀ n, F n → n < st0.length → S0 n) : ∀ (m i : Nat) (base : Nat) (st : Store) (S : Cells) (O : List Nat) (denv : Evr) (env : PEnv), i + m = ts.length → Kp base S0 S st0 st → OE base st S denv env O →
    TR (forP (pexs C body) tg (ts.drop i) env) (forLoop (exs C' body) tg pl m i denv st) (PSR base S st) NoX
  | 0, i, base, st, S, O, denv, env, hi, K, E => by
    rw [List.drop_of_length_le (by omega)]
    show TR (.ret (PFl.next, env)) (mif (plEnd st pl) (mret (Fl.next, denv)) st) _ _
    rw [(hp st fun n a l => (K.fz n (hA n a l)).2).1]
    exact TR.ret ⟨S, .refl, O, E⟩
  | m + 1, i, base, st, S, O, denv, env, hi, K, E => by
    have h1 : i < ts.length := by omega
    rw [List.drop_eq_getElem_cons h1]
    obtain ⟨d, e1, r⟩ := (hp st fun n a l => (K.fz n (hA n a l)).2).2 i ts[i] (List.getElem?_eq_getElem h1)
    unfold forP forLoop
    rw [e1]
    dsimp only
    cases hbd : bindP tg ts[i] env with
    | none => trivial
    | some env1 =>
      obtain ⟨denv1, O1, e2, E1⟩ := E.bind (r.mono fun n s l => K.fz n (hF n s l)) hbd
      rw [e2]
      dsimp only
      refine TR.bind (fun _ h => h) (fun p q st1 w => ?_) (hb base st S O1 denv1 env1 E1)
      obtain ⟨S', K', w⟩ := w
      obtain ⟨fp, envp⟩ := p
      obtain ⟨fq, envq⟩ := q
      cases fp <;> cases fq <;> first | exact w.elim | skip
      · obtain ⟨O', E'⟩ := w
        exact TR.mono (fun _ _ _ h => PSR.of K' h) (fun _ h => h) (for_sim hb hp hA hF m (i + 1) base st1 S' O' envq envp (by omega) (K.trans K') E')
      · exact TR.ret ⟨S', K', w⟩
      · obtain ⟨O', E'⟩ := w
        exact TR.mono (fun _ _ _ h => PSR.of K' h) (fun _ h => h) (for_sim hb hp hA hF m (i + 1) base st1 S' O' envq envp (by omega) (K.trans K') E')
      · exact TR.ret ⟨S', K', w⟩
      · exact TR.ret ⟨S', K', w⟩
theorem sS_for {tg : ITg} {it : IIt} {body : ISs} (hi : SimI C' C it) (hb : SimSs C' C body) : SimS C' C (.for tg it body) := fun base st S O denv env E => by
  obtain ⟨S1, O1, E1, K1⟩ := E.frz (escIt 2 it)
  unfold pex ex
  have key := TR.resc (f := fun xs => forP (pexs C body) tg xs (frz env (escIt 2 it))) (g := fun pl => forLoop (exs C' body) tg pl (plLen pl) 0 denv) E1 (fun ts pl st1 q => by
    obtain ⟨g, hl, hp⟩ := q
    have K2 := Kp.grow E1.bl E1.er.lt g
    have E2 := E1.gr g
    have K3 := Kp.more (base := base) (S := S1) (st := st1) (os := []) E1.bl E1.er.lt (gr_len g)
    have E3 := E2.more (b := st.length) [] E1.bl E1.er.lt E1.er.sl.ltO (gr_len g)
    rw [hl]
    refine TR.mono (fun _ _ _ h => PSR.of (K2.trans K3) h) (fun _ h => h) ?_
    have q := for_sim (tg := tg) (pl := pl) (ts := ts) hb (S0 := Gr' S1 st.length [] st1) hp (fun n a l => by
      rcases a with a | a
      · exact ⟨a, l⟩
      · cases a.1) (fun n s l => ⟨s, l⟩) ts.length 0 base st1 _ O1 denv _ (Nat.zero_add _) .refl E3
    rw [List.drop_zero] at q
    exact q) (hi false st S1 O1 denv _ E1.er)
  exact TR.mono (fun _ _ _ h => PSR.of K1 h) (fun _ h => h) key
theorem while_sim {c : IE} {body : ISs} (hc : SimE C' C c) (hb : SimSs C' C body) : ∀ (r : Nat) (base : Nat) (st : Store) (S : Cells) (O : List Nat) (denv : Evr) (env : PEnv), OE base st S denv env O →
    TR (whileP (fun env => (pev C c env).bind fun x => truthP x.2) (pexs C body) r env) (whileLoop (fun env => mbind (ev C' c env) truthD) (exs C' body) r denv st) (PSR base S st) NoX
  | 0, base, st, S, O, denv, env, E => trivial
  | r + 1, base, st, S, O, denv, env, E => by
    unfold whileP whileLoop
    refine TR.resc (R := fun a c st' => a = c ∧ ∃ g, st' = st ++ g) E (fun k k' st1 q => ?_) (sim_o_some hc st S O denv env E.er).2
    obtain ⟨rfl, g⟩ := q
    have K2 := Kp.grow E.bl E.er.lt g
    cases k with
    | false => exact TR.ret ⟨S, K2, O, E.gr g⟩
    | true =>
      refine TR.bind (fun _ h => h) (fun p q st2 w => ?_) (hb base st1 S O denv env (E.gr g))
      obtain ⟨S', K', w⟩ := w
      obtain ⟨fp, envp⟩ := p
      obtain ⟨fq, envq⟩ := q
      have K := K2.trans K'
      cases fp <;> cases fq <;> first | exact w.elim | skip
      · obtain ⟨O', E'⟩ := w
        exact TR.mono (fun _ _ _ h => PSR.of K h) (fun _ h => h) (while_sim hc hb r base st2 S' O' envq envp E')
      · exact TR.ret ⟨S', K, w⟩
      · obtain ⟨O', E'⟩ := w
        exact TR.mono (fun _ _ _ h => PSR.of K h) (fun _ h => h) (while_sim hc hb r base st2 S' O' envq envp E')
      · exact TR.ret ⟨S', K, w⟩
      · exact TR.ret ⟨S', K, w⟩
theorem sS_while {c : IE} {body : ISs} (hc : SimE C' C c) (hb : SimSs C' C body) : SimS C' C (.while c body) := fun base st S O denv env E => by
  obtain ⟨S1, O1, E1, K1⟩ := E.frz (esc 0 c)
  unfold pex ex
  exact TR.mono (fun _ _ _ h => PSR.of K1 h) (fun _ h => h) (while_sim hc hb turns base st S1 O1 denv _ E1)
end
end DI
end
section
set_option maxHeartbeats 1000000
namespace DI
open PySem L2
section
variable {C' : Cfg} {C : PCfg} {S S' S1 F A : Cells} {O O' : List Nat} {base b : Nat} {st st1 st2 st' : Store} {x y : MV} {d e : D} {xs : List MV} {ds : List D} {os : List Nat} {denv : Evr} {env : PEnv}
theorem sS_setA (H : CS C' C) (i : Nat) (a : IE) : SimS C' C (.set i a) := by
  by_cases h : ∃ j, a = .meth .pop (.var j) .nil
  · obtain ⟨j, rfl⟩ := h
    exact sS_pop
  · exact sS_set (sim_e H a) fun j hj => h ⟨j, hj⟩
theorem sS_expr (H : CS C' C) (a : IE) : SimS C' C (.expr a) := by
  by_cases h1 : ∃ j e, a = .meth .append (.var j) (.cons e .nil)
  · obtain ⟨j, e, rfl⟩ := h1
    exact sS_append (sim_e H e)
  by_cases h2 : ∃ j i e, a = .meth .append (.ix (.var j) i) (.cons e .nil)
  · obtain ⟨j, i, e, rfl⟩ := h2
    exact sS_app2 (sim_e H i) (sim_e H e)
  by_cases h3 : ∃ m j es, a = .meth m (.var j) es
  · obtain ⟨m, j, es, rfl⟩ := h3
    intro base st S O denv env E
    have q := sS_meth (m := m) (j := j) (sim_es H es) E
    rw [pex]
    · exact q
    · intro e hm he
      exact h1 ⟨j, e, by rw [hm, he]⟩
  · intro base st S O denv env E
    rw [pex]
    · exact sS_expr0 (sim_e H a) E
    · intro j e he
      exact h1 ⟨j, e, he⟩
    · intro j i e he
      exact h2 ⟨j, i, e, he⟩
    · intro m j es he
      exact h3 ⟨m, j, es, he⟩
theorem sS_setSubA (H : CS C' C) (o i a : IE) : SimS C' C (.setSub o i a) := by
  by_cases h : ∃ j, o = .var j
  · obtain ⟨j, rfl⟩ := h
    exact sS_setSub (sim_e H i) (sim_e H a)
  · intro base st S O denv env E
    rw [pex]
    · trivial
    · intro j hj
      exact h ⟨j, hj⟩
mutual
theorem sim_s (H : CS C' C) : ∀ s : IS, SimS C' C s
  | .set i a => sS_setA H i a
  | .setT ts a => sS_setT (sim_e H a)
  | .setSub o i a => sS_setSubA H o i a
  | .aug i op a => sS_aug (sim_e H a)
  | .expr a => sS_expr H a
  | .ret a => sS_ret (sim_e H a)
  | .ite c a b => sS_ite (sim_e H c) (sim_ss H a) (sim_ss H b)
  | .for tg it body => sS_for (sim_it H it) (sim_ss H body)
  | .while c body => sS_while (sim_e H c) (sim_ss H body)
  | .par ts es => sS_par (sim_es H es)
  | .pass => fun base st S O denv env E => by unfold pex ex; exact TR.ret ⟨S, .refl, O, E⟩
  | .brk => fun base st S O denv env E => by unfold pex ex; exact TR.ret ⟨S, .refl, O, E⟩
  | .cont => fun base st S O denv env E => by unfold pex ex; exact TR.ret ⟨S, .refl, O, E⟩
theorem sim_ss (H : CS C' C) : ∀ s : ISs, SimSs C' C s
  | .nil => sSs_nil
  | .cons s ss => sSs_cons (sim_s H s) (sim_ss H ss)
end
theorem start_er : ∀ {ds : List D} {vs : List PV} (n : Nat), RPs st S ds vs → SRs st S (ds.map some ++ List.replicate n none) (vs.map (fun v => some (.fz, v)) ++ List.replicate n none) []
  | _, _, 0, .nil => .nil
  | _, _, n + 1, .nil => .dead (start_er n .nil)
  | _, _, n, .cons r rs => .live (o1 := []) (.fz r) (start_er n rs)
theorem run_sim (F : Tab) (Hn : Hint) : ∀ (k : Nat) (f : Str) (ds : List D) (vs : List PV) (S : Cells) (st : Store), (∀ n, S n → n < st.length) → RPs st S ds vs →
    TR (prun F Hn k f vs) (run F k f ds st) (fun x d st' => (∃ g, st' = st ++ g) ∧ RV S st.length st' x d) (Gx st)
  | 0, f, ds, vs, S, st, hS, r => trivial
  | k + 1, f, ds, vs, S, st, hS, r => by
    have H : CS ⟨run F k, kordT F⟩ ⟨prun F Hn k, kordT F, (Hn f).1, (Hn f).2⟩ := ⟨rfl, fun f ds vs S st hS r => run_sim F Hn k f ds vs S st hS r⟩
    unfold prun run
    cases hf : F.lookup f with
    | none => trivial
    | some fn =>
      cases fn with
      | code ps n body =>
        dsimp only
        rw [r.length]
        cases hl : decide (vs.length = ps.length) with
        | false => trivial
        | true =>
          have E : OE st.length st S (ds.map some ++ List.replicate (n - vs.length) none) (vs.map (fun v => some (.fz, v)) ++ List.replicate (n - vs.length) none) [] :=
            ⟨⟨start_er _ r, .nil, (fun n hn => by cases hn), hS⟩, (fun n hn => by cases hn), Nat.le_refl _⟩
          refine TR.bind (X := NoX) (fun _ h => h.elim) (fun p q st1 w => ?_) (sim_ss H body st.length st S [] _ _ E).nox
          obtain ⟨S', K, w⟩ := w
          have g : ∃ g, st1 = st ++ g := by
            refine ⟨st1.drop st.length, ?_⟩
            conv => lhs; rw [← List.take_append_drop st.length st1]
            congr 1
            apply List.ext_getElem?
            intro i
            by_cases hi : i < st.length
            · rw [List.getElem?_take_of_lt hi]
              exact K.keep i hi
            · rw [List.getElem?_eq_none_iff.mpr (by rw [List.length_take]; omega), List.getElem?_eq_none_iff.mpr (by omega)]
          obtain ⟨fp, envp⟩ := p
          obtain ⟨fq, envq⟩ := q
          cases fp <;> cases fq <;> first | exact w.elim | exact trivial | skip
          · exact TR.ret ⟨g, [], .fz .non, .nil, fun n hn => by cases hn⟩
          · obtain ⟨os, w1, w2, w3⟩ := w
            exact TR.ret ⟨g, os, w1.sub fun n s l => (K.sub n s).imp id fun z => ⟨z, fun hn => (w3 n hn).2 s⟩, w2, fun n hn => (w3 n hn).1⟩
          · obtain ⟨rfl, w⟩ := w
            exact ⟨_, rfl, g⟩
      | draw =>
        cases r with
        | nil => trivial
        | cons r rs =>
          cases r <;> first | trivial | skip
          rename_i e
          cases rs with
          | nil => trivial
          | cons r rs =>
            cases r <;> first | exact trivial | skip
            cases rs with
            | cons _ _ => trivial
            | nil =>
              dsimp only
              rw [e]
              dsimp only
              split
              · rename_i h
                try rw [h]
                exact ⟨_, rfl, fun v => TR.ret ⟨⟨[], (List.append_nil _).symm⟩, [], .fz (.int _), .nil, fun n hn => by cases hn⟩⟩
              · trivial
      | box =>
        cases r with
        | nil => trivial
        | cons r rs =>
          cases r <;> first | trivial | skip
          rename_i ns s e
          cases rs with
          | nil => trivial
          | cons r rs =>
            cases r <;> first | exact trivial | skip
            cases rs with
            | cons _ _ => trivial
            | nil =>
              dsimp only
              rw [e]
              dsimp only
              have hi : intsD (ns.map D.int) = some ns := by
                clear e
                induction ns with
                | nil => rfl
                | cons n ns ih =>
                  show (intsD (ns.map D.int)).map (n :: ·) = _
                  rw [ih]
                  rfl
              rw [hi]
              split
              · rename_i h
                try rw [h]
                exact TR.ret ⟨⟨_, rfl⟩, [], .fz (.rng (.inr ⟨Nat.le_refl _, List.not_mem_nil⟩) (get_last _ _)), .nil, fun n hn => by cases hn⟩
              · trivial
/-- the law, over trees -/
theorem law_of {F : Tab} {k : Nat} (Hn : Hint) (h : ∀ ns : List Int, ns.length ≤ 63 → PTri (prun F Hn k "law" [.scr ns]) (2 ^ 40) (fun _ x => x.2 = .bl true) fun _ _ => False) (ns : List Int) (hn : ns.length ≤ 63) :
    Tri (run F k "law" [.ref 0] [.lst false (ns.map D.int)]) (2 ^ 40) (fun _ p => p.1 = .bl true) NX := by
  refine tri_of (X := fun _ _ => False) (fun n x d st q hp => ?_) (fun _ _ _ h => h.elim) (run_sim F Hn k "law" [.ref 0] [.scr ns] (fun n => n = 0) [.lst false (ns.map D.int)] (fun n hn => by rw [hn]; exact Nat.one_pos) (.cons (.scr rfl rfl) .nil)) (h ns hn)
  obtain ⟨_, os, r, _⟩ := q
  obtain ⟨m, t⟩ := x
  have hp : t = .bl true := hp
  subst hp
  cases r with
  | fz r =>
    cases r
    rfl
end
end DI
end
section
/-! # Runs over trees, read off -/
namespace DI
open PySem L2
/-- a table has a function -/
class HasFn (F : Tab) (x : Str) (fn : Fn) : Prop where
  eq : F.lookup x = some fn
theorem bind_ret {α β : Type} (a : α) (f : α → PT β) : (PT.ret a).bind f = f a := rfl
theorem nox_ret {α : Type} (a : α) : (PT.ret a).nox = .ret a := rfl
theorem resc_ret {α : Type} (env : PEnv) (f : α → PT PS) (a : α) : PT.resc env f (.ret a) = f a := rfl
theorem bind_assoc {α β γ : Type} (f : α → PT β) (g : β → PT γ) : ∀ t : PT α, (t.bind f).bind g = t.bind fun a => (f a).bind g
  | .ret a => rfl
  | .draw n k => by
    show PT.draw n _ = PT.draw n _
    congr 1
    funext v
    exact bind_assoc f g (k v)
  | .exc x => rfl
  | .stuck => rfl
theorem resc_bind' {α β : Type} (env : PEnv) (f : α → PT β) (g : β → PT PS) : ∀ t : PT α, (t.bind f).resc env g = t.resc env fun a => (f a).resc env g
  | .ret a => rfl
  | .draw n k => by
    show PT.draw n _ = PT.draw n _
    congr 1
    funext v
    exact resc_bind' env f g (k v)
  | .exc x => rfl
  | .stuck => rfl
/-- a comprehension whose turns answer -/
theorem plc_ret {turn : PV → PT (Option PV)} {f : PV → PV} : ∀ {xs : List PV}, (∀ x ∈ xs, turn x = .ret (some (f x))) → plc turn xs = .ret (xs.map f)
  | [], _ => rfl
  | x :: xs, h => by
    unfold plc
    rw [h x List.mem_cons_self, plc_ret fun y hy => h y (List.mem_cons_of_mem _ hy)]
    rfl
theorem PTri.mono {α : Type} {t : PT α} {b : Nat} {P P' : Nat → α → Prop} {X X' : Nat → Ex → Prop} (h : PTri t b P X) (hP : ∀ b' a, b' ≤ b → P b' a → P' b' a) (hX : ∀ b' x, b' ≤ b → X b' x → X' b' x) : PTri t b P' X' := by
  induction t generalizing b with
  | ret a => exact hP b a (Nat.le_refl _) h
  | draw n k ih =>
    obtain ⟨b', e, h⟩ := h
    exact ⟨b', e, fun v h0 h1 => ih v (h v h0 h1) (fun c a hc => hP c a (by omega)) fun c x hc => hX c x (by omega)⟩
  | exc x => exact hX b x (Nat.le_refl _) h
  | stuck => exact h.elim
theorem ptri_bind {α β : Type} {t : PT α} {f : α → PT β} {b : Nat} {P : Nat → β → Prop} {X : Nat → Ex → Prop} : PTri (t.bind f) b P X ↔ PTri t b (fun b' a => PTri (f a) b' P X) X := by
  induction t generalizing b with
  | ret a => exact Iff.rfl
  | draw n k ih =>
    constructor
    · rintro ⟨b', e, h⟩
      exact ⟨b', e, fun v h0 h1 => (ih v).mp (h v h0 h1)⟩
    · rintro ⟨b', e, h⟩
      exact ⟨b', e, fun v h0 h1 => (ih v).mpr (h v h0 h1)⟩
  | exc x => exact Iff.rfl
  | stuck => exact Iff.rfl
end DI
namespace DI
open PySem L2
/-- names that take lists, names that are handed over -/
def Hn0 : Hint := fun f => if f = ("components" : Str) then ([2], [4]) else ([], [])
abbrev R (F : Tab) (k : Nat) : PCalls := prun F Hn0 k
abbrev cf (F : Tab) (k : Nat) : PCfg := ⟨prun F Hn0 k, kordT F, [], []⟩
def fin : PS → PT MV := fun p => match p.1 with
  | .ret v => .ret v
  | .next => .ret (.fz, .non)
  | .exc x => .exc x
  | _ => .stuck
theorem run_code {F : Tab} {k : Nat} {f : Str} {ps : List Str} {n : Nat} {b : ISs} {vs : List PV} (h : HasFn F f (.code ps n b)) (hl : vs.length = ps.length) :
    prun F Hn0 (k + 1) f vs = (pexs ⟨prun F Hn0 k, kordT F, (Hn0 f).1, (Hn0 f).2⟩ b (vs.map (fun v => some (.fz, v)) ++ List.replicate (n - vs.length) none)).nox.bind fin := by
  unfold prun
  rw [h.eq]
  dsimp only
  rw [decide_eq_true hl]
  rfl
/-! ### what is read first -/
theorem bind_congr {α β : Type} {t t' : PT α} {f : α → PT β} (h : t = t') : t.bind f = t'.bind f := by rw [h]
theorem resc_congr {α : Type} {t t' : PT α} {env env' : PEnv} {f : α → PT PS} (h : t = t') (he : env = env') : PT.resc env f t = PT.resc env' f t' := by rw [h, he]
theorem pif_congr {α : Type} {c c' : Bool} {t : PT α} (h : c = c') : pif c t = pif c' t := by rw [h]
theorem forP_congr {b : PEnv → PT PS} {tg : ITg} {xs xs' : List PV} {env env' : PEnv} (h : xs = xs') (he : env = env') : forP b tg xs env = forP b tg xs' env' := by rw [h, he]
theorem plc_congr {t : PV → PT (Option PV)} {xs xs' : List PV} (h : xs = xs') : plc t xs = plc t xs' := by rw [h]
theorem pev_congr {C : PCfg} {e : IE} {env env' : PEnv} (h : env = env') : pev C e env = pev C e env' := by rw [h]
theorem pevs_congr {C : PCfg} {e : IEs} {env env' : PEnv} (h : env = env') : pevs C e env = pevs C e env' := by rw [h]
theorem pexs_congr {C : PCfg} {e : ISs} {env env' : PEnv} (h : env = env') : pexs C e env = pexs C e env' := by rw [h]
theorem pex_congr {C : PCfg} {e : IS} {env env' : PEnv} (h : env = env') : pex C e env = pex C e env' := by rw [h]
theorem pif_true {α : Type} (t : PT α) : pif true t = t := rfl
theorem pif_false {α : Type} (t : PT α) : pif false t = .stuck := rfl
theorem nox_bind {α β : Type} (f : α → PT β) (t : PT α) : (t.bind f).nox = t.nox.bind fun a => (f a).nox := by
  induction t with
  | ret a => rfl
  | draw n k ih =>
    show PT.draw n _ = PT.draw n _
    congr 1
    funext v
    exact ih v
  | exc x => rfl
  | stuck => rfl
end DI
namespace DI
open PySem L2
/-! ### answers, with at most n draws -/
def Dr {α : Type} (t : PT α) (n : Nat) (P : α → Prop) : Prop := ∀ b, n ≤ b → PTri t b (fun b' a => b ≤ b' + n ∧ P a) (fun _ _ => False)
section
variable {α β : Type} {n m : Nat} {P P' : α → Prop} {Q : β → Prop}
theorem Dr.ret {a : α} (h : P a) : Dr (.ret a) n P := fun b _ => ⟨by omega, h⟩
theorem Dr.mono {t : PT α} (h : Dr t n P) (hn : n ≤ m) (hP : ∀ a, P a → P' a) : Dr t m P' := fun b hb =>
  (h b (by omega)).mono (fun b' a _ q => ⟨by omega, hP a q.2⟩) fun _ _ _ q => q
theorem Dr.draw {k : Int → PT α} {j : Int} (h : ∀ v, 0 ≤ v → v < j → Dr (k v) n P) : Dr (.draw j k) (n + 1) P := fun b hb =>
  ⟨b - 1, by omega, fun v h0 h1 => (h v h0 h1 (b - 1) (by omega)).mono (fun b' a _ q => ⟨by omega, q.2⟩) fun _ _ _ q => q⟩
theorem Dr.bind {t : PT α} {f : α → PT β} (h : Dr t n P) (hf : ∀ a, P a → Dr (f a) m Q) : Dr (t.bind f) (n + m) Q := fun b hb =>
  ptri_bind.mpr ((h b (by omega)).mono (fun b' a _ q => (hf a q.2 b' (by omega)).mono (fun b2 c _ w => ⟨by omega, w.2⟩) fun _ _ _ w => w) fun _ _ _ w => w.elim)
theorem Dr.nox {t : PT α} (h : Dr t n P) : Dr t.nox n P := by
  intro b hb
  have key : ∀ (t : PT α) (b : Nat) (R : Nat → α → Prop), PTri t b R (fun _ _ => False) → PTri t.nox b R fun _ _ => False := by
    intro t
    induction t with
    | ret a => exact fun b R h => h
    | draw j k ih => exact fun b R ⟨b', e, h⟩ => ⟨b', e, fun v h0 h1 => ih v b' R (h v h0 h1)⟩
    | exc x => exact fun b R h => h.elim
    | stuck => exact fun b R h => h.elim
  exact key t b _ (h b hb)
theorem Dr.resc {t : PT α} {env : PEnv} {f : α → PT PS} {Q : PS → Prop} (h : Dr t n P) (hf : ∀ a, P a → Dr (f a) m Q) : Dr (t.resc env f) (n + m) Q := by
  have e : ∀ (t : PT α) (b : Nat) (R : Nat → PS → Prop), PTri (t.bind f) b R (fun _ _ => False) → PTri (t.resc env f) b R fun _ _ => False := by
    intro t
    induction t with
    | ret a => exact fun b R h => h
    | draw j k ih => exact fun b R ⟨b', e, h⟩ => ⟨b', e, fun v h0 h1 => ih v b' R (h v h0 h1)⟩
    | exc x => exact fun b R h => h.elim
    | stuck => exact fun b R h => h.elim
  exact fun b hb => e t b _ (Dr.bind h hf b hb)
/-- what is known is told: the run answers without a draw -/
theorem Dr.eq {t : PT α} {a : α} (e : t = .ret a) (h : P a) : Dr t n P := e ▸ Dr.ret h
end
/-- a for: an invariant by turn -/
theorem Dr.for {body : PEnv → PT PS} {tg : ITg} {n : Nat} (I : Nat → PEnv → Prop) : ∀ {xs : List PV} {i : Nat} {env : PEnv}, I i env → (∀ (j : Nat) (x : PV) (env : PEnv), xs[j]? = some x → I (i + j) env → ∃ env1, bindP tg x env = some env1 ∧ Dr (body env1) n fun p => p.1 = .next ∧ I (i + j + 1) p.2) →
    Dr (forP body tg xs env) (n * xs.length) fun p => p.1 = .next ∧ I (i + xs.length) p.2
  | [], i, env, h, _ => Dr.ret ⟨rfl, h⟩
  | x :: xs, i, env, h, step => by
    obtain ⟨env1, e1, d⟩ := step 0 x env rfl h
    unfold forP
    rw [e1]
    dsimp only
    rw [List.length_cons, Nat.mul_succ, Nat.add_comm]
    refine Dr.bind d fun p hp => ?_
    obtain ⟨fl, env2⟩ := p
    obtain ⟨h1, h2⟩ := hp
    have h1 : fl = .next := h1
    subst h1
    dsimp only
    rw [show i + (xs.length + 1) = i + 1 + xs.length by omega]
    exact Dr.for I h2 fun j y env hy hI => by
      have := step (j + 1) y env hy (by rw [show i + (j + 1) = i + 1 + j by omega]; exact hI)
      rwa [show i + (j + 1) + 1 = i + 1 + j + 1 by omega] at this
/-- a comprehension: every element by itself -/
theorem Dr.plc {turn : PV → PT (Option PV)} {n : Nat} {Q : PV → PV → Prop} : ∀ {xs : List PV}, (∀ x ∈ xs, Dr (turn x) n fun o => ∃ y, o = some y ∧ Q x y) → Dr (DI.plc turn xs) (n * xs.length) fun ys => ys.length = xs.length ∧ ∀ (i : Nat) (x y : PV), xs[i]? = some x → ys[i]? = some y → Q x y
  | [], _ => Dr.ret ⟨rfl, fun i x y h => by simp at h⟩
  | x :: xs, h => by
    unfold DI.plc
    rw [List.length_cons, Nat.mul_succ, Nat.add_comm]
    refine Dr.bind (h x List.mem_cons_self).nox fun o ho => ?_
    obtain ⟨y, rfl, hy⟩ := ho
    rw [show n * xs.length = n * xs.length + 0 from rfl]
    refine Dr.bind (Dr.plc fun z hz => h z (List.mem_cons_of_mem _ hz)) fun ys hys => Dr.ret ⟨by rw [List.length_cons, hys.1], fun i a b ha hb => ?_⟩
    cases i with
    | zero =>
      cases ha
      cases hb
      exact hy
    | succ i => exact hys.2 i a b ha hb
theorem law_dr {F : Tab} {k n : Nat} (hn : n ≤ 2 ^ 40) (h : ∀ ns : List Int, ns.length ≤ 63 → Dr (prun F Hn0 k "law" [.scr ns]) n fun x => x.2 = .bl true) (ns : List Int) (hns : ns.length ≤ 63) :
    Tri (run F k "law" [.ref 0] [.lst false (ns.map D.int)]) (2 ^ 40) (fun _ p => p.1 = .bl true) NX :=
  law_of Hn0 (fun ns hns => (h ns hns (2 ^ 40) hn).mono (fun _ _ _ q => q.2) fun _ _ _ q => q) ns hns
end DI
namespace DI
open PySem L2
theorem eqP_int (i j : Int) : eqP (.int i) (.int j) = some (i == j) := rfl
theorem eqP_bl (i j : Bool) : eqP (.bl i) (.bl j) = some (i == j) := rfl
theorem eqP_bi (b : Bool) (i : Int) : eqP (.bl b) (.int i) = some ((if b = true then 1 else 0) == i) := rfl
theorem eqP_non : eqP .non .non = some true := rfl
end DI
namespace DI
open PySem L2
theorem bind_stuck {α β : Type} (f : α → PT β) : (PT.stuck : PT α).bind f = .stuck := rfl
theorem bind_draw {α β : Type} (n : Int) (k : Int → PT α) (f : α → PT β) : (PT.draw n k).bind f = .draw n fun v => (k v).bind f := rfl
theorem nox_draw {α : Type} (n : Int) (k : Int → PT α) : (PT.draw n k).nox = .draw n fun v => (k v).nox := rfl
theorem resc_draw {α : Type} (env : PEnv) (n : Int) (k : Int → PT α) (f : α → PT PS) : PT.resc env f (.draw n k) = .draw n fun v => (k v).resc env f := rfl
theorem resc_exc {α : Type} (env : PEnv) (x : Ex) (f : α → PT PS) : PT.resc env f (.exc x) = .ret (.exc x, env) := rfl
theorem bind_exc {α β : Type} (x : Ex) (f : α → PT β) : (PT.exc x : PT α).bind f = .exc x := rfl
theorem popt_some {α : Type} (a : α) : popt (some a) = .ret a := rfl
theorem popt_none {α : Type} : popt (none : Option α) = .stuck := rfl
theorem plc_nil (t : PV → PT (Option PV)) : plc t [] = .ret [] := rfl
theorem plc_cons (t : PV → PT (Option PV)) (x : PV) (xs : List PV) : plc t (x :: xs) = (t x).nox.bind fun o => (plc t xs).bind fun ys => .ret (match o with | some y => y :: ys | none => ys) := rfl
theorem forP_nil (b : PEnv → PT PS) (tg : ITg) (env : PEnv) : forP b tg [] env = .ret (.next, env) := rfl
theorem enumP_nil (i : Nat) : enumP i [] = [] := rfl
theorem enumP_cons (i : Nat) (x : PV) (xs : List PV) : enumP i (x :: xs) = .pr (.int (nI i)) x :: enumP (i + 1) xs := rfl
theorem zipP_nil (ys : List PV) : zipP [] ys = [] := rfl
theorem zipP_cons (x y : PV) (xs ys : List PV) : zipP (x :: xs) (y :: ys) = .pr x y :: zipP xs ys := rfl
theorem fits_le' {n : Nat} (h : n ≤ 100000) : fits n = true := Nat.ble_eq.mpr h
end DI
/-! ### lists that are not written out stay closed -/
namespace DI
open PySem L2
section
variable {α β : Type}
def qlen (xs : List α) : Nat := xs.length
theorem len_q (xs : List α)  : xs.length = qlen xs := rfl
theorem qlen_nil : qlen ([] : List α) = 0 := rfl
theorem qlen_cons (x : α) (xs : List α) : qlen (x :: xs) = qlen xs + 1 := rfl
def qmap (f : α → β) (xs : List α) : List β := xs.map f
theorem map_q (f : α → β) (xs : List α)  : xs.map f = qmap f xs := rfl
theorem qmap_nil (f : α → β) : qmap f [] = [] := rfl
theorem qmap_cons (f : α → β) (x : α) (xs : List α) : qmap f (x :: xs) = f x :: qmap f xs := rfl
def qapp (xs ys : List α) : List α := xs ++ ys
theorem app_q (xs ys : List α)  : xs ++ ys = qapp xs ys := rfl
theorem qapp_nil (ys : List α) : qapp [] ys = ys := rfl
theorem qapp_cons (x : α) (xs ys : List α) : qapp (x :: xs) ys = x :: qapp xs ys := rfl
def qrange (n : Nat) : List Nat := List.range n
theorem range_q (n : Nat)  : List.range n = qrange n := rfl
def qany (xs : List α) (p : α → Bool) : Bool := xs.any p
theorem any_q (xs : List α) (p : α → Bool)  : xs.any p = qany xs p := rfl
theorem qany_nil (p : α → Bool) : qany [] p = false := rfl
theorem qany_cons (p : α → Bool) (x : α) (xs : List α) : qany (x :: xs) p = (p x || qany xs p) := rfl
def qall (xs : List α) (p : α → Bool) : Bool := xs.all p
theorem all_q (xs : List α) (p : α → Bool)  : xs.all p = qall xs p := rfl
theorem qall_nil (p : α → Bool) : qall [] p = true := rfl
theorem qall_cons (p : α → Bool) (x : α) (xs : List α) : qall (x :: xs) p = (p x && qall xs p) := rfl
def qempty (xs : List α) : Bool := xs.isEmpty
theorem empty_q (xs : List α)  : xs.isEmpty = qempty xs := rfl
theorem qempty_nil : qempty ([] : List α) = true := rfl
theorem qempty_cons (x : α) (xs : List α) : qempty (x :: xs) = false := rfl
def qtake (n : Nat) (xs : List α) : List α := xs.take n
theorem take_q (n : Nat) (xs : List α)  : xs.take n = qtake n xs := rfl
def qdrop (n : Nat) (xs : List α) : List α := xs.drop n
theorem drop_q (n : Nat) (xs : List α)  : xs.drop n = qdrop n xs := rfl
def qrev (xs : List α) : List α := xs.reverse
theorem rev_q (xs : List α)  : xs.reverse = qrev xs := rfl
end
end DI
namespace DI
open PySem L2
theorem blsP_nil : blsP [] = some [] := rfl
theorem blsP_cons (b : Bool) (r : List PV) : blsP (.bl b :: r) = (blsP r).map (b :: ·) := rfl
theorem intsP_nil : intsP [] = some [] := rfl
theorem intsP_cons (b : Int) (r : List PV) : intsP (.int b :: r) = (intsP r).map (b :: ·) := rfl
section
variable {α : Type}
def qat (xs : List α) (k : Int) : Option α := atI xs k
theorem at_q (xs : List α) (k : Int)  : atI xs k = qat xs k := rfl
theorem qat_nat {xs : List α} {i : Nat} : qat xs (i : Int) = xs[i]? := by
  unfold qat atI ixN
  rw [if_pos (by omega)]
  by_cases h : i < xs.length
  · rw [if_pos (by omega)]
    rfl
  · rw [if_neg (by omega), List.getElem?_eq_none_iff.mpr (by omega)]
    rfl
theorem qat_0 (a : α) (xs : List α) : qat (a :: xs) 0 = some a := qat_nat (i := 0)
theorem qat_1 (a b : α) (xs : List α) : qat (a :: b :: xs) 1 = some b := qat_nat (i := 1)
theorem qat_2 (a b c : α) (xs : List α) : qat (a :: b :: c :: xs) 2 = some c := qat_nat (i := 2)
theorem qat_3 (a b c d : α) (xs : List α) : qat (a :: b :: c :: d :: xs) 3 = some d := qat_nat (i := 3)
end
end DI
namespace DI
open PySem L2
theorem bls_true {α : Type} : ∀ (xs : List α), blsP (qmap (fun _ => PV.bl true) xs) = some (qmap (fun _ => true) xs)
  | [] => rfl
  | x :: xs => by
    show (blsP (qmap (fun _ => PV.bl true) xs)).map (true :: ·) = _
    rw [bls_true xs]
    rfl
theorem all_true {α : Type} : ∀ (xs : List α), qall (qmap (fun _ => true) xs) id = true
  | [] => rfl
  | x :: xs => all_true xs
theorem plc_q {turn : PV → PT (Option PV)} {xs : List PV} (f : PV → PV) (h : ∀ x ∈ xs, turn x = .ret (some (f x))) : plc turn xs = .ret (qmap f xs) := plc_ret h
theorem zip_self (xs : List PV) : zipP xs xs = qmap (fun x => .pr x x) xs := by
  induction xs with
  | nil => rfl
  | cons x xs ih => rw [zipP, ih]; rfl
theorem qmap_qmap {α β γ : Type} (f : β → γ) (g : α → β) (xs : List α) : qmap f (qmap g xs) = qmap (fun x => f (g x)) xs := List.map_map
theorem qlen_qmap {α β : Type} (g : α → β) (xs : List α) : qlen (qmap g xs) = xs.length := List.length_map ..
end DI
namespace DI
theorem fits_0 : fits 0 = true := rfl
theorem fits_1 : fits 1 = true := rfl
theorem fits_2 : fits 2 = true := rfl
theorem fits_3 : fits 3 = true := rfl
theorem fits_4 : fits 4 = true := rfl
theorem fits_5 : fits 5 = true := rfl
theorem fits_6 : fits 6 = true := rfl
theorem fits_7 : fits 7 = true := rfl
theorem fits_8 : fits 8 = true := rfl
theorem fits_9 : fits 9 = true := rfl
theorem fits_10 : fits 10 = true := rfl
theorem fits_11 : fits 11 = true := rfl
theorem fits_12 : fits 12 = true := rfl
theorem fits_13 : fits 13 = true := rfl
theorem fits_14 : fits 14 = true := rfl
theorem fits_15 : fits 15 = true := rfl
theorem fits_16 : fits 16 = true := rfl
theorem fits_17 : fits 17 = true := rfl
theorem fits_18 : fits 18 = true := rfl
theorem fits_19 : fits 19 = true := rfl
theorem fits_20 : fits 20 = true := rfl
theorem fits_21 : fits 21 = true := rfl
theorem fits_22 : fits 22 = true := rfl
theorem fits_23 : fits 23 = true := rfl
theorem fits_24 : fits 24 = true := rfl
theorem fits_25 : fits 25 = true := rfl
theorem fits_26 : fits 26 = true := rfl
theorem fits_27 : fits 27 = true := rfl
theorem fits_28 : fits 28 = true := rfl
theorem fits_29 : fits 29 = true := rfl
theorem fits_30 : fits 30 = true := rfl
theorem fits_31 : fits 31 = true := rfl
theorem fits_32 : fits 32 = true := rfl
theorem fits_33 : fits 33 = true := rfl
theorem fits_34 : fits 34 = true := rfl
theorem fits_35 : fits 35 = true := rfl
theorem fits_36 : fits 36 = true := rfl
theorem fits_37 : fits 37 = true := rfl
theorem fits_38 : fits 38 = true := rfl
theorem fits_39 : fits 39 = true := rfl
theorem fits_40 : fits 40 = true := rfl
theorem fits_41 : fits 41 = true := rfl
theorem fits_42 : fits 42 = true := rfl
theorem fits_43 : fits 43 = true := rfl
theorem fits_44 : fits 44 = true := rfl
theorem fits_45 : fits 45 = true := rfl
theorem fits_46 : fits 46 = true := rfl
theorem fits_47 : fits 47 = true := rfl
theorem fits_48 : fits 48 = true := rfl
theorem fits_49 : fits 49 = true := rfl
theorem fits_50 : fits 50 = true := rfl
theorem fits_51 : fits 51 = true := rfl
theorem fits_52 : fits 52 = true := rfl
theorem fits_53 : fits 53 = true := rfl
theorem fits_54 : fits 54 = true := rfl
theorem fits_55 : fits 55 = true := rfl
theorem fits_56 : fits 56 = true := rfl
theorem fits_57 : fits 57 = true := rfl
theorem fits_58 : fits 58 = true := rfl
theorem fits_59 : fits 59 = true := rfl
theorem fits_60 : fits 60 = true := rfl
theorem fits_61 : fits 61 = true := rfl
theorem fits_62 : fits 62 = true := rfl
theorem fits_63 : fits 63 = true := rfl
theorem fits_64 : fits 64 = true := rfl
end DI
namespace DI
open PySem L2
/-- a def's run, from its body's -/
theorem Dr.fin {t : PT PS} {n : Nat} {P : MV → Prop} (h : Dr t n fun p => ∃ v, p.1 = .ret v ∧ P v) : Dr (t.nox.bind DI.fin) n P := by
  rw [show n = n + 0 from rfl]
  refine Dr.bind h.nox fun p hp => ?_
  obtain ⟨v, h1, h2⟩ := hp
  obtain ⟨fl, env⟩ := p
  have h1 : fl = .ret v := h1
  subst h1
  exact Dr.ret h2
theorem Dr.bind0 {α β : Type} {t : PT α} {f : α → PT β} {n : Nat} {P : α → Prop} {Q : β → Prop} (h : Dr t n P) (hf : ∀ a, P a → Dr (f a) 0 Q) : Dr (t.bind f) n Q := Dr.bind (m := 0) h hf
end DI
namespace DI
open PySem L2
def iadd (i j : Int) : Int := i + j
theorem iadd_q (i j : Int)  : i + j = iadd i j := rfl
def isub (i j : Int) : Int := i - j
theorem isub_q (i j : Int)  : i - j = isub i j := rfl
def imul (i j : Int) : Int := i * j
theorem imul_q (i j : Int)  : i * j = imul i j := rfl
def imod (i j : Int) : Int := i.fmod j
theorem imod_q (i j : Int)  : i.fmod j = imod i j := rfl
def idiv (i j : Int) : Int := i.fdiv j
theorem idiv_q (i j : Int)  : i.fdiv j = idiv i j := rfl
def nadd (i j : Nat) : Nat := i + j
theorem nadd_q (i j : Nat)  : i + j = nadd i j := rfl
theorem nI_lit (n : Nat) : nI (OfNat.ofNat n) = OfNat.ofNat n := rfl
theorem ofNat_eq (n : Nat) : (OfNat.ofNat n : Int) = (n : Int) := rfl
theorem blt_iff {n m : Nat} : Nat.blt n m = true ↔ n < m := by
  show Nat.ble (n + 1) m = true ↔ n < m
  rw [Nat.ble_eq]
  exact Iff.rfl
theorem ble_iff {n m : Nat} : Nat.ble n m = true ↔ n ≤ m := by rw [Nat.ble_eq]
theorem ltI_lit (n m : Nat) : ltI (OfNat.ofNat n) (OfNat.ofNat m) = Nat.blt n m := by
  show decide ((n : Int) < (m : Int)) = _
  rw [Bool.eq_iff_iff, decide_eq_true_iff, Int.ofNat_lt, blt_iff]
theorem leI_lit (n m : Nat) : leI (OfNat.ofNat n) (OfNat.ofNat m) = Nat.ble n m := by
  show decide ((n : Int) ≤ (m : Int)) = _
  rw [Bool.eq_iff_iff, decide_eq_true_iff, Int.ofNat_le, ble_iff]
theorem nzI_lit (n : Nat) : nzI (OfNat.ofNat n) = !(n == 0) := by
  show decide ((n : Int) ≠ 0) = _
  cases n with
  | zero => rfl
  | succ n => exact decide_eq_true (by omega)
theorem smI_lit (n : Nat) : smI (OfNat.ofNat n) = Nat.blt n 1073741824 := by
  show decide ((n : Int).natAbs < 1073741824) = _
  rw [Int.natAbs_natCast, Bool.eq_iff_iff, decide_eq_true_iff, blt_iff]
theorem rgB_lit (n : Nat) : rgB (OfNat.ofNat n) = Nat.ble n 100000 := by
  show (decide ((-100000 : Int) < (n : Int)) && decide ((n : Int) ≤ 100000)) = _
  rw [decide_eq_true (show (-100000 : Int) < n by omega), Bool.true_and, Bool.eq_iff_iff, decide_eq_true_iff, ble_iff]
  omega
theorem rg1B_lit (n : Nat) : rg1B (OfNat.ofNat n) = Nat.blt n (2 ^ 62) := by
  rw [rg1B_def]
  show (decide (-(2 ^ 62) ≤ (n : Int)) && decide ((n : Int) < 2 ^ 62)) = _
  rw [decide_eq_true (show (-(2 ^ 62) : Int) ≤ n by omega), Bool.true_and, Bool.eq_iff_iff, decide_eq_true_iff, blt_iff]
  omega
theorem mut_append (xs : List PV) (y : PV) : mutP .append xs [y] = pif (fits (xs.length + 1)) (.ret (xs ++ [y], .non)) := rfl
def insB (n : Nat) (i : Int) : Bool := fits (n + 1) && decide (0 ≤ i) && decide (i < 2 ^ 62)
theorem mut_insert (xs : List PV) (i : Int) (y : PV) : mutP .insert xs [.int i, y] = pif (insB xs.length i) (.ret (xs.take i.toNat ++ [y] ++ xs.drop i.toNat, .non)) := rfl
def qix (n : Nat) (k : Int) : Option Nat := ixN n k
theorem qix_q (n : Nat) (k : Int)  : ixN n k = qix n k := rfl
def ntI (i : Int) : Nat := i.toNat
theorem ntI_q (i : Int)  : i.toNat = ntI i := rfl
end DI
namespace DI
open PySem L2
theorem insB_ok {n : Nat} {v : Int} (h : n < 100000) (h0 : 0 ≤ v) (h1 : v < 2 ^ 62) : insB n v = true := by
  unfold insB
  rw [fits_le' (by omega), decide_eq_true h0, decide_eq_true h1]
  rfl
end DI
namespace DI
open PySem L2
theorem meth_upper (z : Str) : methP .upper (.str z) [] = pif (fits (lenZ z)) (.ret (.fz, .str (upZ z))) := rfl
theorem repB_2_4 : repB 2 4 = true := rfl
theorem repP_2 {α : Type} (xs : List α) : repP 2 xs = qapp xs xs := by
  show (List.replicate 2 xs).flatten = xs ++ xs
  simp [List.replicate]
theorem repP_3 {α : Type} (xs : List α) : repP 3 xs = qapp xs (qapp xs xs) := by
  show (List.replicate 3 xs).flatten = xs ++ (xs ++ xs)
  simp [List.replicate]
end DI
namespace DI
open PySem L2
/-- slots of a def's start -/
def slots (vs : List PV) (n : Nat) : PEnv := vs.map (fun v => some (.fz, v)) ++ List.replicate n none
theorem run_code0 {F : Tab} {k : Nat} {f : Str} {ps : List Str} {n : Nat} {b : ISs} {vs : List PV} {env : PEnv} (h : HasFn F f (.code ps n b)) (hl : vs.length = ps.length) (hH : Hn0 f = ([], [])) (he : slots vs (n - vs.length) = env) :
    prun F Hn0 (k + 1) f vs = (pexs (cf F k) b env).nox.bind fin := by
  rw [run_code h hl, hH, ← he]
  rfl
end DI
namespace DI
open PySem L2
/-- return f(..) -/
theorem Dr.retc {t : PT MV} {env env' : PEnv} {g : PS → PT PS} {n : Nat} {P P' : MV → Prop} (h : Dr t n P) (hg : ∀ v, g (.ret v, env') = .ret (.ret v, env')) (hP : ∀ a, P a → P' (retMd a.1, a.2)) :
    Dr (((PT.resc env (fun x => .ret (.ret (retMd x.1, x.2), env')) t).bind g).nox.bind DI.fin) n P' := by
  refine Dr.fin (Dr.bind0 (Dr.resc (m := 0) (Q := fun p => ∃ v, p = (.ret v, env') ∧ P' v) h fun a ha => Dr.ret ⟨_, rfl, hP a ha⟩) fun p hp => ?_)
  obtain ⟨v, rfl, hv⟩ := hp
  rw [hg]
  exact Dr.ret ⟨v, rfl, hv⟩
end DI
end
section
/-! # runs by simp: every continuation has a name -/
namespace DI
open PySem L2
section
variable {C : PCfg} {env : PEnv} {xs ys : List MV} {x y : MV} {vs : List PV}
-- displays
def kTup2 (es : IEs) (xs : List MV) : Option (List PV) → PT MV
  | some vs => pif (fits vs.length) (.ret (dispMd es xs .fz, .tup vs))
  | none => .stuck
def kTup (es : IEs) (xs : List MV) : PT MV := kTup2 es xs (stored xs)
def kLst2 (es : IEs) (xs : List MV) : Option (List PV) → PT MV
  | some vs => pif (fits vs.length) (.ret (dispMd es xs .o1, .lst vs))
  | none => .stuck
def kLst (es : IEs) (xs : List MV) : PT MV := kLst2 es xs (stored xs)
-- operators
def kBin2 (op : Operator) (x y : MV) : PT MV := binP op x y
def kBin (C : PCfg) (op : Operator) (b : IE) (env : PEnv) (x : MV) : PT MV := (pev C b env).bind (kBin2 op x)
def kNeg (x : MV) : PT MV := match x.2 with
  | .int i => .ret (.fz, .int (-i))
  | _ => .stuck
def kBl (k : Bool) : PT MV := .ret (.fz, .bl k)
def kNot (k : Bool) : PT MV := .ret (.fz, .bl (!k))
def kCmp2 (op : CmpOp) (x y : MV) : PT MV := (cmpP op x.2 y.2).bind kBl
def kCmp (C : PCfg) (op : CmpOp) (b : IE) (env : PEnv) (x : MV) : PT MV := (pev C b env).bind (kCmp2 op x)
def kCh4 (o2 : CmpOp) (y z : MV) : PT MV := (cmpP o2 y.2 z.2).bind kBl
def kCh3 (C : PCfg) (o2 : CmpOp) (c : IE) (env : PEnv) (y : MV) : Bool → PT MV
  | true => (pev C c env).bind (kCh4 o2 y)
  | false => .ret (.fz, .bl false)
def kCh2 (C : PCfg) (o1 o2 : CmpOp) (c : IE) (env : PEnv) (x y : MV) : PT MV := (cmpP o1 x.2 y.2).bind (kCh3 C o2 c env y)
def kCh (C : PCfg) (o1 o2 : CmpOp) (b c : IE) (env : PEnv) (x : MV) : PT MV := (pev C b env).bind (kCh2 C o1 o2 c env x)
def kAnd2 (C : PCfg) (b : IE) (env : PEnv) : Bool → PT MV
  | true => pev C b env
  | false => .ret (.fz, .bl false)
def kAnd (C : PCfg) (b : IE) (env : PEnv) (x : MV) : PT MV := (asBP x.2).bind (kAnd2 C b env)
def kOr2 (C : PCfg) (b : IE) (env : PEnv) : Bool → PT MV
  | true => .ret (.fz, .bl true)
  | false => pev C b env
def kOr (C : PCfg) (b : IE) (env : PEnv) (x : MV) : PT MV := (asBP x.2).bind (kOr2 C b env)
def kNotE (x : MV) : PT MV := (truthP x.2).bind kNot
def kIte2 (C : PCfg) (a b : IE) (env : PEnv) : Bool → PT MV
  | true => pev C a env
  | false => pev C b env
def kIte (C : PCfg) (a b : IE) (env : PEnv) (x : MV) : PT MV := (truthP x.2).bind (kIte2 C a b env)
def kIx2 (x k : MV) : PT MV := ixP x k.2
def kIx (C : PCfg) (i : IE) (env : PEnv) (x : MV) : PT MV := (pev C i env).bind (kIx2 x)
def kSl3 (x : MV) (l h : Option Int) : PT MV := sliceP x l h
def kSl2 (C : PCfg) (hi : IO) (env : PEnv) (x : MV) (l : Option Int) : PT MV := (pevO C hi env).bind (kSl3 x l)
def kSl (C : PCfg) (lo hi : IO) (env : PEnv) (x : MV) : PT MV := (pevO C lo env).bind (kSl2 C hi env x)
def kLr (b : Bool) (x : MV) : PT MV := rgP b x.2
def kIsi (tys : List String) (x : MV) : PT MV := isiP x.2 tys
def kCall2 (C : PCfg) (f : Str) : Option (List PV) → PT MV
  | some vs => C.call f vs
  | none => .stuck
def kCall (C : PCfg) (f : Str) (xs : List MV) : PT MV := kCall2 C f (stored xs)
def kCons2 (x : MV) (xs : List MV) : PT (List MV) := .ret (x :: xs)
def kCons (C : PCfg) (es : IEs) (env : PEnv) (x : MV) : PT (List MV) := (pevs C es env).bind (kCons2 x)
def kOI (x : MV) : PT (Option Int) := match x.2 with
  | .int i => .ret (some i)
  | _ => .stuck
def kTru (x : MV) : PT Bool := truthP x.2
theorem bcongr {α β : Type} {t : PT α} {f g : α → PT β} (h : ∀ x, f x = g x) : t.bind f = t.bind g := by rw [funext h]
theorem r_var {i : Nat} : pev C (.var i) env = popt (varP env i) := rfl
theorem r_cint {i : Int} : pev C (.cint i) env = .ret (.fz, .int i) := rfl
theorem r_cstr {i : Str} : pev C (.cstr i) env = .ret (.fz, .str i) := rfl
theorem r_cbl {i : Bool} : pev C (.cbl i) env = .ret (.fz, .bl i) := rfl
theorem r_cnon : pev C .cnon env = .ret (.fz, .non) := rfl
theorem r_tup {es : IEs} : pev C (.tup es) env = (pevs C es env).bind (kTup es) := bcongr fun xs => by unfold kTup kTup2; cases stored xs <;> rfl
theorem r_lst {es : IEs} : pev C (.lst es) env = (pevs C es env).bind (kLst es) := bcongr fun xs => by unfold kLst kLst2; cases stored xs <;> rfl
theorem r_bin {op : Operator} {a b : IE} : pev C (.bin op a b) env = (pev C a env).bind (kBin C op b env) := rfl
theorem r_neg {a : IE} : pev C (.neg a) env = (pev C a env).bind kNeg := rfl
theorem r_cmp {op : CmpOp} {a b : IE} : pev C (.cmp op a b) env = (pev C a env).bind (kCmp C op b env) := rfl
theorem r_chain {o1 o2 : CmpOp} {a b c : IE} : pev C (.chain o1 o2 a b c) env = (pev C a env).bind (kCh C o1 o2 b c env) := bcongr fun x => bcongr fun y => bcongr fun k => by cases k <;> rfl
theorem r_and {a b : IE} : pev C (.and a b) env = (pev C a env).bind (kAnd C b env) := bcongr fun x => bcongr fun k => by cases k <;> rfl
theorem r_or {a b : IE} : pev C (.or a b) env = (pev C a env).bind (kOr C b env) := bcongr fun x => bcongr fun k => by cases k <;> rfl
theorem r_not {a : IE} : pev C (.not a) env = (pev C a env).bind kNotE := rfl
theorem r_ite {c a b : IE} : pev C (.ite c a b) env = (pev C c env).bind (kIte C a b env) := bcongr fun x => bcongr fun k => by cases k <;> rfl
theorem r_ix {a i : IE} : pev C (.ix a i) env = (pev C a env).bind (kIx C i env) := rfl
theorem r_slice {a : IE} {lo hi : IO} : pev C (.slice a lo hi) env = (pev C a env).bind (kSl C lo hi env) := rfl
theorem r_rev {a : IE} : pev C (.rev a) env = (pev C a env).bind revP := rfl
theorem r_blt {f : Blt} {es : IEs} : pev C (.blt f es) env = (pevs C es env).bind (bltP f) := rfl
theorem r_lr {a : IE} : pev C (.lr a) env = (pev C a env).bind (kLr true) := rfl
theorem r_tr {a : IE} : pev C (.tr a) env = (pev C a env).bind (kLr false) := rfl
theorem r_isi {e : IE} {tys : List String} : pev C (.isi e tys) env = (pev C e env).bind (kIsi tys) := rfl
theorem r_call {f : Str} {es : IEs} : pev C (.call f es) env = (pevs C es env).bind (kCall C f) := bcongr fun xs => by unfold kCall kCall2; cases stored xs <;> rfl
theorem r_nil : pevs C .nil env = .ret [] := rfl
theorem r_cons {e : IE} {es : IEs} : pevs C (.cons e es) env = (pev C e env).bind (kCons C es env) := rfl
theorem r_onone : pevO C .none env = .ret none := rfl
theorem r_osome {e : IE} : pevO C (.some e) env = (pev C e env).bind kOI := rfl
theorem r_cnone : pevC C .none env = .ret true := rfl
theorem r_csome {e : IE} : pevC C (.some e) env = (pev C e env).bind kTru := rfl
-- calls with names, methods, comprehensions, ranges
def kKw4 (C : PCfg) (f : Str) : Option (List PV) → PT MV
  | some zs => C.call f zs
  | none => .stuck
def kKw3 (C : PCfg) (f : Str) (us vs : List PV) : Option (List Nat) → PT MV
  | some o => kKw4 C f (pickP (us ++ vs) o)
  | none => .stuck
def kKw2 (C : PCfg) (f : Str) (ks : List Str) : Option (List PV) → Option (List PV) → PT MV
  | some us, some vs => kKw3 C f us vs (C.kord f us.length ks)
  | _, _ => .stuck
def kKw1 (C : PCfg) (f : Str) (ks : List Str) (xs ys : List MV) : PT MV := kKw2 C f ks (stored xs) (stored ys)
def kKw (C : PCfg) (f : Str) (ks : List Str) (ws : IEs) (env : PEnv) (xs : List MV) : PT MV := (pevs C ws env).bind (kKw1 C f ks xs)
def kMt3 (m : Mth) (o : PV) : Option (List PV) → PT MV
  | some vs => methP m o vs
  | none => .stuck
def kMt2 (m : Mth) (o : PV) (xs : List MV) : PT MV := kMt3 m o (stored xs)
def kMt (C : PCfg) (m : Mth) (es : IEs) (env : PEnv) (x : MV) : PT MV := pif (recvP m x.2) ((pevs C es env).bind (kMt2 m x.2))
def kT4 (v : PV) : PT (Option PV) := .ret (some v)
def kT3 (y : MV) : PT (Option PV) := (stP y).bind kT4
def kT2 (C : PCfg) (e : IE) (env : PEnv) : Bool → PT (Option PV)
  | true => (pev C e env).bind kT3
  | false => .ret none
def kT1 (C : PCfg) (c : IO) (e : IE) : Option PEnv → PT (Option PV)
  | none => .stuck
  | some env' => (pevC C c env').bind (kT2 C e env')
def kTurn (C : PCfg) (tg : ITg) (c : IO) (e : IE) (env : PEnv) (x : PV) : PT (Option PV) := kT1 C c e (bindP tg x env)
def newMdE (e : IE) : Md := match newE e with | true => .o2 | false => .o1
def kLc2 (e : IE) (ys : List PV) : PT MV := .ret (newMdE e, .lst ys)
def ownL (own : List (Str × Nat)) : List Nat := own.map (·.2)
def kLc (C : PCfg) (own : List (Str × Nat)) (tg : ITg) (c : IO) (e : IE) (env : PEnv) (xs : List PV) : PT MV := pif (fits xs.length) ((plc (kTurn C tg c e (wipeP env (ownL own))) xs).bind (kLc2 e))
def kR1 (x : MV) : PT (List PV) := match x.2 with
  | .int j => pif (rg1B j) (.ret (rg1P j))
  | _ => .stuck
def kR2b (x y : MV) : PT (List PV) := match x.2, y.2 with
  | .int i, .int j => pif (rg2B i j) (.ret (rg2P i j))
  | _, _ => .stuck
def kR2 (C : PCfg) (c : IE) (env : PEnv) (x : MV) : PT (List PV) := (pev C c env).bind (kR2b x)
def kEn2 (xs : List PV) : PT (List PV) := .ret (enumP 0 xs)
def kEn (b : Bool) (x : MV) : PT (List PV) := (seqP b x).bind kEn2
theorem r_callK {f : Str} {es ws : IEs} {ks : List Str} : pev C (.callK f es ks ws) env = (pevs C es env).bind (kKw C f ks ws env) := bcongr fun xs => bcongr fun ys => by
  unfold kKw1 kKw2
  cases stored xs <;> cases stored ys <;> try rfl
theorem r_meth {m : Mth} {o : IE} {es : IEs} : pev C (.meth m o es) env = (pev C o env).bind (kMt C m es env) := bcongr fun x => by
  unfold kMt
  exact congrArg (pif _) (bcongr fun xs => by unfold kMt2 kMt3; cases stored xs <;> rfl)
theorem r_lc {own : List (Str × Nat)} {tg : ITg} {it : IIt} {c : IO} {e : IE} : pev C (.lc own tg it c e) env = (pevIt C true it env).bind (kLc C own tg c e env) := bcongr fun xs => by
  have h : (fun x => match bindP tg x (wipeP env (own.map (·.2))) with
        | none => .stuck
        | some env' => (pevC C c env').bind fun k => match k with
          | false => .ret none
          | true => (pev C e env').bind fun y => (stP y).bind fun v => .ret (some v)) = kTurn C tg c e (wipeP env (ownL own)) := by
    funext x
    unfold kTurn kT1 ownL
    cases bindP tg x (wipeP env (own.map (·.2))) with
    | none => rfl
    | some env' => exact bcongr fun k => by cases k <;> rfl
  show pif _ ((plc (fun x => match bindP tg x (wipeP env (own.map (·.2))) with
        | none => .stuck
        | some env' => (pevC C c env').bind fun k => match k with
          | false => .ret none
          | true => (pev C e env').bind fun y => (stP y).bind fun v => .ret (some v)) xs).bind _) = _
  rw [h]
  rfl
theorem r_seq {b : Bool} {e : IE} : pevIt C b (.seq e) env = (pev C e env).bind (seqP b) := rfl
theorem r_range1 {b : Bool} {e : IE} : pevIt C b (.range1 e) env = (pev C e env).bind kR1 := rfl
theorem r_range2 {b : Bool} {a c : IE} : pevIt C b (.range2 a c) env = (pev C a env).bind (kR2 C c env) := rfl
theorem r_enum {b : Bool} {e : IE} : pevIt C b (.enum e) env = (pev C e env).bind (kEn b) := rfl
-- statements
def kSet2 (C : PCfg) (i : Nat) (env : PEnv) (x : MV) : PT PS := pif x.1.stB (.ret (.next, env.set i (some (newMd C i x.1 x.2, x.2))))
def kSet (C : PCfg) (i : Nat) (e : IE) (env : PEnv) : PT PS := (pev C e env).resc env (kSet2 C i env)
def kPop2 (i : Nat) (p : PV × PEnv) : PT PS := .ret (.next, p.2.set i (some (.fz, p.1)))
def kEnv : Option PEnv → PT PS
  | some env' => .ret (.next, env')
  | none => .stuck
def kSetT3 (ts : List Nat) (env : PEnv) (v : PV) : PT PS := kEnv (bindP (.tup ts) (asTupP v) env)
def kSetT2 (ts : List Nat) (env : PEnv) (x : MV) : PT PS := (stP x).bind (kSetT3 ts env)
def kSetT (C : PCfg) (ts : List Nat) (e : IE) (env : PEnv) : PT PS := (pev C e env).resc env (kSetT2 ts env)
def kNx (env : PEnv) : PT PS := .ret (.next, env)
def kSub4 (env : PEnv) (j : Nat) (v : PV) (k : MV) : PT PS := (setSubS env j k.2 v).bind kNx
def kSub3 (C : PCfg) (j : Nat) (i : IE) (env : PEnv) (v : PV) : PT PS := (pev C i env).resc env (kSub4 env j v)
def kSub2 (C : PCfg) (j : Nat) (i : IE) (env : PEnv) (x : MV) : PT PS := (stP x).bind (kSub3 C j i env)
def kSub (C : PCfg) (j : Nat) (i e : IE) (env : PEnv) : PT PS := pif (ownB env j) ((pev C e env).resc env (kSub2 C j i env))
def kAug4 (i : Nat) (env : PEnv) (z : PV) : PT PS := .ret (.next, env.set i (some (.fz, z)))
def kAug3 (i : Nat) (op : Operator) (env : PEnv) (x y : MV) : PT PS := (augP op x.2 y.2).bind (kAug4 i env)
def kAug2 (C : PCfg) (i : Nat) (op : Operator) (e : IE) (env : PEnv) (x : MV) : PT PS := (pev C e env).resc env (kAug3 i op env x)
def kAug (C : PCfg) (i : Nat) (op : Operator) (e : IE) (env : PEnv) : PT PS := (popt (varP env i)).bind (kAug2 C i op e env)
def kRet2 (env : PEnv) (x : MV) : PT PS := .ret (.ret (retMd x.1, x.2), env)
def kRet (C : PCfg) (e : IE) (env : PEnv) : PT PS := (pev C e env).resc env (kRet2 env)
def kIf2 (C : PCfg) (a b : ISs) (env : PEnv) : Bool → PT PS
  | true => pexs C a env
  | false => pexs C b env
def kIf (C : PCfg) (c : IE) (a b : ISs) (env : PEnv) : PT PS := ((pev C c env).bind kTru).resc env (kIf2 C a b env)
def kFor2 (C : PCfg) (tg : ITg) (body : ISs) (env : PEnv) (xs : List PV) : PT PS := forP (pexs C body) tg xs env
def kFor (C : PCfg) (tg : ITg) (it : IIt) (body : ISs) (env : PEnv) : PT PS := (pevIt C false it env).resc env (kFor2 C tg body env)
def kPar2 (ts : List Nat) (env : PEnv) (xs : List MV) : PT PS := kEnv (setEnvsM ts xs env)
def kPar (C : PCfg) (ts : List Nat) (es : IEs) (env : PEnv) : PT PS := (pevs C es env).resc env (kPar2 ts env)
def kSeq (C : PCfg) (ss : ISs) : PS → PT PS
  | (.next, env) => pexs C ss env
  | (.brk, env) => .ret (.brk, env)
  | (.cont, env) => .ret (.cont, env)
  | (.ret v, env) => .ret (.ret v, env)
  | (.exc x, env) => .ret (.exc x, env)
theorem rcongr {α : Type} {t : PT α} {f g : α → PT PS} (h : ∀ x, f x = g x) : t.resc env f = t.resc env g := by rw [funext h]
theorem s_nil : pexs C .nil env = .ret (.next, env) := rfl
theorem s_cons {s : IS} {ss : ISs} : pexs C (.cons s ss) env = (pex C s env).bind (kSeq C ss) := bcongr fun p => by
  obtain ⟨f, e⟩ := p
  cases f <;> rfl
theorem s_setT {ts : List Nat} {e : IE} : pex C (.setT ts e) env = kSetT C ts e (frz env (esc 2 e)) := rcongr fun x => bcongr fun v => by
  unfold kSetT3 kEnv
  cases bindP (.tup ts) (asTupP v) _ <;> rfl
theorem s_sub {j : Nat} {i e : IE} : pex C (.setSub (.var j) i e) env = kSub C j i e (frz env (esc 2 e ++ esc 0 i)) := rfl
theorem s_aug {i : Nat} {op : Operator} {e : IE} : pex C (.aug i op e) env = kAug C i op e (frz env (esc 0 e)) := rfl
theorem s_ite {c : IE} {a b : ISs} : pex C (.ite c a b) env = kIf C c a b (frz env (esc 0 c)) := rcongr fun k => by cases k <;> rfl
theorem s_for {tg : ITg} {it : IIt} {body : ISs} : pex C (.for tg it body) env = kFor C tg it body (frz env (escIt 2 it)) := rfl
theorem s_par {ts : List Nat} {es : IEs} : pex C (.par ts es) env = kPar C ts es (frz env (escs 2 es)) := rcongr fun xs => by
  unfold kPar2 kEnv
  cases setEnvsM ts xs _ <;> rfl
theorem s_pass : pex C .pass env = .ret (.next, env) := rfl
theorem s_brk : pex C .brk env = .ret (.brk, env) := rfl
theorem s_cont : pex C .cont env = .ret (.cont, env) := rfl
theorem s_pop {i j : Nat} : pex C (.set i (.meth .pop (.var j) .nil)) env = (mutS .pop env j []).bind (kPop2 i) := rfl
theorem s_set_var {i : Nat} {i0 : Nat} : pex C (.set i (.var i0)) env = kSet C i (.var i0) (frz env (esc 2 (.var i0))) := rfl
theorem s_ret_var {i0 : Nat} : pex C (.ret (.var i0)) env = kRet C (.var i0) (frz env []) := rfl
theorem s_set_cint {i : Nat} {i0 : Int} : pex C (.set i (.cint i0)) env = kSet C i (.cint i0) (frz env (esc 2 (.cint i0))) := rfl
theorem s_ret_cint {i0 : Int} : pex C (.ret (.cint i0)) env = kRet C (.cint i0) (frz env (esc 2 (.cint i0))) := rfl
theorem s_set_cstr {i : Nat} {i0 : Str} : pex C (.set i (.cstr i0)) env = kSet C i (.cstr i0) (frz env (esc 2 (.cstr i0))) := rfl
theorem s_ret_cstr {i0 : Str} : pex C (.ret (.cstr i0)) env = kRet C (.cstr i0) (frz env (esc 2 (.cstr i0))) := rfl
theorem s_set_cbl {i : Nat} {i0 : Bool} : pex C (.set i (.cbl i0)) env = kSet C i (.cbl i0) (frz env (esc 2 (.cbl i0))) := rfl
theorem s_ret_cbl {i0 : Bool} : pex C (.ret (.cbl i0)) env = kRet C (.cbl i0) (frz env (esc 2 (.cbl i0))) := rfl
theorem s_set_cnon {i : Nat} : pex C (.set i .cnon) env = kSet C i .cnon (frz env (esc 2 .cnon)) := rfl
theorem s_ret_cnon : pex C (.ret .cnon) env = kRet C .cnon (frz env (esc 2 .cnon)) := rfl
theorem s_set_tup {i : Nat} {es : IEs} : pex C (.set i (.tup es)) env = kSet C i (.tup es) (frz env (esc 2 (.tup es))) := rfl
theorem s_ret_tup {es : IEs} : pex C (.ret (.tup es)) env = kRet C (.tup es) (frz env (esc 2 (.tup es))) := rfl
theorem s_set_lst {i : Nat} {es : IEs} : pex C (.set i (.lst es)) env = kSet C i (.lst es) (frz env (esc 2 (.lst es))) := rfl
theorem s_ret_lst {es : IEs} : pex C (.ret (.lst es)) env = kRet C (.lst es) (frz env (esc 2 (.lst es))) := rfl
theorem s_set_bin {i : Nat} {op : Operator} {a b : IE} : pex C (.set i (.bin op a b)) env = kSet C i (.bin op a b) (frz env (esc 2 (.bin op a b))) := rfl
theorem s_ret_bin {op : Operator} {a b : IE} : pex C (.ret (.bin op a b)) env = kRet C (.bin op a b) (frz env (esc 2 (.bin op a b))) := rfl
theorem s_set_neg {i : Nat} {a : IE} : pex C (.set i (.neg a)) env = kSet C i (.neg a) (frz env (esc 2 (.neg a))) := rfl
theorem s_ret_neg {a : IE} : pex C (.ret (.neg a)) env = kRet C (.neg a) (frz env (esc 2 (.neg a))) := rfl
theorem s_set_cmp {i : Nat} {op : CmpOp} {a b : IE} : pex C (.set i (.cmp op a b)) env = kSet C i (.cmp op a b) (frz env (esc 2 (.cmp op a b))) := rfl
theorem s_ret_cmp {op : CmpOp} {a b : IE} : pex C (.ret (.cmp op a b)) env = kRet C (.cmp op a b) (frz env (esc 2 (.cmp op a b))) := rfl
theorem s_set_chain {i : Nat} {o1 o2 : CmpOp} {a b c : IE} : pex C (.set i (.chain o1 o2 a b c)) env = kSet C i (.chain o1 o2 a b c) (frz env (esc 2 (.chain o1 o2 a b c))) := rfl
theorem s_ret_chain {o1 o2 : CmpOp} {a b c : IE} : pex C (.ret (.chain o1 o2 a b c)) env = kRet C (.chain o1 o2 a b c) (frz env (esc 2 (.chain o1 o2 a b c))) := rfl
theorem s_set_and {i : Nat} {a b : IE} : pex C (.set i (.and a b)) env = kSet C i (.and a b) (frz env (esc 2 (.and a b))) := rfl
theorem s_ret_and {a b : IE} : pex C (.ret (.and a b)) env = kRet C (.and a b) (frz env (esc 2 (.and a b))) := rfl
theorem s_set_or {i : Nat} {a b : IE} : pex C (.set i (.or a b)) env = kSet C i (.or a b) (frz env (esc 2 (.or a b))) := rfl
theorem s_ret_or {a b : IE} : pex C (.ret (.or a b)) env = kRet C (.or a b) (frz env (esc 2 (.or a b))) := rfl
theorem s_set_not {i : Nat} {a : IE} : pex C (.set i (.not a)) env = kSet C i (.not a) (frz env (esc 2 (.not a))) := rfl
theorem s_ret_not {a : IE} : pex C (.ret (.not a)) env = kRet C (.not a) (frz env (esc 2 (.not a))) := rfl
theorem s_set_ite {i : Nat} {c a b : IE} : pex C (.set i (.ite c a b)) env = kSet C i (.ite c a b) (frz env (esc 2 (.ite c a b))) := rfl
theorem s_ret_ite {c a b : IE} : pex C (.ret (.ite c a b)) env = kRet C (.ite c a b) (frz env (esc 2 (.ite c a b))) := rfl
theorem s_set_ix {i : Nat} {a k : IE} : pex C (.set i (.ix a k)) env = kSet C i (.ix a k) (frz env (esc 2 (.ix a k))) := rfl
theorem s_ret_ix {a k : IE} : pex C (.ret (.ix a k)) env = kRet C (.ix a k) (frz env (esc 2 (.ix a k))) := rfl
theorem s_set_slice {i : Nat} {a : IE} {lo hi : IO} : pex C (.set i (.slice a lo hi)) env = kSet C i (.slice a lo hi) (frz env (esc 2 (.slice a lo hi))) := rfl
theorem s_ret_slice {a : IE} {lo hi : IO} : pex C (.ret (.slice a lo hi)) env = kRet C (.slice a lo hi) (frz env (esc 2 (.slice a lo hi))) := rfl
theorem s_set_rev {i : Nat} {a : IE} : pex C (.set i (.rev a)) env = kSet C i (.rev a) (frz env (esc 2 (.rev a))) := rfl
theorem s_ret_rev {a : IE} : pex C (.ret (.rev a)) env = kRet C (.rev a) (frz env (esc 2 (.rev a))) := rfl
theorem s_set_blt {i : Nat} {f : Blt} {es : IEs} : pex C (.set i (.blt f es)) env = kSet C i (.blt f es) (frz env (esc 2 (.blt f es))) := rfl
theorem s_ret_blt {f : Blt} {es : IEs} : pex C (.ret (.blt f es)) env = kRet C (.blt f es) (frz env (esc 2 (.blt f es))) := rfl
theorem s_set_lr {i : Nat} {a : IE} : pex C (.set i (.lr a)) env = kSet C i (.lr a) (frz env (esc 2 (.lr a))) := rfl
theorem s_ret_lr {a : IE} : pex C (.ret (.lr a)) env = kRet C (.lr a) (frz env (esc 2 (.lr a))) := rfl
theorem s_set_tr {i : Nat} {a : IE} : pex C (.set i (.tr a)) env = kSet C i (.tr a) (frz env (esc 2 (.tr a))) := rfl
theorem s_ret_tr {a : IE} : pex C (.ret (.tr a)) env = kRet C (.tr a) (frz env (esc 2 (.tr a))) := rfl
theorem s_set_isi {i : Nat} {a : IE} {tys : List String} : pex C (.set i (.isi a tys)) env = kSet C i (.isi a tys) (frz env (esc 2 (.isi a tys))) := rfl
theorem s_ret_isi {a : IE} {tys : List String} : pex C (.ret (.isi a tys)) env = kRet C (.isi a tys) (frz env (esc 2 (.isi a tys))) := rfl
theorem s_set_call {i : Nat} {f : Str} {es : IEs} : pex C (.set i (.call f es)) env = kSet C i (.call f es) (frz env (esc 2 (.call f es))) := rfl
theorem s_ret_call {f : Str} {es : IEs} : pex C (.ret (.call f es)) env = kRet C (.call f es) (frz env (esc 2 (.call f es))) := rfl
theorem s_set_callK {i : Nat} {f : Str} {es ws : IEs} {ks : List Str} : pex C (.set i (.callK f es ks ws)) env = kSet C i (.callK f es ks ws) (frz env (esc 2 (.callK f es ks ws))) := rfl
theorem s_ret_callK {f : Str} {es ws : IEs} {ks : List Str} : pex C (.ret (.callK f es ks ws)) env = kRet C (.callK f es ks ws) (frz env (esc 2 (.callK f es ks ws))) := rfl
theorem s_set_lc {i : Nat} {own : List (Str × Nat)} {tg : ITg} {it : IIt} {c : IO} {e : IE} : pex C (.set i (.lc own tg it c e)) env = kSet C i (.lc own tg it c e) (frz env (esc 2 (.lc own tg it c e))) := rfl
theorem s_ret_lc {own : List (Str × Nat)} {tg : ITg} {it : IIt} {c : IO} {e : IE} : pex C (.ret (.lc own tg it c e)) env = kRet C (.lc own tg it c e) (frz env (esc 2 (.lc own tg it c e))) := rfl
theorem s_set_upper {i : Nat} {o : IE} {es : IEs} : pex C (.set i (.meth .upper o es)) env = kSet C i (.meth .upper o es) (frz env (esc 2 (.meth .upper o es))) := rfl
theorem s_ret_upper {o : IE} {es : IEs} : pex C (.ret (.meth .upper o es)) env = kRet C (.meth .upper o es) (frz env (esc 2 (.meth .upper o es))) := rfl
-- methods as statements
/-- a tuple or a list -/
def mkS : Bool → List PV → PV
  | true, xs => .tup xs
  | false, xs => .lst xs
def kIdx (j : Nat) : MV := (.fz, .int (nI j))
def kApp3 (env : PEnv) (j : Nat) (x : MV) : PT PS := (appS env j x).bind kNx
def kApp (C : PCfg) (e : IE) (j : Nat) (env : PEnv) : PT PS := pif (ownB env j) ((pev C e env).resc env (kApp3 env j))
def kApp0 (C : PCfg) (e : IE) (j : Nat) (env : PEnv) : Option Nat → PT PS
  | some i => (movS env j i).bind kNx
  | none => kApp C e j (frz env (esc 2 e))
theorem s_app {j : Nat} {e : IE} : pex C (.expr (.meth .append (.var j) (.cons e .nil))) env = kApp0 C e j env (movB C env j e) := by
  show (match movB C env j e with | some i => (movS env j i).bind fun env' => PT.ret (PFl.next, env') | none => _) = _
  cases movB C env j e <;> rfl
def kAp4 (env : PEnv) (j n : Nat) (ys : List PV) (v : PV) : PT PS := (app2S env j n ys v).bind kNx
def kAp3 (env : PEnv) (j n : Nat) (ys : List PV) (x : MV) : PT PS := (stP x).bind (kAp4 env j n ys)
def kAp2 (C : PCfg) (e : IE) (j : Nat) (env : PEnv) : Option (Nat × List PV) → PT PS
  | none => .stuck
  | some (n, ys) => (pev C e env).resc env (kAp3 env j n ys)
def kAp1 (C : PCfg) (e : IE) (j : Nat) (env : PEnv) (k : MV) : PT PS := kAp2 C e j env (ch2 env j k.2)
def kAp (C : PCfg) (i e : IE) (j : Nat) (env : PEnv) : PT PS := pif (ownB env j) ((pev C i env).resc env (kAp1 C e j env))
theorem s_app2 {j : Nat} {i e : IE} : pex C (.expr (.meth .append (.ix (.var j) i) (.cons e .nil))) env = kAp C i e j (frz env (esc 0 i ++ esc 2 e)) := congrArg (pif _) (rcongr fun k => by
  unfold kAp1
  cases ch2 _ j k.2 with
  | none => rfl
  | some p => rfl)
def kMe4 (p : PV × PEnv) : PT PS := .ret (.next, p.2)
def kMe3 (m : Mth) (env : PEnv) (j : Nat) : Option (List PV) → PT PS
  | some vs => (mutS m env j vs).bind kMe4
  | none => .stuck
def kMe2 (m : Mth) (env : PEnv) (j : Nat) (xs : List MV) : PT PS := kMe3 m env j (stored xs)
def kMe (C : PCfg) (m : Mth) (j : Nat) (es : IEs) (env : PEnv) : PT PS := pif (ownB env j && m.listB) ((pevs C es env).resc env (kMe2 m env j))
theorem s_insert {j : Nat} {es : IEs} : pex C (.expr (.meth .insert (.var j) es)) env = kMe C .insert j es (frz env (escs 2 es)) := congrArg (pif _) (rcongr fun k => by
  unfold kMe2
  cases stored k <;> rfl)
theorem s_popAt {j : Nat} {es : IEs} : pex C (.expr (.meth .popAt (.var j) es)) env = kMe C .popAt j es (frz env (escs 2 es)) := congrArg (pif _) (rcongr fun k => by
  unfold kMe2
  cases stored k <;> rfl)
def kEx (env : PEnv) (x : MV) : PT PS := .ret (.next, env)
theorem s_ex_call {f : Str} {es : IEs} : pex C (.expr (.call f es)) env = (pev C (.call f es) (frz env (esc 2 (.call f es)))).resc (frz env (esc 2 (.call f es))) (kEx (frz env (esc 2 (.call f es)))) := rfl
-- zip, while, the end of a run
def kZip4 (xs ys : List PV) : PT (List PV) := .ret (zipP xs ys)
def kZip3 (b : Bool) (y : MV) (xs : List PV) : PT (List PV) := (seqP b y).bind (kZip4 xs)
def kZip2 (b : Bool) : MV → MV → PT (List PV)
  | (m, .tup xs), (n, .tup ys) => (seqP b (m, .tup xs)).bind (kZip3 b (n, .tup ys))
  | (m, .lst xs), (n, .lst ys) => (seqP b (m, .lst xs)).bind (kZip3 b (n, .lst ys))
  | _, _ => .stuck
def kZip (C : PCfg) (b : Bool) (c : IE) (env : PEnv) (x : MV) : PT (List PV) := (pev C c env).bind (kZip2 b x)
theorem r_zip {b : Bool} {a c : IE} : pevIt C b (.zip a c) env = (pev C a env).bind (kZip C b c env) := bcongr fun x => bcongr fun y => by
  obtain ⟨m, x⟩ := x
  obtain ⟨n, y⟩ := y
  cases x <;> cases y <;> rfl
def kTest (C : PCfg) (c : IE) (env : PEnv) : PT Bool := (pev C c env).bind kTru
theorem s_while {c : IE} {body : ISs} : pex C (.while c body) env = whileP (kTest C c) (pexs C body) turns (frz env (esc 0 c)) := rfl
def kPlc3 : Option PV → List PV → PT (List PV)
  | some y, ys => .ret (y :: ys)
  | none, ys => .ret ys
def kPlc2 (t : PV → PT (Option PV)) (xs : List PV) (o : Option PV) : PT (List PV) := (plc t xs).bind (kPlc3 o)
theorem r_plc (t : PV → PT (Option PV)) (x : PV) (xs : List PV) : plc t (x :: xs) = (t x).nox.bind (kPlc2 t xs) := bcongr fun o => bcongr fun ys => by cases o <;> rfl
theorem fin_ret {v : MV} {env : PEnv} : DI.fin (.ret v, env) = .ret v := rfl
theorem fin_next {env : PEnv} : DI.fin (.next, env) = .ret (.fz, .non) := rfl
theorem fin_exc {x : Ex} {env : PEnv} : DI.fin (.exc x, env) = .exc x := rfl
-- names
def frzS : Slot → Bool → Slot
  | some (.o1, v), true => some (.fz, v)
  | some (.o1, v), false => some (.o1, v)
  | some (.o2, .lst xs), true => some (.fz, .lst xs)
  | some (.o2, .lst xs), false => some (.o1, .lst xs)
  | some (.o2, v), _ => some (.fz, v)
  | s, _ => s
theorem frz1_cases (env : PEnv) (j : Nat) (f : Bool) : frz1 env j f = match env[j]? with | some s => env.set j (frzS s f) | none => env := by
  unfold frz1
  cases h : env[j]? with
  | none => rfl
  | some s =>
    have key : env.set j s = env := by
      obtain ⟨hl, e⟩ := List.getElem?_eq_some_iff.mp h
      rw [← e]
      exact List.set_getElem_self ..
    match s with
    | none => exact key.symm
    | some (.fz, v) => exact key.symm
    | some (.b1, v) => exact key.symm
    | some (.b2, v) => exact key.symm
    | some (.o1, v) => cases f <;> first | rfl | exact key.symm
    | some (.o2, v) => cases v <;> cases f <;> rfl
theorem frz1_n {j : Nat} {f : Bool} : frz1 [] j f = [] := by rw [frz1_cases]; rfl
theorem frz1_z {s : Slot} {f : Bool} {env : PEnv} : frz1 (s :: env) 0 f = frzS s f :: env := by rw [frz1_cases]; rfl
theorem frz1_s {s : Slot} {f : Bool} {env : PEnv} {j : Nat} : frz1 (s :: env) (j + 1) f = s :: frz1 env j f := by
  rw [frz1_cases, frz1_cases, List.getElem?_cons_succ]
  cases env[j]? <;> rfl
theorem frz_n {env : PEnv} : frz env [] = env := rfl
theorem frz_c {env : PEnv} {j : Nat} {f : Bool} {r : List (Nat × Bool)} : frz env ((j, f) :: r) = frz (frz1 env j f) r := rfl
theorem frzS_none {f : Bool} : frzS none f = none := by cases f <;> rfl
theorem frzS_fz {v : PV} {f : Bool} : frzS (some (.fz, v)) f = some (.fz, v) := by cases f <;> rfl
theorem frzS_b1 {v : PV} {f : Bool} : frzS (some (.b1, v)) f = some (.b1, v) := by cases f <;> rfl
theorem frzS_b2 {v : PV} {f : Bool} : frzS (some (.b2, v)) f = some (.b2, v) := by cases f <;> rfl
theorem frzS_o1t {v : PV} : frzS (some (.o1, v)) true = some (.fz, v) := rfl
theorem frzS_o1f {v : PV} : frzS (some (.o1, v)) false = some (.o1, v) := rfl
theorem frzS_o2t {xs : List PV} : frzS (some (.o2, .lst xs)) true = some (.fz, .lst xs) := rfl
theorem frzS_o2f {xs : List PV} : frzS (some (.o2, .lst xs)) false = some (.o1, .lst xs) := rfl
theorem varP_z {m : Md} {v : PV} {env : PEnv} : varP (some (m, v) :: env) 0 = some (rdMd m, v) := rfl
theorem varP_s {s : Slot} {env : PEnv} {j : Nat} : varP (s :: env) (j + 1) = varP env j := rfl
theorem set_z {s t : Slot} {env : PEnv} : (s :: env).set 0 t = t :: env := rfl
theorem set_s {s t : Slot} {env : PEnv} {j : Nat} : (s :: env).set (j + 1) t = s :: env.set j t := rfl
-- a name's slot, read whole
def atS (env : PEnv) (j : Nat) : Slot := (env[j]?).getD none
theorem atS_z {s : Slot} {env : PEnv} : atS (s :: env) 0 = s := rfl
theorem atS_s {s : Slot} {env : PEnv} {j : Nat} : atS (s :: env) (j + 1) = atS env j := rfl
def ownS : Slot → Bool
  | some (.o1, .lst _) => true
  | some (.o2, .lst _) => true
  | _ => false
theorem ownB_e {env : PEnv} {j : Nat} : ownB env j = ownS (atS env j) := by
  unfold ownB atS
  cases env[j]? with
  | none => rfl
  | some s =>
    match s with
    | none => rfl
    | some (.fz, _) => rfl
    | some (.b1, _) => rfl
    | some (.b2, _) => rfl
    | some (.o2, v) => cases v <;> rfl
    | some (.o1, v) => cases v <;> rfl
def kMut2 (env : PEnv) (j : Nat) (p : List PV × PV) : PT (PV × PEnv) := .ret (p.2, env.set j (some (.o1, .lst p.1)))
def kMut (m : Mth) (env : PEnv) (j : Nat) (vs : List PV) : Slot → PT (PV × PEnv)
  | some (.o1, .lst xs) => (mutP m xs vs).bind (kMut2 env j)
  | _ => .stuck
theorem mutS_e {m : Mth} {env : PEnv} {j : Nat} {vs : List PV} : mutS m env j vs = kMut m env j vs (atS env j) := by
  unfold mutS atS
  cases env[j]? with
  | none => rfl
  | some s =>
    match s with
    | none => rfl
    | some (.fz, _) => rfl
    | some (.b1, _) => rfl
    | some (.b2, _) => rfl
    | some (.o2, _) => rfl
    | some (.o1, v) => cases v <;> rfl
def kAppS (env : PEnv) (j : Nat) (x : MV) : Slot → PT PEnv
  | some (.o1, .lst xs) => pif (x.1.stB && fits (xs.length + 1)) (.ret (env.set j (some (.o1, .lst (xs ++ [x.2])))))
  | some (.o2, .lst xs) => match x.1 with
    | .o1 => pif (fits (xs.length + 1)) (.ret (env.set j (some (.o2, .lst (xs ++ [x.2])))))
    | _ => .stuck
  | _ => .stuck
theorem appS_e {env : PEnv} {j : Nat} {x : MV} : appS env j x = kAppS env j x (atS env j) := by
  unfold appS atS
  cases env[j]? with
  | none => rfl
  | some s =>
    match s with
    | none => rfl
    | some (.fz, _) => rfl
    | some (.b1, _) => rfl
    | some (.b2, _) => rfl
    | some (.o2, v) => cases v <;> rfl
    | some (.o1, v) => cases v <;> rfl
def kStS2 (env : PEnv) (j : Nat) (xs : List PV) (x : PV) : Option Nat → PT PEnv
  | some n => .ret (env.set j (some (.o1, .lst (xs.set n x))))
  | none => .stuck
def kStS (env : PEnv) (j : Nat) (x : PV) : PV → Slot → PT PEnv
  | .int k, some (.o1, .lst xs) => kStS2 env j xs x (ixN xs.length k)
  | _, _ => .stuck
theorem setSubS_e {env : PEnv} {j : Nat} {i x : PV} : setSubS env j i x = kStS env j x i (atS env j) := by
  unfold setSubS atS
  cases env[j]? with
  | none => cases i <;> rfl
  | some s =>
    match s with
    | none => cases i <;> rfl
    | some (.fz, _) => cases i <;> rfl
    | some (.b1, _) => cases i <;> rfl
    | some (.b2, _) => cases i <;> rfl
    | some (.o2, v) => cases i <;> rfl
    | some (.o1, v) =>
      cases v with
      | lst xs =>
        cases i with
        | int k =>
          show (match ixN xs.length k with | some n => _ | none => _) = kStS2 env j xs x (ixN xs.length k)
          cases ixN xs.length k <;> rfl
        | _ => rfl
      | _ => cases i <;> rfl
-- [] for a name that takes lists; a list handed over
theorem newMd0 {c : PCalls} {ko : KOrd} {mv : List Nat} {i : Nat} {m : Md} {v : PV} : newMd ⟨c, ko, [], mv⟩ i m v = m := rfl
theorem movB0 {c : PCalls} {ko : KOrd} {dp : List Nat} {env : PEnv} {j : Nat} {e : IE} : movB ⟨c, ko, dp, []⟩ env j e = none := by
  cases e <;> rfl
-- what escapes
theorem e_var0 {i : Nat} : esc 0 (.var i) = [] := rfl
theorem e_var1 {i : Nat} : esc 1 (.var i) = [(i, false)] := rfl
theorem e_var2 {i : Nat} : esc 2 (.var i) = [(i, true)] := rfl
section
variable {md : Nat} {a b c : IE} {es ws : IEs} {f : Str} {ks : List Str} {it : IIt} {io jo : IO} {e : IE} {own : List (Str × Nat)} {tg : ITg}
theorem e_tup : esc md (.tup es) = escs 2 es := rfl
theorem e_lst : esc md (.lst es) = escs 2 es := rfl
theorem e_bin {op : Operator} : esc md (.bin op a b) = esc 1 a ++ esc 1 b := rfl
theorem e_neg : esc md (.neg a) = esc 0 a := rfl
theorem e_cmp {op : CmpOp} : esc md (.cmp op a b) = esc 0 a ++ esc 0 b := rfl
theorem e_chain {o1 o2 : CmpOp} : esc md (.chain o1 o2 a b c) = esc 0 a ++ esc 0 b ++ esc 0 c := rfl
theorem e_and : esc md (.and a b) = esc 0 a ++ esc md b := rfl
theorem e_or : esc md (.or a b) = esc 0 a ++ esc md b := rfl
theorem e_not : esc md (.not a) = esc 0 a := rfl
theorem e_ite : esc md (.ite c a b) = esc 0 c ++ esc md a ++ esc md b := rfl
theorem e_ix0 : esc 0 (.ix a b) = esc 0 a ++ esc 0 b := rfl
theorem e_ix1 : esc 1 (.ix a b) = esc 1 a ++ esc 0 b := rfl
theorem e_ix2 : esc 2 (.ix a b) = esc 1 a ++ esc 0 b := rfl
theorem e_slice : esc md (.slice a io jo) = esc 1 a ++ escO io ++ escO jo := rfl
theorem e_rev : esc md (.rev a) = esc 1 a := rfl
theorem e_list : esc md (.blt .list es) = escs 1 es := rfl
theorem e_tuple : esc md (.blt .tuple es) = escs 1 es := rfl
theorem e_len : esc md (.blt .len es) = escs 0 es := rfl
theorem e_all : esc md (.blt .all es) = escs 0 es := rfl
theorem e_any : esc md (.blt .any es) = escs 0 es := rfl
theorem e_abs : esc md (.blt .abs es) = escs 0 es := rfl
theorem e_int : esc md (.blt .int es) = escs 0 es := rfl
theorem e_str : esc md (.blt .str es) = escs 0 es := rfl
theorem e_repr : esc md (.blt .repr es) = escs 0 es := rfl
theorem e_min2 : esc md (.blt .min2 es) = escs 0 es := rfl
theorem e_max2 : esc md (.blt .max2 es) = escs 0 es := rfl
theorem e_lcm : esc md (.blt .lcm es) = escs 0 es := rfl
theorem e_sorted : esc md (.blt .sorted es) = escs 0 es := rfl
theorem e_lr : esc md (.lr a) = esc 0 a := rfl
theorem e_tr : esc md (.tr a) = esc 0 a := rfl
theorem e_isi {tys : List String} : esc md (.isi a tys) = esc 0 a := rfl
theorem e_call : esc md (.call f es) = escs 2 es := rfl
theorem e_callK : esc md (.callK f es ks ws) = escs 2 es ++ escs 2 ws := rfl
theorem e_meth {m : Mth} : esc md (.meth m a es) = esc 0 a ++ escs 2 es := rfl
theorem e_lc : esc md (.lc own tg it io e) = escIt 1 it ++ escO io ++ esc 2 e := rfl
theorem e_cint {i : Int} : esc md (.cint i) = [] := rfl
theorem e_cstr {i : Str} : esc md (.cstr i) = [] := rfl
theorem e_cbl {i : Bool} : esc md (.cbl i) = [] := rfl
theorem e_cnon : esc md .cnon = [] := rfl
theorem e_nil : escs md .nil = [] := rfl
theorem e_cons : escs md (.cons a es) = esc md a ++ escs md es := rfl
theorem e_onone : escO .none = [] := rfl
theorem e_osome : escO (.some a) = esc 0 a := rfl
theorem e_seq : escIt md (.seq a) = esc md a := rfl
theorem e_range1 : escIt md (.range1 a) = esc 0 a := rfl
theorem e_range2 : escIt md (.range2 a b) = esc 0 a ++ esc 0 b := rfl
theorem e_enum : escIt md (.enum a) = esc md a := rfl
theorem e_zip : escIt md (.zip a b) = esc md a ++ esc md b := rfl
end
-- displays
theorem m_index {xs : List PV} {y : PV} : methP .index (.tup xs) [y] = pif (flatP y && xs.all flatP) (popt ((idxP xs y).map kIdx)) := rfl
theorem wipe_n : wipeP env [] = env := rfl
theorem wipe_c {i : Nat} {r : List Nat} : wipeP env (i :: r) = (wipeP env r).set i none := rfl
theorem beqI (i j : Int) : (i == j) = decide (i = j) := rfl
theorem bneI (i j : Int) : (i != j) = !decide (i = j) := rfl
def lk {α : Type} (xs : List α) (i : Nat) : Option α := xs[i]?
theorem lk_z {α : Type} {a : α} {xs : List α} : lk (a :: xs) 0 = some a := rfl
theorem lk_s {α : Type} {a : α} {xs : List α} {i : Nat} : lk (a :: xs) (i + 1) = lk xs i := rfl
def kPk {α : Type} : Option α → Option (List α) → Option (List α)
  | some x, some ys => some (x :: ys)
  | _, _ => none
theorem pick_n {α : Type} {xs : List α} : pickP xs [] = some [] := rfl
theorem pick_c {α : Type} {xs : List α} {i : Nat} {r : List Nat} : pickP xs (i :: r) = kPk (lk xs i) (pickP xs r) := by
  unfold lk
  rw [pickP]
  cases xs[i]? <;> cases pickP xs r <;> rfl
theorem nI_l (n : Nat) : nI (no_index (OfNat.ofNat n)) = OfNat.ofNat n := rfl
theorem ltI_t {i j : Int} (h : i < j) : ltI i j = true := decide_eq_true h
theorem ltI_f {i j : Int} (h : ¬ i < j) : ltI i j = false := decide_eq_false h
theorem leI_t {i j : Int} (h : i ≤ j) : leI i j = true := decide_eq_true h
theorem leI_f {i j : Int} (h : ¬ i ≤ j) : leI i j = false := decide_eq_false h
theorem nzI_t {j : Int} (h : j ≠ 0) : nzI j = true := decide_eq_true h
theorem smI_t (n : Nat) (h : n < 1073741824) : smI (no_index (OfNat.ofNat n)) = true := by
  show decide ((n : Int).natAbs < 1073741824) = _
  rw [Int.natAbs_natCast]
  exact decide_eq_true h
theorem rgB_t {j : Int} (h : 0 ≤ j) (h2 : j ≤ 100000) : rgB j = true := by
  unfold rgB
  rw [decide_eq_true (show (-100000 : Int) < j by omega), decide_eq_true h2]
  rfl
theorem rg1B_t {j : Int} (h : 0 ≤ j) (h2 : j < 4611686018427387904) : rg1B j = true := by
  rw [rg1B_def]
  rw [decide_eq_true (show (-(2 ^ 62) : Int) ≤ j by omega), decide_eq_true (show j < 2 ^ 62 by omega)]
  rfl
theorem rg2B_t {i j : Int} (h : 0 ≤ i) (h2 : i < 4611686018427387904) (h3 : 0 ≤ j) (h4 : j < 4611686018427387904) : rg2B i j = true := by
  rw [rg2B_def]
  rw [decide_eq_true (show (-(2 ^ 62) : Int) ≤ i by omega), decide_eq_true (show i < 2 ^ 62 by omega), decide_eq_true (show (-(2 ^ 62) : Int) ≤ j by omega), decide_eq_true (show j < 2 ^ 62 by omega)]
  rfl
theorem ty_NoneType_bool : isTy "NoneType" "bool" = false := by decide
theorem ty_NoneType_int : isTy "NoneType" "int" = false := by decide
theorem ty_NoneType_str : isTy "NoneType" "str" = false := by decide
theorem ty_NoneType_tuple : isTy "NoneType" "tuple" = false := by decide
theorem ty_NoneType_list : isTy "NoneType" "list" = false := by decide
theorem ty_bool_bool : isTy "bool" "bool" = true := by decide
theorem ty_bool_int : isTy "bool" "int" = true := by decide
theorem ty_bool_str : isTy "bool" "str" = false := by decide
theorem ty_bool_tuple : isTy "bool" "tuple" = false := by decide
theorem ty_bool_list : isTy "bool" "list" = false := by decide
theorem ty_int_bool : isTy "int" "bool" = false := by decide
theorem ty_int_int : isTy "int" "int" = true := by decide
theorem ty_int_str : isTy "int" "str" = false := by decide
theorem ty_int_tuple : isTy "int" "tuple" = false := by decide
theorem ty_int_list : isTy "int" "list" = false := by decide
theorem ty_str_bool : isTy "str" "bool" = false := by decide
theorem ty_str_int : isTy "str" "int" = false := by decide
theorem ty_str_str : isTy "str" "str" = true := by decide
theorem ty_str_tuple : isTy "str" "tuple" = false := by decide
theorem ty_str_list : isTy "str" "list" = false := by decide
theorem ty_tuple_bool : isTy "tuple" "bool" = false := by decide
theorem ty_tuple_int : isTy "tuple" "int" = false := by decide
theorem ty_tuple_str : isTy "tuple" "str" = false := by decide
theorem ty_tuple_tuple : isTy "tuple" "tuple" = true := by decide
theorem ty_tuple_list : isTy "tuple" "list" = false := by decide
theorem ty_list_bool : isTy "list" "bool" = false := by decide
theorem ty_list_int : isTy "list" "int" = false := by decide
theorem ty_list_str : isTy "list" "str" = false := by decide
theorem ty_list_tuple : isTy "list" "tuple" = false := by decide
theorem ty_list_list : isTy "list" "list" = true := by decide
end
end DI
end
section
/-! # the texts that the laws share -/
namespace LP
open PySem L2 PySem.Spec DI
open PyProof.Rows hiding St
def n_is_plain_int : Str := "is_plain_int"
def n_is_permutation : Str := "is_permutation"
def n__law_draw : Str := "_law_draw"
def n__law_pick : Str := "_law_pick"
def n__law_same : Str := "_law_same"
def n__law_shuffle : Str := "_law_shuffle"
def s_backward : Str := "backward"
def s_end : Str := "end"
def s_x20 : Str := " "
def s_start : Str := "start"
def s_forward : Str := "forward"
def s_x : Str := ""
def n__law_replaced : Str := "_law_replaced"
def n__law_mutate : Str := "_law_mutate"
def n__law_integer : Str := "_law_integer"
def n__law_is_permutation : Str := "_law_is_permutation"
def n_is_number_below : Str := "is_number_below"
def n_is_fitting_passage : Str := "is_fitting_passage"
def n_is_house : Str := "is_house"
def n__law_permutation : Str := "_law_permutation"
def n__law_passage : Str := "_law_passage"
def n__law_house : Str := "_law_house"
def n__law_is_passage : Str := "_law_is_passage"
def n__law_is_house : Str := "_law_is_house"
def n_inverse : Str := "inverse"
def n_crossing : Str := "crossing"
def n_end_room : Str := "end_room"
def n_is_slide : Str := "is_slide"
def n__law_listed : Str := "_law_listed"
def n__law_inverse : Str := "_law_inverse"
def n__law_ends : Str := "_law_ends"
def n__law_is_slide : Str := "_law_is_slide"
def n__law_slides : Str := "_law_slides"
theorem eq_s_backward_s_backward : eqP (.str s_backward) (.str s_backward) = some true := by decide +kernel
theorem eq_s_backward_s_end : eqP (.str s_backward) (.str s_end) = some false := by decide +kernel
theorem eq_s_backward_s_x20 : eqP (.str s_backward) (.str s_x20) = some false := by decide +kernel
theorem eq_s_backward_s_start : eqP (.str s_backward) (.str s_start) = some false := by decide +kernel
theorem eq_s_backward_s_forward : eqP (.str s_backward) (.str s_forward) = some false := by decide +kernel
theorem eq_s_backward_s_x : eqP (.str s_backward) (.str s_x) = some false := by decide +kernel
theorem eq_s_end_s_backward : eqP (.str s_end) (.str s_backward) = some false := by decide +kernel
theorem eq_s_end_s_end : eqP (.str s_end) (.str s_end) = some true := by decide +kernel
theorem eq_s_end_s_x20 : eqP (.str s_end) (.str s_x20) = some false := by decide +kernel
theorem eq_s_end_s_start : eqP (.str s_end) (.str s_start) = some false := by decide +kernel
theorem eq_s_end_s_forward : eqP (.str s_end) (.str s_forward) = some false := by decide +kernel
theorem eq_s_end_s_x : eqP (.str s_end) (.str s_x) = some false := by decide +kernel
theorem eq_s_x20_s_backward : eqP (.str s_x20) (.str s_backward) = some false := by decide +kernel
theorem eq_s_x20_s_end : eqP (.str s_x20) (.str s_end) = some false := by decide +kernel
theorem eq_s_x20_s_x20 : eqP (.str s_x20) (.str s_x20) = some true := by decide +kernel
theorem eq_s_x20_s_start : eqP (.str s_x20) (.str s_start) = some false := by decide +kernel
theorem eq_s_x20_s_forward : eqP (.str s_x20) (.str s_forward) = some false := by decide +kernel
theorem eq_s_x20_s_x : eqP (.str s_x20) (.str s_x) = some false := by decide +kernel
theorem eq_s_start_s_backward : eqP (.str s_start) (.str s_backward) = some false := by decide +kernel
theorem eq_s_start_s_end : eqP (.str s_start) (.str s_end) = some false := by decide +kernel
theorem eq_s_start_s_x20 : eqP (.str s_start) (.str s_x20) = some false := by decide +kernel
theorem eq_s_start_s_start : eqP (.str s_start) (.str s_start) = some true := by decide +kernel
theorem eq_s_start_s_forward : eqP (.str s_start) (.str s_forward) = some false := by decide +kernel
theorem eq_s_start_s_x : eqP (.str s_start) (.str s_x) = some false := by decide +kernel
theorem eq_s_forward_s_backward : eqP (.str s_forward) (.str s_backward) = some false := by decide +kernel
theorem eq_s_forward_s_end : eqP (.str s_forward) (.str s_end) = some false := by decide +kernel
theorem eq_s_forward_s_x20 : eqP (.str s_forward) (.str s_x20) = some false := by decide +kernel
theorem eq_s_forward_s_start : eqP (.str s_forward) (.str s_start) = some false := by decide +kernel
theorem eq_s_forward_s_forward : eqP (.str s_forward) (.str s_forward) = some true := by decide +kernel
theorem eq_s_forward_s_x : eqP (.str s_forward) (.str s_x) = some false := by decide +kernel
theorem eq_s_x_s_backward : eqP (.str s_x) (.str s_backward) = some false := by decide +kernel
theorem eq_s_x_s_end : eqP (.str s_x) (.str s_end) = some false := by decide +kernel
theorem eq_s_x_s_x20 : eqP (.str s_x) (.str s_x20) = some false := by decide +kernel
theorem eq_s_x_s_start : eqP (.str s_x) (.str s_start) = some false := by decide +kernel
theorem eq_s_x_s_forward : eqP (.str s_x) (.str s_forward) = some false := by decide +kernel
theorem eq_s_x_s_x : eqP (.str s_x) (.str s_x) = some true := by decide +kernel
def b_is_plain_int : ISs :=
  .cons (.ret (.and (.isi (.var 0) ["int"]) (.not (.isi (.var 0) ["bool"])))) .nil
def f_is_plain_int : Fn := .code ["value"] 1 b_is_plain_int
def b_is_permutation : ISs :=
  .cons (.ite (.or (.not (.isi (.var 1) ["tuple"])) (.or (.cmp .Lt (.var 0) (.cint 1)) (.cmp .NotEq (.blt .len (.cons (.var 1) .nil)) (.var 0)))) (.cons (.ret (.cbl false)) .nil) .nil)
  (.cons (.ite (.not (.blt .all (.cons (.lc [("item", 2)] (.name 2) (.seq (.var 1)) .none (.call n_is_plain_int (.cons (.var 2) .nil))) .nil))) (.cons (.ret (.cbl false)) .nil) .nil)
  (.cons (.ret (.cmp .Eq (.blt .sorted (.cons (.var 1) .nil)) (.lr (.var 0)))) .nil))
def f_is_permutation : Fn := .code ["size", "value"] 3 b_is_permutation
def b_law_pick : ISs :=
  .cons (.ret (.ix (.var 1) (.call n__law_draw (.cons (.var 0) (.cons (.blt .len (.cons (.var 1) .nil)) .nil))))) .nil
def f_law_pick : Fn := .code ["_law_rng", "_law_some"] 2 b_law_pick
def b_law_same : ISs :=
  .cons (.ite (.isi (.var 1) ["list", "tuple"]) (.cons (.ite (.or (.cmp .NotEq (.isi (.var 0) ["list"]) (.isi (.var 1) ["list"])) (.cmp .NotEq (.isi (.var 0) ["tuple"]) (.isi (.var 1) ["tuple"]))) (.cons (.ret (.cbl false)) .nil) .nil)
    (.cons (.ret (.and (.cmp .Eq (.blt .len (.cons (.var 0) .nil)) (.blt .len (.cons (.var 1) .nil))) (.blt .all (.cons (.lc [("_law_mine", 2), ("_law_other", 3)] (.tup [2, 3]) (.zip (.var 0) (.var 1)) .none (.call n__law_same (.cons (.var 2) (.cons (.var 3) .nil)))) .nil)))) .nil)) .nil)
  (.cons (.ite (.or (.cmp .Is (.var 1) .cnon) (.isi (.var 1) ["bool", "str"])) (.cons (.ret (.and (.cmp .Eq (.var 0) (.var 1)) (.and (.cmp .Eq (.isi (.var 0) ["bool"]) (.isi (.var 1) ["bool"])) (.cmp .Eq (.cmp .Is (.var 0) .cnon) (.cmp .Is (.var 1) .cnon))))) .nil) .nil)
  (.cons (.ret (.and (.isi (.var 0) ["int"]) (.and (.not (.isi (.var 0) ["bool"])) (.cmp .Eq (.var 0) (.var 1))))) .nil))
def f_law_same : Fn := .code ["_law_found", "_law_want"] 4 b_law_same
def l1_law_shuffle : ISs :=
  .cons (.expr (.meth .insert (.var 2) (.cons (.call n__law_draw (.cons (.var 0) (.cons (.bin .Add (.blt .len (.cons (.var 2) .nil)) (.cint 1)) .nil))) (.cons (.var 3) .nil)))) .nil
def b_law_shuffle : ISs :=
  .cons (.set 2 (.lst .nil))
  (.cons (.for (.name 3) (.seq (.var 1)) l1_law_shuffle)
  (.cons (.ret (.var 2)) .nil))
def f_law_shuffle : Fn := .code ["_law_rng", "_law_some"] 4 b_law_shuffle
def b_law_replaced : ISs :=
  .cons (.set 2 (.lst (.cons .cnon (.cons (.cbl true) (.cons (.cbl false) (.cons (.cint 0) (.cons (.cint 1) (.cons (.neg (.cint 1)) (.cons (.cint 9) (.cons (.cstr s_x) (.cons (.cstr s_forward) (.cons (.cstr s_start) (.cons (.tup .nil) (.cons (.lst .nil) (.cons (.tup (.cons (.cint 0) .nil)) (.cons (.lst (.cons (.cint 0) .nil)) (.cons (.tup (.cons (.cint 0) (.cons (.cint 1) .nil))) (.cons (.tup (.cons (.cint 1) (.cons (.cint 0) .nil))) (.cons (.tup (.cons (.cint 0) (.cons (.cint 0) (.cons (.tup (.cons (.cint 0) .nil)) .nil)))) .nil)))))))))))))))))))
  (.cons (.ite (.isi (.var 1) ["int"]) (.cons (.set 2 (.bin .Add (.var 2) (.bin .Mult (.lst (.cons (.bin .Add (.var 1) (.cint 1)) (.cons (.bin .Sub (.var 1) (.cint 1)) (.cons (.blt .str (.cons (.var 1) .nil)) (.cons (.cmp .Eq (.var 1) (.cint 1)) .nil))))) (.cint 2)))) .nil) .nil)
  (.cons (.ite (.isi (.var 1) ["str"]) (.cons (.set 2 (.bin .Add (.var 2) (.lst (.cons (.bin .Add (.var 1) (.cstr s_x20)) (.cons (.slice (.var 1) (.some (.cint 1)) .none) (.cons (.meth .upper (.var 1) .nil) (.cons (.lst (.cons (.var 1) .nil)) (.cons (.cstr s_end) (.cons (.cstr s_backward) .nil))))))))) .nil) .nil)
  (.cons (.ret (.call n__law_pick (.cons (.var 0) (.cons (.var 2) .nil)))) .nil)))
def f_law_replaced : Fn := .code ["_law_rng", "_law_item"] 3 b_law_replaced
def b_law_mutate : ISs :=
  .cons (.ite (.or (.not (.isi (.var 1) ["list", "tuple"])) (.or (.cmp .Eq (.blt .len (.cons (.var 1) .nil)) (.cint 0)) (.cmp .Eq (.call n__law_draw (.cons (.var 0) (.cons (.cint 7) .nil))) (.cint 0)))) (.cons (.ret (.call n__law_replaced (.cons (.var 0) (.cons (.var 1) .nil)))) .nil) .nil)
  (.cons (.par [2, 3, 4] (.cons (.call n__law_draw (.cons (.var 0) (.cons (.cint 9) .nil))) (.cons (.call n__law_draw (.cons (.var 0) (.cons (.blt .len (.cons (.var 1) .nil)) .nil))) (.cons (.blt .list (.cons (.var 1) .nil)) .nil))))
  (.cons (.ite (.cmp .Lt (.var 2) (.cint 4)) (.cons (.setSub (.var 4) (.var 3) (.call n__law_mutate (.cons (.var 0) (.cons (.ix (.var 4) (.var 3)) .nil)))) .nil) (.cons (.ite (.cmp .Eq (.var 2) (.cint 4)) (.cons (.expr (.meth .popAt (.var 4) (.cons (.var 3) .nil))) .nil) (.cons (.ite (.cmp .Eq (.var 2) (.cint 5)) (.cons (.expr (.meth .insert (.var 4) (.cons (.var 3) (.cons (.ix (.var 4) (.var 3)) .nil)))) .nil) (.cons (.ite (.cmp .Eq (.var 2) (.cint 6)) (.cons (.set 4 (.rev (.var 4))) .nil) (.cons (.ite (.cmp .Eq (.var 2) (.cint 7)) (.cons (.set 4 (.bin .Add (.bin .Add (.slice (.var 4) .none (.some (.var 3))) (.rev (.slice (.var 4) (.some (.var 3)) (.some (.bin .Add (.var 3) (.cint 2)))))) (.slice (.var 4) (.some (.bin .Add (.var 3) (.cint 2))) .none))) .nil) (.cons (.ret (.ite (.isi (.var 1) ["list"]) (.blt .tuple (.cons (.var 4) .nil)) (.var 4))) .nil)) .nil)) .nil)) .nil)) .nil))
  (.cons (.ret (.ite (.isi (.var 1) ["list"]) (.var 4) (.blt .tuple (.cons (.var 4) .nil)))) .nil)))
def f_law_mutate : Fn := .code ["_law_rng", "_law_item"] 5 b_law_mutate
def b_law_integer : ISs :=
  .cons (.ret (.and (.isi (.var 0) ["int"]) (.not (.isi (.var 0) ["bool"])))) .nil
def f_law_integer : Fn := .code ["_law_item"] 1 b_law_integer
def b_law_is_permutation : ISs :=
  .cons (.ite (.or (.not (.isi (.var 1) ["tuple"])) (.or (.cmp .NotEq (.blt .len (.cons (.var 1) .nil)) (.var 0)) (.not (.blt .all (.cons (.lc [("_law_peg", 2)] (.name 2) (.seq (.var 1)) .none (.call n__law_integer (.cons (.var 2) .nil))) .nil))))) (.cons (.ret (.cbl false)) .nil) .nil)
  (.cons (.ret (.blt .all (.cons (.lc [("_law_peg", 2)] (.name 2) (.range1 (.var 0)) .none (.cmp .In (.var 2) (.var 1))) .nil))) .nil)
def f_law_is_permutation : Fn := .code ["_law_degree", "_law_item"] 3 b_law_is_permutation
def b_is_number_below : ISs :=
  .cons (.ret (.and (.call n_is_plain_int (.cons (.var 1) .nil)) (.chain .LtE .Lt (.cint 0) (.var 1) (.var 0)))) .nil
def f_is_number_below : Fn := .code ["limit", "value"] 2 b_is_number_below
def b_is_fitting_passage : ISs :=
  .cons (.ite (.or (.not (.isi (.var 2) ["tuple"])) (.cmp .NotEq (.blt .len (.cons (.var 2) .nil)) (.cint 3))) (.cons (.ret (.cbl false)) .nil) .nil)
  (.cons (.setT [3, 4, 5] (.var 2))
  (.cons (.ite (.or (.not (.call n_is_number_below (.cons (.var 0) (.cons (.var 3) .nil)))) (.not (.call n_is_number_below (.cons (.var 0) (.cons (.var 4) .nil))))) (.cons (.ret (.cbl false)) .nil) .nil)
  (.cons (.ret (.call n_is_permutation (.cons (.var 1) (.cons (.var 5) .nil)))) .nil)))
def f_is_fitting_passage : Fn := .code ["rooms", "size", "value"] 6 b_is_fitting_passage
def b_is_house : ISs :=
  .cons (.ite (.or (.not (.isi (.var 0) ["tuple"])) (.cmp .NotEq (.blt .len (.cons (.var 0) .nil)) (.cint 3))) (.cons (.ret (.cbl false)) .nil) .nil)
  (.cons (.setT [1, 2, 3] (.var 0))
  (.cons (.ite (.or (.not (.call n_is_plain_int (.cons (.var 1) .nil))) (.or (.not (.call n_is_plain_int (.cons (.var 2) .nil))) (.not (.isi (.var 3) ["tuple"])))) (.cons (.ret (.cbl false)) .nil) .nil)
  (.cons (.ite (.or (.cmp .Lt (.var 1) (.cint 1)) (.cmp .Lt (.var 2) (.cint 1))) (.cons (.ret (.cbl false)) .nil) .nil)
  (.cons (.ret (.blt .all (.cons (.lc [("passage", 4)] (.name 4) (.seq (.var 3)) .none (.call n_is_fitting_passage (.cons (.var 1) (.cons (.var 2) (.cons (.var 4) .nil))))) .nil))) .nil))))
def f_is_house : Fn := .code ["value"] 5 b_is_house
def b_law_permutation : ISs :=
  .cons (.set 2 (.call n__law_draw (.cons (.var 0) (.cons (.cint 5) .nil))))
  (.cons (.set 3 (.lr (.var 1)))
  (.cons (.ite (.cmp .Eq (.var 2) (.cint 1)) (.cons (.set 4 (.call n__law_draw (.cons (.var 0) (.cons (.var 1) .nil))))
    (.cons (.set 3 (.bin .Add (.bin .Add (.slice (.var 3) .none (.some (.var 4))) (.rev (.slice (.var 3) (.some (.var 4)) (.some (.bin .Add (.var 4) (.cint 2)))))) (.slice (.var 3) (.some (.bin .Add (.var 4) (.cint 2))) .none))) .nil)) (.cons (.ite (.cmp .Eq (.var 2) (.cint 2)) (.cons (.set 3 (.bin .Add (.slice (.var 3) (.some (.cint 1)) .none) (.slice (.var 3) .none (.some (.cint 1))))) .nil) (.cons (.ite (.cmp .Gt (.var 2) (.cint 2)) (.cons (.set 3 (.call n__law_shuffle (.cons (.var 0) (.cons (.var 3) .nil)))) .nil) .nil) .nil)) .nil))
  (.cons (.ret (.blt .tuple (.cons (.var 3) .nil))) .nil)))
def f_law_permutation : Fn := .code ["_law_rng", "_law_degree"] 5 b_law_permutation
def b_law_passage : ISs :=
  .cons (.par [3, 4] (.cons (.call n__law_draw (.cons (.var 0) (.cons (.var 1) .nil))) (.cons (.call n__law_draw (.cons (.var 0) (.cons (.cint 4) .nil))) .nil)))
  (.cons (.set 5 (.ite (.cmp .Eq (.var 4) (.cint 0)) (.var 3) (.call n__law_draw (.cons (.var 0) (.cons (.var 1) .nil)))))
  (.cons (.ret (.tup (.cons (.var 3) (.cons (.var 5) (.cons (.call n__law_permutation (.cons (.var 0) (.cons (.var 2) .nil))) .nil))))) .nil))
def f_law_passage : Fn := .code ["_law_rng", "_law_rooms", "_law_degree"] 6 b_law_passage
def b_law_house : ISs :=
  .cons (.par [1, 2] (.cons (.bin .Add (.cint 1) (.call n__law_draw (.cons (.var 0) (.cons (.var 1) .nil)))) (.cons (.bin .Add (.cint 1) (.call n__law_draw (.cons (.var 0) (.cons (.var 2) .nil)))) .nil)))
  (.cons (.ret (.tup (.cons (.var 1) (.cons (.var 2) (.cons (.blt .tuple (.cons (.lc [("_law_k", 4)] (.name 4) (.range1 (.call n__law_draw (.cons (.var 0) (.cons (.bin .Add (.var 3) (.cint 1)) .nil)))) .none (.call n__law_passage (.cons (.var 0) (.cons (.var 1) (.cons (.var 2) .nil))))) .nil)) .nil))))) .nil)
def f_law_house : Fn := .code ["_law_rng", "_law_rooms", "_law_degree", "_law_most"] 5 b_law_house
def b_law_is_passage : ISs :=
  .cons (.ite (.or (.not (.isi (.var 2) ["tuple"])) (.cmp .NotEq (.blt .len (.cons (.var 2) .nil)) (.cint 3))) (.cons (.ret (.cbl false)) .nil) .nil)
  (.cons (.ite (.not (.blt .all (.cons (.lc [("_law_node", 3)] (.name 3) (.seq (.slice (.var 2) .none (.some (.cint 2)))) .none (.and (.call n__law_integer (.cons (.var 3) .nil)) (.chain .LtE .Lt (.cint 0) (.var 3) (.var 0)))) .nil))) (.cons (.ret (.cbl false)) .nil) .nil)
  (.cons (.ret (.call n__law_is_permutation (.cons (.var 1) (.cons (.ix (.var 2) (.cint 2)) .nil)))) .nil))
def f_law_is_passage : Fn := .code ["_law_rooms", "_law_degree", "_law_item"] 4 b_law_is_passage
def b_law_is_house : ISs :=
  .cons (.ite (.or (.not (.isi (.var 0) ["tuple"])) (.or (.cmp .NotEq (.blt .len (.cons (.var 0) .nil)) (.cint 3)) (.or (.not (.call n__law_integer (.cons (.ix (.var 0) (.cint 0)) .nil))) (.not (.call n__law_integer (.cons (.ix (.var 0) (.cint 1)) .nil)))))) (.cons (.ret (.cbl false)) .nil) .nil)
  (.cons (.ite (.or (.cmp .Lt (.ix (.var 0) (.cint 0)) (.cint 1)) (.or (.cmp .Lt (.ix (.var 0) (.cint 1)) (.cint 1)) (.not (.isi (.ix (.var 0) (.cint 2)) ["tuple"])))) (.cons (.ret (.cbl false)) .nil) .nil)
  (.cons (.ret (.blt .all (.cons (.lc [("_law_part", 1)] (.name 1) (.seq (.ix (.var 0) (.cint 2))) .none (.call n__law_is_passage (.cons (.ix (.var 0) (.cint 0)) (.cons (.ix (.var 0) (.cint 1)) (.cons (.var 1) .nil))))) .nil))) .nil))
def f_law_is_house : Fn := .code ["_law_item"] 2 b_law_is_house
def l1_inverse : ISs :=
  .cons (.setSub (.var 1) (.var 3) (.var 2)) .nil
def b_inverse : ISs :=
  .cons (.set 1 (.bin .Mult (.lst (.cons (.cint 0) .nil)) (.blt .len (.cons (.var 0) .nil))))
  (.cons (.for (.tup [2, 3]) (.enum (.var 0)) l1_inverse)
  (.cons (.ret (.blt .tuple (.cons (.var 1) .nil))) .nil))
def f_inverse : Fn := .code ["permutation"] 4 b_inverse
def b_crossing : ISs :=
  .cons (.setT [2, 3, 4] (.var 0))
  (.cons (.ite (.cmp .Eq (.var 1) (.cstr s_forward)) (.cons (.ret (.tup (.cons (.var 2) (.cons (.var 3) (.cons (.var 4) .nil))))) .nil) .nil)
  (.cons (.ret (.tup (.cons (.var 3) (.cons (.var 2) (.cons (.call n_inverse (.cons (.var 4) .nil)) .nil))))) .nil))
def f_crossing : Fn := .code ["passage", "direction"] 5 b_crossing
def b_end_room : ISs :=
  .cons (.ite (.cmp .Eq (.var 1) (.cstr s_start)) (.cons (.ret (.ix (.var 0) (.cint 0))) .nil) .nil)
  (.cons (.ret (.ix (.var 0) (.cint 1))) .nil)
def f_end_room : Fn := .code ["passage", "side"] 2 b_end_room
def b_is_slide : ISs :=
  .cons (.ite (.or (.not (.isi (.var 1) ["tuple"])) (.cmp .NotEq (.blt .len (.cons (.var 1) .nil)) (.cint 4))) (.cons (.ret (.cbl false)) .nil) .nil)
  (.cons (.setT [2, 3, 4, 5] (.var 1))
  (.cons (.ite (.or (.cmp .NotIn (.var 3) (.tup (.cons (.cstr s_end) (.cons (.cstr s_start) .nil)))) (.cmp .NotIn (.var 5) (.tup (.cons (.cstr s_backward) (.cons (.cstr s_forward) .nil))))) (.cons (.ret (.cbl false)) .nil) .nil)
  (.cons (.ite (.or (.not (.call n_is_plain_int (.cons (.var 2) .nil))) (.or (.not (.call n_is_number_below (.cons (.var 2) (.cons (.var 4) .nil)))) (.cmp .GtE (.var 2) (.blt .len (.cons (.ix (.var 0) (.cint 2)) .nil))))) (.cons (.ret (.cbl false)) .nil) .nil)
  (.cons (.set 6 (.ix (.call n_crossing (.cons (.ix (.ix (.var 0) (.cint 2)) (.var 4)) (.cons (.var 5) .nil))) (.cint 0)))
  (.cons (.ret (.cmp .Eq (.call n_end_room (.cons (.ix (.ix (.var 0) (.cint 2)) (.var 2)) (.cons (.var 3) .nil))) (.var 6))) .nil)))))
def f_is_slide : Fn := .code ["house", "value"] 7 b_is_slide
def b_law_listed : ISs :=
  .cons (.ret (.ite (.isi (.var 0) ["list", "tuple"]) (.lc [("_law_part", 1)] (.name 1) (.seq (.var 0)) .none (.call n__law_listed (.cons (.var 1) .nil))) (.var 0))) .nil
def f_law_listed : Fn := .code ["_law_item"] 2 b_law_listed
def b_law_inverse : ISs :=
  .cons (.ret (.blt .tuple (.cons (.lc [("_law_peg", 1)] (.name 1) (.range1 (.blt .len (.cons (.var 0) .nil))) .none (.meth .index (.var 0) (.cons (.var 1) .nil))) .nil))) .nil
def f_law_inverse : Fn := .code ["_law_perm"] 2 b_law_inverse
def b_law_ends : ISs :=
  .cons (.setT [2, 3, 4] (.var 0))
  (.cons (.ret (.ite (.cmp .Eq (.var 1) (.cstr s_forward)) (.tup (.cons (.var 2) (.cons (.var 3) (.cons (.var 4) .nil)))) (.tup (.cons (.var 3) (.cons (.var 2) (.cons (.call n__law_inverse (.cons (.var 4) .nil)) .nil)))))) .nil)
def f_law_ends : Fn := .code ["_law_edge", "_law_way"] 5 b_law_ends
def l1_law_is_slide : ISs :=
  .cons (.ite (.or (.not (.isi (.var 6) ["int"])) (.or (.isi (.var 6) ["bool"]) (.not (.chain .LtE .Lt (.cint 0) (.var 6) (.blt .len (.cons (.ix (.var 0) (.cint 2)) .nil)))))) (.cons (.ret (.cbl false)) .nil) .nil) .nil
def b_law_is_slide : ISs :=
  .cons (.ite (.or (.not (.isi (.var 1) ["tuple"])) (.cmp .NotEq (.blt .len (.cons (.var 1) .nil)) (.cint 4))) (.cons (.ret (.cbl false)) .nil) .nil)
  (.cons (.setT [2, 3, 4, 5] (.var 1))
  (.cons (.for (.name 6) (.seq (.tup (.cons (.var 2) (.cons (.var 4) .nil)))) l1_law_is_slide)
  (.cons (.ite (.or (.cmp .GtE (.var 4) (.var 2)) (.or (.not (.isi (.var 3) ["str"])) (.not (.isi (.var 5) ["str"])))) (.cons (.ret (.cbl false)) .nil) .nil)
  (.cons (.ite (.or (.cmp .NotIn (.var 3) (.tup (.cons (.cstr s_start) (.cons (.cstr s_end) .nil)))) (.cmp .NotIn (.var 5) (.tup (.cons (.cstr s_forward) (.cons (.cstr s_backward) .nil))))) (.cons (.ret (.cbl false)) .nil) .nil)
  (.cons (.ret (.cmp .Eq (.ix (.ix (.ix (.var 0) (.cint 2)) (.var 2)) (.blt .int (.cons (.cmp .Eq (.var 3) (.cstr s_end)) .nil))) (.ix (.call n__law_ends (.cons (.ix (.ix (.var 0) (.cint 2)) (.var 4)) (.cons (.var 5) .nil))) (.cint 0)))) .nil)))))
def f_law_is_slide : Fn := .code ["_law_net", "_law_item"] 7 b_law_is_slide
def l3_law_slides : ISs :=
  .cons (.ite (.call n__law_is_slide (.cons (.var 0) (.cons (.tup (.cons (.var 1) (.cons (.var 3) (.cons (.var 4) (.cons (.var 5) .nil))))) .nil))) (.cons (.expr (.meth .append (.var 2) (.cons (.tup (.cons (.var 1) (.cons (.var 3) (.cons (.var 4) (.cons (.var 5) .nil))))) .nil))) .nil) .nil) .nil
def l2_law_slides : ISs :=
  .cons (.for (.name 5) (.seq (.tup (.cons (.cstr s_backward) (.cons (.cstr s_forward) .nil)))) l3_law_slides) .nil
def l1_law_slides : ISs :=
  .cons (.for (.name 4) (.range1 (.var 1)) l2_law_slides) .nil
def b_law_slides : ISs :=
  .cons (.set 2 (.lst .nil))
  (.cons (.for (.name 3) (.seq (.tup (.cons (.cstr s_end) (.cons (.cstr s_start) .nil)))) l1_law_slides)
  (.cons (.ret (.var 2)) .nil))
def f_law_slides : Fn := .code ["_law_net", "_law_mover"] 6 b_law_slides
end LP
end
section
/-! # repr and == of trees that hold no source of draws -/
namespace DI
open PySem L2
mutual
def toPy : PV → PyData
  | .non => .none
  | .bl b => .bool b
  | .int i => .int i
  | .str x => .str x
  | .tup xs => .tuple (toPys xs)
  | .lst xs => .list (toPys xs)
  | .scr _ => .none
  | .rng => .none
  | .pr _ _ => .none
def toPys : List PV → List PyData
  | [] => []
  | x :: xs => toPy x :: toPys xs
end
mutual
def dep : PV → Nat
  | .tup xs => deps xs + 1
  | .lst xs => deps xs + 1
  | _ => 0
def deps : List PV → Nat
  | [] => 0
  | x :: xs => max (dep x) (deps xs)
end
def costI (i : Int) : Nat := if i.natAbs < 1000 then 4 else 42
def okI (i : Int) : Bool := decide (i.natAbs < 10 ^ 40)
mutual
def okV : PV → Bool
  | .non | .bl _ => true
  | .int i => okI i
  | .str x => strOkB x
  | .tup xs => okVs xs
  | .lst xs => okVs xs
  | .scr _ => false
  | .rng => false
  | .pr _ _ => false
def okVs : List PV → Bool
  | [] => true
  | x :: xs => okV x && okVs xs
end
mutual
def costV : PV → Nat
  | .non => 4
  | .bl _ => 5
  | .int i => costI i
  | .str x => 10 * x.length + 2
  | .tup xs => costVs xs + 3
  | .lst xs => costVs xs + 3
  | .scr _ => 0
  | .rng => 0
  | .pr _ _ => 0
def costVs : List PV → Nat
  | [] => 0
  | x :: xs => costV x + 2 + costVs xs
end
theorem okVs_iff {xs : List PV} : okVs xs = true ↔ ∀ x ∈ xs, okV x = true := by
  induction xs with
  | nil => exact ⟨fun _ x hx => (by cases hx), fun _ => rfl⟩
  | cons x xs ih =>
    show (okV x && okVs xs) = true ↔ _
    rw [Bool.and_eq_true_iff, ih]
    exact ⟨fun h y hy => (List.mem_cons.mp hy).elim (fun e => e ▸ h.1) (h.2 y), fun h => ⟨h x List.mem_cons_self, fun y hy => h y (List.mem_cons_of_mem _ hy)⟩⟩
mutual
theorem pyP_ok : ∀ (n : Nat) (v : PV), okV v = true → dep v < n → pyP n v = some (toPy v)
  | 0, v, _, h => by omega
  | n + 1, .non, _, _ => rfl
  | n + 1, .bl b, _, _ => rfl
  | n + 1, .int b, _, _ => rfl
  | n + 1, .str b, h, _ => by
    have h1 : strOkB b = true := h
    show (if strOkB b then some (PyData.str b) else none) = _
    rw [if_pos h1]
    rfl
  | n + 1, .tup xs, h, hd => by
    have q := pysP_ok n xs h (by
      have : deps xs + 1 < n + 1 := hd
      omega)
    unfold pyP
    rw [q]
    rfl
  | n + 1, .lst xs, h, hd => by
    have q := pysP_ok n xs h (by
      have : deps xs + 1 < n + 1 := hd
      omega)
    unfold pyP
    rw [q]
    rfl
  | n + 1, .scr _, h, _ => by cases h
  | n + 1, .rng, h, _ => by cases h
  | n + 1, .pr _ _, h, _ => by cases h
theorem pysP_ok : ∀ (n : Nat) (vs : List PV), okVs vs = true → deps vs < n → pyP.pysP n vs = some (toPys vs)
  | _, [], _, _ => by unfold pyP.pysP; rfl
  | n, x :: xs, h, hd => by
    have hd : max (dep x) (deps xs) < n := hd
    obtain ⟨h1, h2⟩ := Bool.and_eq_true_iff.mp (show (okV x && okVs xs) = true from h)
    unfold pyP.pysP
    rw [pyP_ok n x h1 (by omega), pysP_ok n xs h2 (by omega)]
    rfl
end
mutual
theorem eqv_self : ∀ v : PV, PyData.eqv (toPy v) (toPy v) = true
  | .non => rfl
  | .bl b => by cases b <;> rfl
  | .int i => by simp [toPy, PyData.eqv]
  | .str x => by simp [toPy, PyData.eqv]
  | .tup xs => eqvs_self xs
  | .lst xs => eqvs_self xs
  | .scr _ => rfl
  | .rng => rfl
  | .pr _ _ => rfl
theorem eqvs_self : ∀ vs : List PV, PyData.eqvAll (toPys vs) (toPys vs) = true
  | [] => rfl
  | x :: xs => by
    show (PyData.eqv (toPy x) (toPy x) && PyData.eqvAll (toPys xs) (toPys xs)) = true
    rw [eqv_self x, eqvs_self xs]
    rfl
end
theorem eq_self {v : PV} (h : okV v = true) (hd : dep v < 24) : eqP v v = some true := by
  unfold eqP
  rw [pyP_ok deep v h hd]
  dsimp only
  rw [eqv_self]
theorem eq_ok {v u : PV} (h : okV v = true) (hd : dep v < 24) (h' : okV u = true) (hd' : dep u < 24) : eqP v u = some (PyData.eqv (toPy v) (toPy u)) := by
  unfold eqP
  rw [pyP_ok deep v h hd, pyP_ok deep u h' hd']
theorem showable_ok : ∀ v : PV, okV v = true → (toPy v).showable = true
  | .non, _ => by simp only [toPy, PyData.showable]
  | .bl b, _ => by simp only [toPy, PyData.showable]
  | .int i, h => by
    simp only [toPy, PyData.showable]
    have h : i.natAbs < 10 ^ 40 := of_decide_eq_true h
    refine decide_eq_true ?_
    by_cases e : i.natAbs = 0
    · rw [e]
      decide
    · exact Nat.lt_of_lt_of_le ((Nat.log2_lt e).mpr (Nat.lt_of_lt_of_le h (by decide : 10 ^ 40 ≤ 2 ^ 140))) (by decide)
  | .str b, _ => by simp only [toPy, PyData.showable]
  | .tup xs, h => by
    simp only [toPy, PyData.showable]
    exact go xs h
  | .lst xs, h => by
    simp only [toPy, PyData.showable]
    exact go xs h
  | .scr _, h => by cases h
  | .rng, h => by cases h
  | .pr _ _, h => by cases h
where go : ∀ vs : List PV, okVs vs = true → PyData.showableAll (toPys vs) = true
  | [], _ => by simp only [toPys, PyData.showableAll]
  | x :: xs, h => by
    obtain ⟨h1, h2⟩ := Bool.and_eq_true_iff.mp (show (okV x && okVs xs) = true from h)
    simp only [toPys, PyData.showableAll, showable_ok x h1, go xs h2, Bool.and_self]
theorem toString_len {i : Int} (h : i.natAbs < 10 ^ 40) : ((toString i : String) : Str).length ≤ costI i := by
  have pos : ∀ n : Nat, ∀ k : Nat, 0 < k → n < 10 ^ k → (Str.ofString (toString (n : Int))).length ≤ k := fun n k hk hn => by
    refine PyProof.Rows.toString_length_le (Int.natCast_nonneg n) hk ?_
    have : ((n : Nat) : Int) < ((10 ^ k : Nat) : Int) := Int.ofNat_lt.mpr hn
    rwa [Int.natCast_pow] at this
  unfold costI
  cases i with
  | ofNat n =>
    have h : n < 10 ^ 40 := h
    show (Str.ofString (toString ((n : Nat) : Int))).length ≤ if n < 1000 then 4 else 42
    split
    · rename_i c
      exact Nat.le_trans (pos n 3 (by decide) c) (by decide)
    · exact Nat.le_trans (pos n 40 (by decide) h) (by decide)
  | negSucc n =>
    have h : n + 1 < 10 ^ 40 := h
    have e : (Str.ofString (toString (Int.negSucc n))).length = (Str.ofString (toString ((n + 1 : Nat) : Int))).length + 1 := by
      rw [PyProof.Rows.ofString_length, PyProof.Rows.ofString_length]
      show ("-" ++ toString (n + 1)).toList.length = (toString ((n + 1 : Nat) : Int)).toList.length + 1
      rw [String.toList_append, List.length_append]
      show 1 + _ = _ + 1
      rw [Nat.add_comm]
      rfl
    show (Str.ofString (toString (Int.negSucc n))).length ≤ if n + 1 < 1000 then 4 else 42
    rw [e]
    split
    · rename_i c
      exact Nat.succ_le_succ (pos (n + 1) 3 (by decide) c)
    · exact Nat.succ_le_succ (Nat.le_trans (pos (n + 1) 40 (by decide) h) (by decide))
theorem textFrom_le : ∀ (ts : List Str) (k : Nat) (acc : Str), (textFrom k acc ts).length ≤ acc.length + piled ts
  | [], k, acc => Nat.le_refl _
  | t :: ts, k, acc => by
    have h := textFrom_le ts (k + 1) (acc ++ ((if k > 0 then ", " else "" : String) : Str) ++ t)
    have e : (acc ++ ((if k > 0 then ", " else "" : String) : Str) ++ t).length ≤ acc.length + 2 + t.length := by
      rw [strLen_append, strLen_append]
      split
      · exact Nat.le_refl _
      · have : (("" : String) : Str).length = 0 := rfl
        omega
    rw [piled_cons]
    show (textFrom (k + 1) (acc ++ ((if k > 0 then ", " else "" : String) : Str) ++ t) ts).length ≤ _
    omega
theorem listText_le (ts : List Str) : (listText ts).length ≤ piled ts + 2 := by
  unfold listText
  rw [strLen_append]
  have := textFrom_le ts 0 (("[" : String) : Str)
  have e1 : (("[" : String) : Str).length = 1 := rfl
  have e2 : (("]" : String) : Str).length = 1 := rfl
  omega
theorem tupleText_le (ts : List Str) : (tupleText ts).length ≤ piled ts + 3 := by
  unfold tupleText
  rw [strLen_append, strLen_append]
  have e1 : (("(" : String) : Str).length = 1 := rfl
  have e2 : (((if ts.length == 1 then ",)" else ")" : String) : Str)).length ≤ 2 := by split <;> decide
  by_cases e : ts = []
  · subst e
    have : (Str.join ", " []).length = 0 := rfl
    omega
  · have := join_length_add ts e
    omega
mutual
theorem shown_le : ∀ v : PV, okV v = true → (toPy v).shown.length ≤ costV v
  | .non, _ => by simp only [toPy, PyData.shown]; decide
  | .bl b, _ => by
    simp only [toPy, PyData.shown]
    cases b <;> decide
  | .int i, h => by
    simp only [toPy, PyData.shown]
    exact toString_len (of_decide_eq_true h)
  | .str x, h => by
    simp only [toPy, PyData.shown]
    refine StrLaws.reprText_len x fun c hc => ?_
    have h : x.cps.all (· < 0x110000) = true := h
    rw [← Array.all_toList] at h
    exact Nat.lt_trans (of_decide_eq_true (List.all_eq_true.mp h c hc)) (by decide)
  | .tup xs, h => by
    simp only [toPy, PyData.shown]
    exact Nat.le_trans (tupleText_le _) (Nat.add_le_add_right (shown_les xs h) 3)
  | .lst xs, h => by
    simp only [toPy, PyData.shown]
    have := listText_le (PyData.shownAll (toPys xs))
    have q := shown_les xs h
    show _ ≤ costVs xs + 3
    omega
  | .scr _, h => by cases h
  | .rng, h => by cases h
  | .pr _ _, h => by cases h
theorem shown_les : ∀ vs : List PV, okVs vs = true → piled (PyData.shownAll (toPys vs)) ≤ costVs vs
  | [], _ => by simp only [toPys, PyData.shownAll]; exact Nat.le_refl _
  | x :: xs, h => by
    obtain ⟨h1, h2⟩ := Bool.and_eq_true_iff.mp (show (okV x && okVs xs) = true from h)
    have a := shown_le x h1
    have b := shown_les xs h2
    simp only [toPys, PyData.shownAll]
    rw [piled_cons]
    show _ ≤ costV x + 2 + costVs xs
    omega
end
/-- repr answers -/
theorem repr_ok {v : PV} (h : okV v = true) (hd : dep v < 24) (hc : costV v ≤ 100000) : reprP v = .ret (.fz, .str (toPy v).shown) := by
  unfold reprP
  rw [pyP_ok deep v h hd]
  dsimp only
  have : fits (toPy v).shown.length = true := Nat.ble_eq.mpr (Nat.le_trans (shown_le v h) hc)
  rw [showable_ok v h, this]
  rfl
end DI
end
section
set_option maxHeartbeats 4000000
local macro_rules | `(tactic| walk_at "pure") => `(tactic| conv => enter [1]; try simp (config := { maxSteps := 10000000 }) only [DI.kTup2, DI.kTup, DI.kLst2, DI.kLst, DI.kBin2, DI.kBin, DI.kNeg, DI.kBl, DI.kNot, DI.kCmp2, DI.kCmp, DI.kCh4, DI.kCh3, DI.kCh2, DI.kCh, DI.kAnd2, DI.kAnd, DI.kOr2, DI.kOr, DI.kNotE, DI.kIte2, DI.kIte, DI.kIx2, DI.kIx, DI.kSl3, DI.kSl2, DI.kSl, DI.kLr, DI.kIsi, DI.kCall2, DI.kCall, DI.kCons2, DI.kCons, DI.kOI, DI.kTru, DI.kKw4, DI.kKw3, DI.kKw2, DI.kKw1, DI.kKw, DI.kMt3, DI.kMt2, DI.kMt, DI.kT4, DI.kT3, DI.kT2, DI.kT1, DI.kTurn, DI.kLc2, DI.kLc, DI.kR1, DI.kR2b, DI.kR2, DI.kEn2, DI.kEn, DI.kSet2, DI.kSet, DI.kPop2, DI.kEnv, DI.kSetT3, DI.kSetT2, DI.kSetT, DI.kNx, DI.kSub4, DI.kSub3, DI.kSub2, DI.kSub, DI.kAug4, DI.kAug3, DI.kAug2, DI.kAug, DI.kRet2, DI.kRet, DI.kIf2, DI.kIf, DI.kFor2, DI.kFor, DI.kPar2, DI.kPar, DI.kSeq, DI.kIdx, DI.kApp3, DI.kApp, DI.kApp0, DI.kAp4, DI.kAp3, DI.kAp2, DI.kAp1, DI.kAp, DI.kMe4, DI.kMe3, DI.kMe2, DI.kMe, DI.kEx, DI.kZip4, DI.kZip3, DI.kZip2, DI.kZip, DI.kTest, DI.kPlc3, DI.kPlc2, DI.kMut2, DI.kMut, DI.kAppS, DI.kStS2, DI.kStS, DI.kPk, DI.newMdE, DI.ownL, DI.r_var, DI.r_cint, DI.r_cstr, DI.r_cbl, DI.r_cnon, DI.r_tup, DI.r_lst, DI.r_bin, DI.r_neg, DI.r_cmp, DI.r_chain, DI.r_and, DI.r_or, DI.r_not, DI.r_ite, DI.r_ix, DI.r_slice, DI.r_rev, DI.r_blt, DI.r_lr, DI.r_tr, DI.r_isi, DI.r_call, DI.r_nil, DI.r_cons, DI.r_onone, DI.r_osome, DI.r_cnone, DI.r_csome, DI.r_callK, DI.r_meth, DI.r_lc, DI.r_seq, DI.r_range1, DI.r_range2, DI.r_enum, DI.s_nil, DI.s_cons, DI.s_setT, DI.s_sub, DI.s_aug, DI.s_ite, DI.s_for, DI.s_par, DI.s_pass, DI.s_brk, DI.s_cont, DI.s_pop, DI.s_set_var, DI.s_ret_var, DI.s_set_cint, DI.s_ret_cint, DI.s_set_cstr, DI.s_ret_cstr, DI.s_set_cbl, DI.s_ret_cbl, DI.s_set_cnon, DI.s_ret_cnon, DI.s_set_tup, DI.s_ret_tup, DI.s_set_lst, DI.s_ret_lst, DI.s_set_bin, DI.s_ret_bin, DI.s_set_neg, DI.s_ret_neg, DI.s_set_cmp, DI.s_ret_cmp, DI.s_set_chain, DI.s_ret_chain, DI.s_set_and, DI.s_ret_and, DI.s_set_or, DI.s_ret_or, DI.s_set_not, DI.s_ret_not, DI.s_set_ite, DI.s_ret_ite, DI.s_set_ix, DI.s_ret_ix, DI.s_set_slice, DI.s_ret_slice, DI.s_set_rev, DI.s_ret_rev, DI.s_set_blt, DI.s_ret_blt, DI.s_set_lr, DI.s_ret_lr, DI.s_set_tr, DI.s_ret_tr, DI.s_set_isi, DI.s_ret_isi, DI.s_set_call, DI.s_ret_call, DI.s_set_callK, DI.s_ret_callK, DI.s_set_lc, DI.s_ret_lc, DI.s_set_upper, DI.s_ret_upper, DI.s_app, DI.s_app2, DI.s_insert, DI.s_popAt, DI.s_ex_call, DI.r_zip, DI.s_while, DI.r_plc, DI.fin_ret, DI.fin_next, DI.fin_exc, DI.frz1_n, DI.frz1_z, DI.frz1_s, DI.frz_n, DI.frz_c, DI.frzS_none, DI.frzS_fz, DI.frzS_b1, DI.frzS_b2, DI.frzS_o1t, DI.frzS_o1f, DI.frzS_o2t, DI.frzS_o2f, DI.varP_z, DI.varP_s, DI.set_z, DI.set_s, DI.atS_z, DI.atS_s, DI.ownB_e, DI.mutS_e, DI.appS_e, DI.setSubS_e, DI.e_var0, DI.e_var1, DI.e_var2, DI.e_tup, DI.e_lst, DI.e_bin, DI.e_neg, DI.e_cmp, DI.e_chain, DI.e_and, DI.e_or, DI.e_not, DI.e_ite, DI.e_ix0, DI.e_ix1, DI.e_ix2, DI.e_slice, DI.e_rev, DI.e_list, DI.e_tuple, DI.e_len, DI.e_all, DI.e_any, DI.e_abs, DI.e_int, DI.e_str, DI.e_repr, DI.e_min2, DI.e_max2, DI.e_lcm, DI.e_sorted, DI.e_lr, DI.e_tr, DI.e_isi, DI.e_call, DI.e_callK, DI.e_meth, DI.e_lc, DI.e_cint, DI.e_cstr, DI.e_cbl, DI.e_cnon, DI.e_nil, DI.e_cons, DI.e_onone, DI.e_osome, DI.e_seq, DI.e_range1, DI.e_range2, DI.e_enum, DI.e_zip, DI.wipe_n, DI.wipe_c, DI.lk_z, DI.lk_s, DI.pick_n, DI.pick_c, DI.mkS, DI.asTupP, DI.m_index, DI.newMd0, DI.movB0, DI.beqI, DI.bneI, DI.ownS, DI.binP, DI.itemsP, DI.cmpP, DI.truthP, DI.asBP, DI.itMd, DI.ixP, DI.sliceP, DI.revP, DI.tyP, DI.isiP, DI.rgP, DI.recvP, DI.augP, DI.stored, DI.litE, DI.allNew, DI.dispMd, DI.newE, DI.setEnvsP, DI.setEnvsM, DI.bindP, DI.rdMd, DI.stP, DI.seqP, DI.retMd, DI.Md.stB, DI.Md.cpB, DI.Md.own1, DI.Mth.listB, DI.flatP, DI.cf, DI.bI, DI.rgItemsP, DI.bltP, DI.bind_ret, DI.nox_ret, DI.resc_ret, DI.pif_true, DI.pif_false, DI.eqP_int, DI.eqP_bl, DI.eqP_bi, DI.eqP_non, DI.bind_stuck, DI.bind_draw, DI.nox_draw, DI.resc_draw, DI.resc_exc, DI.bind_exc, DI.popt_some, DI.popt_none, DI.plc_nil, DI.forP_nil, DI.enumP_nil, DI.enumP_cons, DI.zipP_nil, DI.zipP_cons, DI.len_q, DI.qlen_nil, DI.qlen_cons, DI.map_q, DI.qmap_nil, DI.qmap_cons, DI.app_q, DI.qapp_nil, DI.qapp_cons, DI.any_q, DI.qany_nil, DI.qany_cons, DI.all_q, DI.qall_nil, DI.qall_cons, DI.empty_q, DI.qempty_nil, DI.qempty_cons, DI.take_q, DI.drop_q, DI.rev_q, DI.blsP_nil, DI.blsP_cons, DI.intsP_nil, DI.intsP_cons, DI.at_q, DI.qat_0, DI.qat_1, DI.qat_2, DI.qat_3, DI.bls_true, DI.all_true, DI.imod_q, DI.idiv_q, DI.mut_append, DI.mut_insert, DI.qix_q, DI.ntI_q, DI.meth_upper, DI.repB_2_4, DI.repP_2, DI.repP_3, DI.fits_0, DI.fits_1, DI.fits_2, DI.fits_3, DI.fits_4, DI.fits_5, DI.fits_6, DI.fits_7, DI.fits_8, DI.fits_9, DI.fits_10, DI.fits_11, DI.fits_12, DI.fits_13, DI.fits_14, DI.fits_15, DI.fits_16, DI.fits_17, DI.fits_18, DI.fits_19, DI.fits_20, DI.fits_21, DI.fits_22, DI.fits_23, DI.fits_24, DI.fits_25, DI.fits_26, DI.fits_27, DI.fits_28, DI.fits_29, DI.fits_30, DI.fits_31, DI.fits_32, DI.fits_33, DI.fits_34, DI.fits_35, DI.fits_36, DI.fits_37, DI.fits_38, DI.fits_39, DI.fits_40, DI.fits_41, DI.fits_42, DI.fits_43, DI.fits_44, DI.fits_45, DI.fits_46, DI.fits_47, DI.fits_48, DI.fits_49, DI.fits_50, DI.fits_51, DI.fits_52, DI.fits_53, DI.fits_54, DI.fits_55, DI.fits_56, DI.fits_57, DI.fits_58, DI.fits_59, DI.fits_60, DI.fits_61, DI.fits_62, DI.fits_63, DI.fits_64, DI.nI_l, DI.ltI_t, DI.ltI_f, DI.leI_t, DI.leI_f, DI.nzI_t, DI.smI_t, DI.rgB_t, DI.rg1B_t, DI.rg2B_t, not_false_eq_true, not_true_eq_false, ne_eq, DI.ty_NoneType_bool, DI.ty_NoneType_int, DI.ty_NoneType_str, DI.ty_NoneType_tuple, DI.ty_NoneType_list, DI.ty_bool_bool, DI.ty_bool_int, DI.ty_bool_str, DI.ty_bool_tuple, DI.ty_bool_list, DI.ty_int_bool, DI.ty_int_int, DI.ty_int_str, DI.ty_int_tuple, DI.ty_int_list, DI.ty_str_bool, DI.ty_str_int, DI.ty_str_str, DI.ty_str_tuple, DI.ty_str_list, DI.ty_tuple_bool, DI.ty_tuple_int, DI.ty_tuple_str, DI.ty_tuple_tuple, DI.ty_tuple_list, DI.ty_list_bool, DI.ty_list_int, DI.ty_list_str, DI.ty_list_tuple, DI.ty_list_list, Nat.reduceAdd, Nat.reduceLT, Nat.reduceLeDiff, Nat.reduceEqDiff, Int.reduceAdd, Int.reduceSub, Int.reduceMul, Int.reduceNeg, Int.reduceEq, Int.reduceLT, Int.reduceLE, Nat.reducePow, decide_true, decide_false, Bool.not_true, Bool.not_false, Bool.and_true, Bool.true_and, Bool.and_false, Bool.false_and, Bool.or_true, Bool.true_or, Bool.or_false, Bool.false_or, Bool.cond_true, Bool.cond_false, Option.map_some, Option.map_none, id_eq, reduceCtorEq, Bool.true_beq, Bool.false_beq, Bool.not_not, LP.eq_s_backward_s_backward, LP.eq_s_backward_s_end, LP.eq_s_backward_s_x20, LP.eq_s_backward_s_start, LP.eq_s_backward_s_forward, LP.eq_s_backward_s_x, LP.eq_s_end_s_backward, LP.eq_s_end_s_end, LP.eq_s_end_s_x20, LP.eq_s_end_s_start, LP.eq_s_end_s_forward, LP.eq_s_end_s_x, LP.eq_s_x20_s_backward, LP.eq_s_x20_s_end, LP.eq_s_x20_s_x20, LP.eq_s_x20_s_start, LP.eq_s_x20_s_forward, LP.eq_s_x20_s_x, LP.eq_s_start_s_backward, LP.eq_s_start_s_end, LP.eq_s_start_s_x20, LP.eq_s_start_s_start, LP.eq_s_start_s_forward, LP.eq_s_start_s_x, LP.eq_s_forward_s_backward, LP.eq_s_forward_s_end, LP.eq_s_forward_s_x20, LP.eq_s_forward_s_start, LP.eq_s_forward_s_forward, LP.eq_s_forward_s_x, LP.eq_s_x_s_backward, LP.eq_s_x_s_end, LP.eq_s_x_s_x20, LP.eq_s_x_s_start, LP.eq_s_x_s_forward, LP.eq_s_x_s_x, LP.b_is_plain_int, LP.b_is_permutation, LP.b_law_pick, LP.b_law_same, LP.b_law_shuffle, LP.b_law_replaced, LP.b_law_mutate, LP.b_law_integer, LP.b_law_is_permutation, LP.b_is_number_below, LP.b_is_fitting_passage, LP.b_is_house, LP.b_law_permutation, LP.b_law_passage, LP.b_law_house, LP.b_law_is_passage, LP.b_law_is_house, LP.b_inverse, LP.b_crossing, LP.b_end_room, LP.b_is_slide, LP.b_law_listed, LP.b_law_inverse, LP.b_law_ends, LP.b_law_is_slide, LP.b_law_slides])
namespace LP
open PySem L2 DI
section
variable {F : Tab} {k : Nat}
theorem up {k n : Nat} (h : n + 1 ≤ k) : ∃ j, k = j + 1 ∧ n ≤ j := ⟨k - 1, by omega, by omega⟩
theorem run_draw [h : HasFn F n__law_draw .draw] (hk : 1 ≤ k) (n : Int) (h0 : 0 < n) (h1 : n < 1073741824) : prun F Hn0 k n__law_draw [.rng, .int n] = .draw n fun v => .ret (.fz, .int v) := by
  obtain ⟨k, rfl, _⟩ := up hk
  unfold prun
  rw [h.eq]
  dsimp only
  rw [decide_eq_true h0, decide_eq_true h1]
  rfl
theorem run_same [h : HasFn F n__law_same f_law_same] (a b : PV) : prun F Hn0 (k + 1) n__law_same [a, b] = (pexs (cf F k) b_law_same [some (.fz, a), some (.fz, b), none, none]).nox.bind fin := run_code h rfl
theorem mem_dep : ∀ {xs : List PV} {x : PV}, x ∈ xs → dep x ≤ deps xs
  | y :: ys, x, h => by
    show dep x ≤ max (dep y) (deps ys)
    rcases List.mem_cons.mp h with rfl | h
    · omega
    · have := mem_dep h
      omega
theorem mem_cost : ∀ {xs : List PV} {x : PV}, x ∈ xs → costV x ≤ costVs xs
  | y :: ys, x, h => by
    show costV x ≤ costV y + 2 + costVs ys
    rcases List.mem_cons.mp h with rfl | h
    · omega
    · have := mem_cost h
      omega
theorem len_cost : ∀ {xs : List PV}, xs.length ≤ costVs xs
  | [] => Nat.le_refl _
  | y :: ys => by
    show ys.length + 1 ≤ costV y + 2 + costVs ys
    have := len_cost (xs := ys)
    omega
theorem same_self [h : HasFn F n__law_same f_law_same] : ∀ (k : Nat) (v : PV), okV v = true → dep v < k → dep v < 20 → costV v ≤ 100000 → prun F Hn0 k n__law_same [v, v] = .ret (.fz, .bl true)
  | 0, v, _, hk, _, _ => by omega
  | k + 1, v, ho, hk, hd, hc => by
    have items : ∀ xs : List PV, okVs xs = true → deps xs < k → deps xs < 20 → costVs xs ≤ 100000 → ∀ x ∈ xs, prun F Hn0 k n__law_same [x, x] = .ret (.fz, .bl true) := fun xs h1 h2 h3 h4 x hx => same_self k x (okVs_iff.mp h1 x hx) (by have := mem_dep hx; omega) (by have := mem_dep hx; omega) (by have := mem_cost hx; omega)
    rw [run_same]
    cases v with
    | non => walk_at "pure"
    | bl b => cases b <;> walk_at "pure"
    | int i => walk_at "pure"
    | str x =>
      have e := eq_self (v := .str x) ho (show 0 < 24 by decide)
      walk_at "pure"
      rw [e]
      walk_at "pure"
    | tup xs =>
      have e := eq_self (v := .tup xs) ho (by omega)
      have hl : xs.length ≤ costVs xs := len_cost
      have hc : costVs xs + 3 ≤ 100000 := hc
      have hd : deps xs + 1 < 20 := hd
      have hk : deps xs + 1 < k + 1 := hk
      have it := items xs ho (by omega) (by omega) (by omega)
      walk_at "pure"
      rw [zip_self, fits_le' (by rw [qlen_qmap]; omega), pif_true, plc_q (fun _ => .bl true) (by
        intro y hy
        obtain ⟨x, hx, rfl⟩ := List.mem_map.mp hy
        walk_at "pure"
        rw [it x hx]
        walk_at "pure"), qmap_qmap]
      walk_at "pure"
    | lst xs =>
      have e := eq_self (v := .lst xs) ho (by omega)
      have hl : xs.length ≤ costVs xs := len_cost
      have hc : costVs xs + 3 ≤ 100000 := hc
      have hd : deps xs + 1 < 20 := hd
      have hk : deps xs + 1 < k + 1 := hk
      have it := items xs ho (by omega) (by omega) (by omega)
      walk_at "pure"
      rw [zip_self, fits_le' (by rw [qlen_qmap]; omega), pif_true, plc_q (fun _ => .bl true) (by
        intro y hy
        obtain ⟨x, hx, rfl⟩ := List.mem_map.mp hy
        walk_at "pure"
        rw [it x hx]
        walk_at "pure"), qmap_qmap]
      walk_at "pure"
    | scr _ => cases ho
    | rng => cases ho
    | pr _ _ => cases ho
theorem run_shuffle [h : HasFn F n__law_shuffle f_law_shuffle] (a b : PV) : prun F Hn0 (k + 1) n__law_shuffle [a, b] = (pexs (cf F k) b_law_shuffle [some (.fz, a), some (.fz, b), none, none]).nox.bind fin := run_code h rfl
theorem run_pick [h : HasFn F n__law_pick f_law_pick] (a b : PV) : prun F Hn0 (k + 1) n__law_pick [a, b] = (pexs (cf F k) b_law_pick [some (.fz, a), some (.fz, b)]).nox.bind fin := run_code h rfl
theorem shuffle_dr [HasFn F n__law_draw .draw] [HasFn F n__law_shuffle f_law_shuffle] (hk : 2 ≤ k) (xs : List PV) (hl : xs.length ≤ 1000) : Dr (prun F Hn0 k n__law_shuffle [.rng, .lst xs]) xs.length fun r => ∃ ys, r = (.o1, .lst ys) ∧ ys.Perm xs := by
  obtain ⟨k, rfl, hk1⟩ := up hk
  rw [run_shuffle]
  walk_at "pure"
  refine Dr.fin (Dr.bind0 (Dr.mono (Dr.for (n := 1) (i := 0) (fun i env => ∃ ys x3, env = [some (Md.fz, PV.rng), some (Md.fz, PV.lst xs), some (Md.o1, PV.lst ys), x3] ∧ ys.Perm (xs.take i) ∧ i ≤ 1000) ⟨[], none, rfl, List.Perm.refl _, by omega⟩ fun j x env hx hI => ?_) (by omega) fun p hp => hp) fun p hp => ?_)
  · obtain ⟨ys, x3, rfl, hp, hj⟩ := hI
    have hlt := (List.getElem?_eq_some_iff.mp hx).1
    have hlen : ys.length = j := by rw [hp.length_eq, List.length_take]; omega
    refine ⟨_, rfl, ?_⟩
    conv => enter [1]; rw [l1_law_shuffle]
    walk_at "pure"
    have e : ((nI (qlen ys)) + 1) = ((j + 1 : Nat) : Int) := by rw [← hlen]; rfl
    rw [e, run_draw hk1 _ (by omega) (by omega)]
    walk_at "pure"
    refine Dr.draw fun v h0 h1 => ?_
    walk_at "pure"
    have h1 : v < ((j + 1 : Nat) : Int) := h1
    rw [insB_ok (show qlen ys < 100000 by show ys.length < _; omega) h0 (by omega)]
    refine Dr.eq (a := (.next, [some (.fz, .rng), some (.fz, .lst xs), some (.o1, .lst (ys.take v.toNat ++ [x] ++ ys.drop v.toNat)), some (.fz, x)])) (by (walk_at "pure") <;> rfl) ⟨rfl, _, _, rfl, ?_, by omega⟩
    rw [show 0 + j + 1 = j + 1 by omega, List.take_add_one, show xs[j]? = some x from by simpa using hx]
    rw [Nat.zero_add] at hp
    refine List.Perm.trans ?_ (List.Perm.append_right _ hp)
    have e2 : (ys.take v.toNat ++ ys.drop v.toNat) = ys := List.take_append_drop _ _
    conv => rhs; rw [← e2]
    rw [List.append_assoc, List.append_assoc]
    exact List.Perm.append_left _ List.perm_append_comm
  · obtain ⟨fl, env⟩ := p
    obtain ⟨h1, ys, x3, h2, h3, h4⟩ := hp
    have h1 : fl = .next := h1
    have h2 : env = _ := h2
    subst h1 h2
    refine Dr.eq (a := (.ret (.o1, .lst ys), _)) (by (walk_at "pure") <;> rfl) ⟨_, rfl, ys, rfl, ?_⟩
    rw [Nat.zero_add, List.take_length] at h3
    exact h3
end
end LP
end
section
set_option maxHeartbeats 4000000
local macro_rules | `(tactic| walk_at "pure") => `(tactic| conv => enter [1]; try simp (config := { maxSteps := 10000000 }) only [DI.kTup2, DI.kTup, DI.kLst2, DI.kLst, DI.kBin2, DI.kBin, DI.kNeg, DI.kBl, DI.kNot, DI.kCmp2, DI.kCmp, DI.kCh4, DI.kCh3, DI.kCh2, DI.kCh, DI.kAnd2, DI.kAnd, DI.kOr2, DI.kOr, DI.kNotE, DI.kIte2, DI.kIte, DI.kIx2, DI.kIx, DI.kSl3, DI.kSl2, DI.kSl, DI.kLr, DI.kIsi, DI.kCall2, DI.kCall, DI.kCons2, DI.kCons, DI.kOI, DI.kTru, DI.kKw4, DI.kKw3, DI.kKw2, DI.kKw1, DI.kKw, DI.kMt3, DI.kMt2, DI.kMt, DI.kT4, DI.kT3, DI.kT2, DI.kT1, DI.kTurn, DI.kLc2, DI.kLc, DI.kR1, DI.kR2b, DI.kR2, DI.kEn2, DI.kEn, DI.kSet2, DI.kSet, DI.kPop2, DI.kEnv, DI.kSetT3, DI.kSetT2, DI.kSetT, DI.kNx, DI.kSub4, DI.kSub3, DI.kSub2, DI.kSub, DI.kAug4, DI.kAug3, DI.kAug2, DI.kAug, DI.kRet2, DI.kRet, DI.kIf2, DI.kIf, DI.kFor2, DI.kFor, DI.kPar2, DI.kPar, DI.kSeq, DI.kIdx, DI.kApp3, DI.kApp, DI.kApp0, DI.kAp4, DI.kAp3, DI.kAp2, DI.kAp1, DI.kAp, DI.kMe4, DI.kMe3, DI.kMe2, DI.kMe, DI.kEx, DI.kZip4, DI.kZip3, DI.kZip2, DI.kZip, DI.kTest, DI.kPlc3, DI.kPlc2, DI.kMut2, DI.kMut, DI.kAppS, DI.kStS2, DI.kStS, DI.kPk, DI.newMdE, DI.ownL, DI.r_var, DI.r_cint, DI.r_cstr, DI.r_cbl, DI.r_cnon, DI.r_tup, DI.r_lst, DI.r_bin, DI.r_neg, DI.r_cmp, DI.r_chain, DI.r_and, DI.r_or, DI.r_not, DI.r_ite, DI.r_ix, DI.r_slice, DI.r_rev, DI.r_blt, DI.r_lr, DI.r_tr, DI.r_isi, DI.r_call, DI.r_nil, DI.r_cons, DI.r_onone, DI.r_osome, DI.r_cnone, DI.r_csome, DI.r_callK, DI.r_meth, DI.r_lc, DI.r_seq, DI.r_range1, DI.r_range2, DI.r_enum, DI.s_nil, DI.s_cons, DI.s_setT, DI.s_sub, DI.s_aug, DI.s_ite, DI.s_for, DI.s_par, DI.s_pass, DI.s_brk, DI.s_cont, DI.s_pop, DI.s_set_var, DI.s_ret_var, DI.s_set_cint, DI.s_ret_cint, DI.s_set_cstr, DI.s_ret_cstr, DI.s_set_cbl, DI.s_ret_cbl, DI.s_set_cnon, DI.s_ret_cnon, DI.s_set_tup, DI.s_ret_tup, DI.s_set_lst, DI.s_ret_lst, DI.s_set_bin, DI.s_ret_bin, DI.s_set_neg, DI.s_ret_neg, DI.s_set_cmp, DI.s_ret_cmp, DI.s_set_chain, DI.s_ret_chain, DI.s_set_and, DI.s_ret_and, DI.s_set_or, DI.s_ret_or, DI.s_set_not, DI.s_ret_not, DI.s_set_ite, DI.s_ret_ite, DI.s_set_ix, DI.s_ret_ix, DI.s_set_slice, DI.s_ret_slice, DI.s_set_rev, DI.s_ret_rev, DI.s_set_blt, DI.s_ret_blt, DI.s_set_lr, DI.s_ret_lr, DI.s_set_tr, DI.s_ret_tr, DI.s_set_isi, DI.s_ret_isi, DI.s_set_call, DI.s_ret_call, DI.s_set_callK, DI.s_ret_callK, DI.s_set_lc, DI.s_ret_lc, DI.s_set_upper, DI.s_ret_upper, DI.s_app, DI.s_app2, DI.s_insert, DI.s_popAt, DI.s_ex_call, DI.r_zip, DI.s_while, DI.r_plc, DI.fin_ret, DI.fin_next, DI.fin_exc, DI.frz1_n, DI.frz1_z, DI.frz1_s, DI.frz_n, DI.frz_c, DI.frzS_none, DI.frzS_fz, DI.frzS_b1, DI.frzS_b2, DI.frzS_o1t, DI.frzS_o1f, DI.frzS_o2t, DI.frzS_o2f, DI.varP_z, DI.varP_s, DI.set_z, DI.set_s, DI.atS_z, DI.atS_s, DI.ownB_e, DI.mutS_e, DI.appS_e, DI.setSubS_e, DI.e_var0, DI.e_var1, DI.e_var2, DI.e_tup, DI.e_lst, DI.e_bin, DI.e_neg, DI.e_cmp, DI.e_chain, DI.e_and, DI.e_or, DI.e_not, DI.e_ite, DI.e_ix0, DI.e_ix1, DI.e_ix2, DI.e_slice, DI.e_rev, DI.e_list, DI.e_tuple, DI.e_len, DI.e_all, DI.e_any, DI.e_abs, DI.e_int, DI.e_str, DI.e_repr, DI.e_min2, DI.e_max2, DI.e_lcm, DI.e_sorted, DI.e_lr, DI.e_tr, DI.e_isi, DI.e_call, DI.e_callK, DI.e_meth, DI.e_lc, DI.e_cint, DI.e_cstr, DI.e_cbl, DI.e_cnon, DI.e_nil, DI.e_cons, DI.e_onone, DI.e_osome, DI.e_seq, DI.e_range1, DI.e_range2, DI.e_enum, DI.e_zip, DI.wipe_n, DI.wipe_c, DI.lk_z, DI.lk_s, DI.pick_n, DI.pick_c, DI.mkS, DI.asTupP, DI.m_index, DI.newMd0, DI.movB0, DI.beqI, DI.bneI, DI.ownS, DI.binP, DI.itemsP, DI.cmpP, DI.truthP, DI.asBP, DI.itMd, DI.ixP, DI.sliceP, DI.revP, DI.tyP, DI.isiP, DI.rgP, DI.recvP, DI.augP, DI.stored, DI.litE, DI.allNew, DI.dispMd, DI.newE, DI.setEnvsP, DI.setEnvsM, DI.bindP, DI.rdMd, DI.stP, DI.seqP, DI.retMd, DI.Md.stB, DI.Md.cpB, DI.Md.own1, DI.Mth.listB, DI.flatP, DI.cf, DI.bI, DI.rgItemsP, DI.bltP, DI.bind_ret, DI.nox_ret, DI.resc_ret, DI.pif_true, DI.pif_false, DI.eqP_int, DI.eqP_bl, DI.eqP_bi, DI.eqP_non, DI.bind_stuck, DI.bind_draw, DI.nox_draw, DI.resc_draw, DI.resc_exc, DI.bind_exc, DI.popt_some, DI.popt_none, DI.plc_nil, DI.forP_nil, DI.enumP_nil, DI.enumP_cons, DI.zipP_nil, DI.zipP_cons, DI.len_q, DI.qlen_nil, DI.qlen_cons, DI.map_q, DI.qmap_nil, DI.qmap_cons, DI.app_q, DI.qapp_nil, DI.qapp_cons, DI.any_q, DI.qany_nil, DI.qany_cons, DI.all_q, DI.qall_nil, DI.qall_cons, DI.empty_q, DI.qempty_nil, DI.qempty_cons, DI.take_q, DI.drop_q, DI.rev_q, DI.blsP_nil, DI.blsP_cons, DI.intsP_nil, DI.intsP_cons, DI.at_q, DI.qat_0, DI.qat_1, DI.qat_2, DI.qat_3, DI.bls_true, DI.all_true, DI.imod_q, DI.idiv_q, DI.mut_append, DI.mut_insert, DI.qix_q, DI.ntI_q, DI.meth_upper, DI.repB_2_4, DI.repP_2, DI.repP_3, DI.fits_0, DI.fits_1, DI.fits_2, DI.fits_3, DI.fits_4, DI.fits_5, DI.fits_6, DI.fits_7, DI.fits_8, DI.fits_9, DI.fits_10, DI.fits_11, DI.fits_12, DI.fits_13, DI.fits_14, DI.fits_15, DI.fits_16, DI.fits_17, DI.fits_18, DI.fits_19, DI.fits_20, DI.fits_21, DI.fits_22, DI.fits_23, DI.fits_24, DI.fits_25, DI.fits_26, DI.fits_27, DI.fits_28, DI.fits_29, DI.fits_30, DI.fits_31, DI.fits_32, DI.fits_33, DI.fits_34, DI.fits_35, DI.fits_36, DI.fits_37, DI.fits_38, DI.fits_39, DI.fits_40, DI.fits_41, DI.fits_42, DI.fits_43, DI.fits_44, DI.fits_45, DI.fits_46, DI.fits_47, DI.fits_48, DI.fits_49, DI.fits_50, DI.fits_51, DI.fits_52, DI.fits_53, DI.fits_54, DI.fits_55, DI.fits_56, DI.fits_57, DI.fits_58, DI.fits_59, DI.fits_60, DI.fits_61, DI.fits_62, DI.fits_63, DI.fits_64, DI.nI_l, DI.ltI_t, DI.ltI_f, DI.leI_t, DI.leI_f, DI.nzI_t, DI.smI_t, DI.rgB_t, DI.rg1B_t, DI.rg2B_t, not_false_eq_true, not_true_eq_false, ne_eq, DI.ty_NoneType_bool, DI.ty_NoneType_int, DI.ty_NoneType_str, DI.ty_NoneType_tuple, DI.ty_NoneType_list, DI.ty_bool_bool, DI.ty_bool_int, DI.ty_bool_str, DI.ty_bool_tuple, DI.ty_bool_list, DI.ty_int_bool, DI.ty_int_int, DI.ty_int_str, DI.ty_int_tuple, DI.ty_int_list, DI.ty_str_bool, DI.ty_str_int, DI.ty_str_str, DI.ty_str_tuple, DI.ty_str_list, DI.ty_tuple_bool, DI.ty_tuple_int, DI.ty_tuple_str, DI.ty_tuple_tuple, DI.ty_tuple_list, DI.ty_list_bool, DI.ty_list_int, DI.ty_list_str, DI.ty_list_tuple, DI.ty_list_list, Nat.reduceAdd, Nat.reduceLT, Nat.reduceLeDiff, Nat.reduceEqDiff, Int.reduceAdd, Int.reduceSub, Int.reduceMul, Int.reduceNeg, Int.reduceEq, Int.reduceLT, Int.reduceLE, Nat.reducePow, decide_true, decide_false, Bool.not_true, Bool.not_false, Bool.and_true, Bool.true_and, Bool.and_false, Bool.false_and, Bool.or_true, Bool.true_or, Bool.or_false, Bool.false_or, Bool.cond_true, Bool.cond_false, Option.map_some, Option.map_none, id_eq, reduceCtorEq, Bool.true_beq, Bool.false_beq, Bool.not_not, LP.eq_s_backward_s_backward, LP.eq_s_backward_s_end, LP.eq_s_backward_s_x20, LP.eq_s_backward_s_start, LP.eq_s_backward_s_forward, LP.eq_s_backward_s_x, LP.eq_s_end_s_backward, LP.eq_s_end_s_end, LP.eq_s_end_s_x20, LP.eq_s_end_s_start, LP.eq_s_end_s_forward, LP.eq_s_end_s_x, LP.eq_s_x20_s_backward, LP.eq_s_x20_s_end, LP.eq_s_x20_s_x20, LP.eq_s_x20_s_start, LP.eq_s_x20_s_forward, LP.eq_s_x20_s_x, LP.eq_s_start_s_backward, LP.eq_s_start_s_end, LP.eq_s_start_s_x20, LP.eq_s_start_s_start, LP.eq_s_start_s_forward, LP.eq_s_start_s_x, LP.eq_s_forward_s_backward, LP.eq_s_forward_s_end, LP.eq_s_forward_s_x20, LP.eq_s_forward_s_start, LP.eq_s_forward_s_forward, LP.eq_s_forward_s_x, LP.eq_s_x_s_backward, LP.eq_s_x_s_end, LP.eq_s_x_s_x20, LP.eq_s_x_s_start, LP.eq_s_x_s_forward, LP.eq_s_x_s_x, LP.b_is_plain_int, LP.b_is_permutation, LP.b_law_pick, LP.b_law_same, LP.b_law_shuffle, LP.b_law_replaced, LP.b_law_mutate, LP.b_law_integer, LP.b_law_is_permutation, LP.b_is_number_below, LP.b_is_fitting_passage, LP.b_is_house, LP.b_law_permutation, LP.b_law_passage, LP.b_law_house, LP.b_law_is_passage, LP.b_law_is_house, LP.b_inverse, LP.b_crossing, LP.b_end_room, LP.b_is_slide, LP.b_law_listed, LP.b_law_inverse, LP.b_law_ends, LP.b_law_is_slide, LP.b_law_slides])
namespace DI
open PySem L2
/-! # small values -/
mutual
def sm (M L : Nat) : PV → Bool
  | .non | .bl _ => true
  | .int i => decide (i.natAbs ≤ M)
  | .str x => decide (x.length ≤ L) && x.cps.toList.all (fun c => decide (c < 128))
  | .tup xs => sms M L xs
  | .lst xs => sms M L xs
  | .scr _ => false
  | .rng => false
  | .pr _ _ => false
def sms (M L : Nat) : List PV → Bool
  | [] => true
  | x :: xs => sm M L x && sms M L xs
end
structure Nc (M L d c : Nat) (v : PV) : Prop where
  sm : sm M L v = true
  dep : dep v ≤ d
  cost : costV v ≤ c
structure Ncs (M L d c : Nat) (vs : List PV) : Prop where
  sm : sms M L vs = true
  dep : deps vs ≤ d
  cost : costVs vs ≤ c
section
variable {M M' L L' d d' c c' : Nat}
mutual
theorem sm_mono (hM : M ≤ M') (hL : L ≤ L') : ∀ v : PV, sm M L v = true → sm M' L' v = true
  | .non, _ => rfl
  | .bl _, _ => rfl
  | .int i, h => decide_eq_true (Nat.le_trans (of_decide_eq_true h) hM)
  | .str x, h => by
    obtain ⟨h1, h2⟩ := Bool.and_eq_true_iff.mp (show (decide (x.length ≤ L) && x.cps.toList.all (fun c => decide (c < 128))) = true from h)
    show (decide (x.length ≤ L') && x.cps.toList.all (fun c => decide (c < 128))) = true
    rw [h2, decide_eq_true (Nat.le_trans (of_decide_eq_true h1) hL)]
    rfl
  | .tup xs, h => sms_mono hM hL xs h
  | .lst xs, h => sms_mono hM hL xs h
  | .scr _, h => h
  | .rng, h => h
  | .pr _ _, h => h
theorem sms_mono (hM : M ≤ M') (hL : L ≤ L') : ∀ v : List PV, sms M L v = true → sms M' L' v = true
  | [], _ => rfl
  | x :: xs, h => by
    obtain ⟨h1, h2⟩ := Bool.and_eq_true_iff.mp (show (sm M L x && sms M L xs) = true from h)
    show (sm M' L' x && sms M' L' xs) = true
    rw [sm_mono hM hL x h1, sms_mono hM hL xs h2]
    rfl
end
mutual
theorem sm_ok (hM : M < 10 ^ 40) : ∀ v : PV, sm M L v = true → okV v = true
  | .non, _ => rfl
  | .bl _, _ => rfl
  | .int i, h => decide_eq_true (Nat.lt_of_le_of_lt (of_decide_eq_true h) hM)
  | .str x, h => by
    obtain ⟨_, h2⟩ := Bool.and_eq_true_iff.mp (show (decide (x.length ≤ L) && x.cps.toList.all (fun c => decide (c < 128))) = true from h)
    show x.cps.all (· < 0x110000) = true
    rw [← Array.all_toList]
    exact List.all_eq_true.mpr fun c hc => decide_eq_true (Nat.lt_trans (of_decide_eq_true (List.all_eq_true.mp h2 c hc)) (by decide))
  | .tup xs, h => sms_ok hM xs h
  | .lst xs, h => sms_ok hM xs h
  | .scr _, h => h
  | .rng, h => h
  | .pr _ _, h => h
theorem sms_ok (hM : M < 10 ^ 40) : ∀ v : List PV, sms M L v = true → okVs v = true
  | [], _ => rfl
  | x :: xs, h => by
    obtain ⟨h1, h2⟩ := Bool.and_eq_true_iff.mp (show (sm M L x && sms M L xs) = true from h)
    show (okV x && okVs xs) = true
    rw [sm_ok hM x h1, sms_ok hM xs h2]
    rfl
end
theorem Nc.mono {v : PV} (h : Nc M L d c v) (hM : M ≤ M') (hL : L ≤ L') (hd : d ≤ d') (hc : c ≤ c') : Nc M' L' d' c' v := ⟨sm_mono hM hL v h.sm, Nat.le_trans h.dep hd, Nat.le_trans h.cost hc⟩
theorem Nc.ok {v : PV} (h : Nc M L d c v) (hM : M < 10 ^ 40) : okV v = true := sm_ok hM v h.sm
theorem Ncs.tup {vs : List PV} (h : Ncs M L d c vs) : Nc M L (d + 1) (c + 3) (.tup vs) := ⟨h.sm, Nat.succ_le_succ h.dep, Nat.add_le_add_right h.cost 3⟩
theorem Ncs.lst {vs : List PV} (h : Ncs M L d c vs) : Nc M L (d + 1) (c + 3) (.lst vs) := ⟨h.sm, Nat.succ_le_succ h.dep, Nat.add_le_add_right h.cost 3⟩
theorem Nc.items {vs : List PV} (h : Nc M L (d + 1) (c + 3) (.tup vs) ∨ Nc M L (d + 1) (c + 3) (.lst vs)) : Ncs M L d c vs := by
  rcases h with h | h
  · exact ⟨h.sm, Nat.le_of_succ_le_succ h.dep, Nat.le_of_add_le_add_right h.cost⟩
  · exact ⟨h.sm, Nat.le_of_succ_le_succ h.dep, Nat.le_of_add_le_add_right h.cost⟩
theorem Ncs.nil : Ncs M L d c [] := ⟨rfl, Nat.zero_le _, Nat.zero_le _⟩
theorem Ncs.cons {v : PV} {vs : List PV} {c1 c2 : Nat} (h : Nc M L d c1 v) (hs : Ncs M L d c2 vs) : Ncs M L d (c1 + 2 + c2) (v :: vs) := by
  refine ⟨?_, ?_, ?_⟩
  · show (DI.sm M L v && sms M L vs) = true
    rw [h.sm, hs.sm]
    rfl
  · show max (DI.dep v) (deps vs) ≤ d
    have := h.dep
    have := hs.dep
    omega
  · show costV v + 2 + costVs vs ≤ c1 + 2 + c2
    have := h.cost
    have := hs.cost
    omega
theorem sms_mem : ∀ {vs : List PV}, sms M L vs = true ↔ ∀ v ∈ vs, sm M L v = true
  | [] => ⟨fun _ v h => (by cases h), fun _ => rfl⟩
  | x :: xs => by
    show (sm M L x && sms M L xs) = true ↔ _
    rw [Bool.and_eq_true_iff, sms_mem]
    exact ⟨fun h y hy => (List.mem_cons.mp hy).elim (fun e => e ▸ h.1) (h.2 y), fun h => ⟨h x List.mem_cons_self, fun y hy => h y (List.mem_cons_of_mem _ hy)⟩⟩
theorem deps_le {vs : List PV} {n : Nat} : deps vs ≤ n ↔ ∀ v ∈ vs, dep v ≤ n := by
  induction vs with
  | nil => exact ⟨fun _ v h => (by cases h), fun _ => Nat.zero_le _⟩
  | cons x xs ih =>
    show max (dep x) (deps xs) ≤ n ↔ _
    rw [Nat.max_le, ih]
    exact ⟨fun h y hy => (List.mem_cons.mp hy).elim (fun e => e ▸ h.1) (h.2 y), fun h => ⟨h x List.mem_cons_self, fun y hy => h y (List.mem_cons_of_mem _ hy)⟩⟩
theorem costVs_app : ∀ xs ys : List PV, costVs (xs ++ ys) = costVs xs + costVs ys
  | [], ys => (Nat.zero_add _).symm
  | x :: xs, ys => by
    show costV x + 2 + costVs (xs ++ ys) = costV x + 2 + costVs xs + costVs ys
    rw [costVs_app xs ys]
    omega
theorem Ncs.app {xs ys : List PV} {c1 c2 : Nat} (h : Ncs M L d c1 xs) (g : Ncs M L d c2 ys) : Ncs M L d (c1 + c2) (xs ++ ys) := by
  refine ⟨sms_mem.mpr fun v hv => ?_, deps_le.mpr fun v hv => ?_, ?_⟩
  · rcases List.mem_append.mp hv with hv | hv
    · exact sms_mem.mp h.sm v hv
    · exact sms_mem.mp g.sm v hv
  · rcases List.mem_append.mp hv with hv | hv
    · exact deps_le.mp h.dep v hv
    · exact deps_le.mp g.dep v hv
  · rw [costVs_app]
    have := h.cost
    have := g.cost
    omega
/-- a part of it -/
theorem Ncs.sub {xs ys : List PV} (h : Ncs M L d c xs) (hs : ys.Sublist xs) : Ncs M L d c ys := by
  refine ⟨sms_mem.mpr fun v hv => sms_mem.mp h.sm v (hs.subset hv), deps_le.mpr fun v hv => deps_le.mp h.dep v (hs.subset hv), Nat.le_trans ?_ h.cost⟩
  clear h
  induction hs with
  | slnil => exact Nat.le_refl _
  | cons x _ ih =>
    show _ ≤ costV x + 2 + costVs _
    omega
  | cons_cons x _ ih =>
    show costV x + 2 + costVs _ ≤ costV x + 2 + costVs _
    omega
theorem Ncs.perm {xs ys : List PV} (h : Ncs M L d c xs) (hs : ys.Perm xs) : Ncs M L d c ys := by
  refine ⟨sms_mem.mpr fun v hv => sms_mem.mp h.sm v (hs.mem_iff.mp hv), deps_le.mpr fun v hv => deps_le.mp h.dep v (hs.mem_iff.mp hv), Nat.le_trans (Nat.le_of_eq ?_) h.cost⟩
  clear h
  induction hs with
  | nil => rfl
  | cons x _ ih =>
    show costV x + 2 + costVs _ = costV x + 2 + costVs _
    rw [ih]
  | swap x y l =>
    show costV y + 2 + (costV x + 2 + costVs l) = costV x + 2 + (costV y + 2 + costVs l)
    omega
  | trans _ _ h1 h2 => exact h1.trans h2
theorem Ncs.mem {xs : List PV} {v : PV} (h : Ncs M L d c xs) (hv : v ∈ xs) : Nc M L d c v := ⟨sms_mem.mp h.sm v hv, deps_le.mp h.dep v hv, Nat.le_trans (LP.mem_cost hv) h.cost⟩
end
end DI
namespace LP
open PySem L2 DI
section
variable {F : Tab} {k : Nat}
theorem pick_dr [HasFn F n__law_draw .draw] [HasFn F n__law_pick f_law_pick] (hk : 2 ≤ k) (xs : List PV) (h0 : xs ≠ []) (hl : xs.length ≤ 100000) : Dr (prun F Hn0 k n__law_pick [.rng, .lst xs]) 1 fun r => ∃ y ∈ xs, r = (.fz, y) := by
  obtain ⟨k, rfl, hk1⟩ := up hk
  rw [run_pick]
  walk_at "pure"
  have hp : 0 < xs.length := List.length_pos_iff.mpr h0
  rw [show nI (qlen xs) = ((xs.length : Nat) : Int) from rfl, run_draw hk1 _ (by omega) (by omega)]
  walk_at "pure"
  refine Dr.draw fun v h0 h1 => ?_
  have h1 : v < (xs.length : Int) := h1
  obtain ⟨i, rfl⟩ : ∃ i : Nat, v = i := ⟨v.toNat, by omega⟩
  have hi : i < xs.length := by omega
  refine Dr.eq (a := (.fz, xs[i])) ?_ ⟨_, List.getElem_mem hi, rfl⟩
  have e : qat xs (((i : Nat) : Int)) = some xs[i] := by
    rw [show qat xs (((i : Nat) : Int)) = xs[i]? from qat_nat, List.getElem?_eq_getElem hi]
  walk_at "pure"
  rw [e]
  (walk_at "pure") <;> rfl
theorem run_replaced [h : HasFn F n__law_replaced f_law_replaced] (a b : PV) : prun F Hn0 (k + 1) n__law_replaced [a, b] = (pexs (cf F k) b_law_replaced [some (.fz, a), some (.fz, b), none]).nox.bind fin := run_code0 h rfl rfl rfl
theorem istr_ok {M : Nat} {i : Int} (hM : M ≤ 60) (h : i.natAbs ≤ M) : lstrB i = true ∧ sm M 3 (.str (istr i)) = true := by
  have key : ∀ n : Nat, n < 61 → (lstrB (n : Int) = true ∧ sm 0 3 (.str (istr (n : Int))) = true) ∧ (lstrB (-(n : Int)) = true ∧ sm 0 3 (.str (istr (-(n : Int)))) = true) := by decide +kernel
  obtain ⟨h1, h2⟩ := key i.natAbs (by omega)
  have q : lstrB i = true ∧ sm 0 3 (.str (istr i)) = true := by
    rcases Int.natAbs_eq i with e | e
    · rw [e]
      exact h1
    · rw [e]
      exact h2
  exact ⟨q.1, sm_mono (Nat.zero_le _) (Nat.le_refl _) _ q.2⟩
def base17 : List PV := [.non, .bl true, .bl false, .int 0, .int 1, .int (-1), .int 9, .str s_x, .str s_forward, .str s_start, .tup [], .lst [], .tup [.int 0], .lst [.int 0], .tup [.int 0, .int 1], .tup [.int 1, .int 0], .tup [.int 0, .int 0, .tup [.int 0]]]
theorem base17_ok : Ncs 9 8 2 400 base17 := ⟨by decide +kernel, by decide +kernel, by decide +kernel⟩
theorem sm_str {M L : Nat} {x : Str} : sm M L (.str x) = true ↔ x.length ≤ L ∧ ∀ c ∈ x.cps.toList, c < 128 := by
  show (decide (x.length ≤ L) && x.cps.toList.all (fun c => decide (c < 128))) = true ↔ _
  rw [Bool.and_eq_true_iff, decide_eq_true_iff, List.all_eq_true]
  exact ⟨fun h => ⟨h.1, fun c hc => of_decide_eq_true (h.2 c hc)⟩, fun h => ⟨h.1, fun c hc => decide_eq_true (h.2 c hc)⟩⟩
theorem cat_ok {M L L' : Nat} {x y : Str} (h : sm M L (.str x) = true) (g : sm M L' (.str y) = true) : sm M (L + L') (.str (catZ x y)) = true := by
  obtain ⟨h1, h2⟩ := sm_str.mp h
  obtain ⟨g1, g2⟩ := sm_str.mp g
  have e : (catZ x y).cps = x.cps ++ y.cps := rfl
  refine sm_str.mpr ⟨?_, fun c hc => ?_⟩
  · show (catZ x y).cps.size ≤ _
    rw [e, Array.size_append]
    exact Nat.add_le_add h1 g1
  · rw [e, Array.toList_append] at hc
    rcases List.mem_append.mp hc with hc | hc
    · exact h2 c hc
    · exact g2 c hc
theorem cut_ok {M L : Nat} {x : Str} {lo hi : Option Int} (h : sm M L (.str x) = true) : sm M L (.str (cutZ x lo hi)) = true := by
  obtain ⟨h1, h2⟩ := sm_str.mp h
  have e : (cutZ x lo hi).cps.toList = (x.cps.toList.drop (HT.sIx x.length 0 lo)).take (HT.sIx x.length x.length hi - HT.sIx x.length 0 lo) := rfl
  refine sm_str.mpr ⟨?_, fun c hc => ?_⟩
  · show (cutZ x lo hi).cps.size ≤ _
    rw [← Array.length_toList, e, List.length_take, List.length_drop]
    have : x.cps.toList.length ≤ L := h1
    omega
  · rw [e] at hc
    exact h2 c (List.mem_of_mem_drop (List.mem_of_mem_take hc))
theorem up_ok {M L : Nat} {x : Str} (h : sm M L (.str x) = true) : sm M L (.str (upZ x)) = true := by
  obtain ⟨h1, h2⟩ := sm_str.mp h
  have e : upZ x = ⟨x.cps.map PyProof.Rows.up1⟩ := PyProof.Rows.upper_ascii h2
  rw [e]
  refine sm_str.mpr ⟨?_, fun c hc => ?_⟩
  · show (x.cps.map PyProof.Rows.up1).size ≤ _
    rw [Array.size_map]
    exact h1
  · rw [Array.toList_map] at hc
    obtain ⟨a, ha, rfl⟩ := List.mem_map.mp hc
    have := h2 a ha
    have key : ∀ a : Nat, a < 128 → PyProof.Rows.up1 a < 128 := by decide +kernel
    exact key a this
theorem len_ok {M L : Nat} {x : Str} (h : sm M L (.str x) = true) : lenZ x ≤ L := (sm_str.mp h).1
theorem str_nc {M L d c : Nat} {x : Str} (h : sm M L (.str x) = true) (hc : 10 * L + 2 ≤ c) : Nc M L d c (.str x) := ⟨h, Nat.zero_le _, by
  show 10 * x.length + 2 ≤ c
  have := (sm_str.mp h).1
  omega⟩
theorem int_nc {M L d c : Nat} {i : Int} (h : i.natAbs ≤ M) (hM : M < 1000) (hc : 4 ≤ c) : Nc M L d c (.int i) := ⟨decide_eq_true h, Nat.zero_le _, by
  show costI i ≤ c
  unfold costI
  rw [if_pos (by omega)]
  exact hc⟩
theorem replaced_dr [HasFn F n__law_draw .draw] [HasFn F n__law_pick f_law_pick] [HasFn F n__law_replaced f_law_replaced] {M L d c : Nat} (hk : 3 ≤ k) {v : PV} (h : Nc M L d c v) (hM0 : 9 ≤ M) (hM : M ≤ 60) (hL0 : 8 ≤ L) (hL : L ≤ 40) :
    Dr (prun F Hn0 k n__law_replaced [.rng, v]) 1 fun r => ∃ w, r = (.fz, w) ∧ Nc (M + 1) (L + 1) 2 600 w := by
  obtain ⟨k, rfl, hk1⟩ := up hk
  rw [run_replaced]
  have old : ∀ y ∈ base17, Nc (M + 1) (L + 1) 2 600 y := fun y hy => (base17_ok.mem hy).mono (by omega) (by omega) (by omega) (by omega)
  have fin : ∀ xs : List PV, xs ≠ [] → xs.length ≤ 100 → (∀ y ∈ xs, Nc (M + 1) (L + 1) 2 600 y) → Dr (prun F Hn0 k n__law_pick [.rng, .lst xs]) 1 fun r => ∃ w, r = (.fz, w) ∧ Nc (M + 1) (L + 1) 2 600 w := fun xs h0 hl hx =>
    Dr.mono (pick_dr hk1 xs h0 (by omega)) (Nat.le_refl _) fun r hr => by
      obtain ⟨y, hy, rfl⟩ := hr
      exact ⟨y, rfl, hx y hy⟩
  have done : ∀ a : MV, (∃ w, a = (.fz, w) ∧ Nc (M + 1) (L + 1) 2 600 w) → ∃ w, (retMd a.1, a.2) = (Md.fz, w) ∧ Nc (M + 1) (L + 1) 2 600 w := fun a ha => by
    obtain ⟨w, rfl, hw⟩ := ha
    exact ⟨w, rfl, hw⟩
  cases v with
  | non =>
    walk_at "pure"
    exact Dr.retc (fin base17 (by decide) (by decide) old) (fun v => rfl) done
  | tup xs =>
    walk_at "pure"
    exact Dr.retc (fin base17 (by decide) (by decide) old) (fun v => rfl) done
  | lst xs =>
    walk_at "pure"
    exact Dr.retc (fin base17 (by decide) (by decide) old) (fun v => rfl) done
  | scr _ => cases h.sm
  | rng => cases h.sm
  | pr _ _ => cases h.sm
  | bl b =>
    cases b
    · walk_at "pure"
      refine Dr.retc (fin _ (List.cons_ne_nil _ _) ?_ fun y hy => (Ncs.mem (M := 9) (L := 8) (d := 2) (c := 500) ?_ hy).mono (by omega) (by omega) (by omega) (by omega)) (fun v => rfl) done
      · decide
      · exact ⟨by decide +kernel, by decide +kernel, by decide +kernel⟩
    · walk_at "pure"
      refine Dr.retc (fin _ (List.cons_ne_nil _ _) ?_ fun y hy => (Ncs.mem (M := 9) (L := 8) (d := 2) (c := 500) ?_ hy).mono (by omega) (by omega) (by omega) (by omega)) (fun v => rfl) done
      · decide
      · exact ⟨by decide +kernel, by decide +kernel, by decide +kernel⟩
  | int i =>
    have hi : i.natAbs ≤ M := of_decide_eq_true h.sm
    obtain ⟨s1, s2⟩ := istr_ok hM hi
    walk_at "pure"
    rw [s1]
    walk_at "pure"
    have ext : Ncs (M + 1) (L + 1) 2 53 [.int (i + 1), .int (i - 1), .str (istr i), .bl (decide (i = 1))] :=
      .cons (c1 := 4) (int_nc (by show (i + 1).natAbs ≤ _; omega) (by omega) (Nat.le_refl _)) (.cons (c1 := 4) (int_nc (by show (i - 1).natAbs ≤ _; omega) (by omega) (Nat.le_refl _))
        (.cons (c1 := 32) (c2 := 7) ((str_nc (M := M + 1) (L := 3) (d := 2) (c := 32) (sm_mono (Nat.le_succ M) (Nat.le_refl 3) _ s2) (by omega)).mono (Nat.le_refl _) (show 3 ≤ L + 1 by omega) (Nat.le_refl _) (Nat.le_refl _)) (.cons (c1 := 5) (c2 := 0) (v := .bl (decide (i = 1))) ⟨rfl, Nat.zero_le _, Nat.le_refl _⟩ .nil)))
    have all : Ncs (M + 1) (L + 1) 2 506 (base17 ++ ([.int (i + 1), .int (i - 1), .str (istr i), .bl (decide (i = 1))] ++ [.int (i + 1), .int (i - 1), .str (istr i), .bl (decide (i = 1))])) :=
      Ncs.app (c1 := 400) (c2 := 106) ⟨sms_mono (by omega) (by omega) _ base17_ok.sm, base17_ok.dep, base17_ok.cost⟩ (ext.app ext)
    refine Dr.retc (P' := fun r => ∃ w, r = (Md.fz, w) ∧ Nc (M + 1) (L + 1) 2 600 w) (fin _ (List.cons_ne_nil _ _) (show _ + 1 ≤ 100 from ?_) fun y hy => ?_) (fun v => rfl) done
    · exact Nat.le_of_ble_eq_true rfl
    · exact (all.mem hy).mono (Nat.le_refl _) (Nat.le_refl _) (Nat.le_refl _) (by omega)
  | str x =>
    have hx : sm M L (.str x) = true := h.sm
    have lx := len_ok hx
    walk_at "pure"
    have l1 : lenZ s_x20 = 1 := rfl
    rw [fits_le' (show ((lenZ x) + (lenZ s_x20)) ≤ 100000 by show lenZ x + lenZ s_x20 ≤ _; omega)]
    walk_at "pure"
    have hf := fits_le' (show lenZ x ≤ 100000 by omega)
    rw [hf]
    walk_at "pure"
    rw [hf]
    walk_at "pure"
    have s20 : sm M 1 (.str s_x20) = true := sm_mono (Nat.zero_le _) (Nat.le_refl 1) _ (by decide +kernel : sm 0 1 (.str s_x20) = true)
    have ext : Ncs (M + 1) (L + 1) 1 2000 [.str (catZ x s_x20), .str (cutZ x (some 1) none), .str (upZ x), .lst [.str x], .str s_end, .str s_backward] := by
      refine (Ncs.cons (c1 := 412) (str_nc (sm_mono (Nat.le_succ M) (Nat.le_refl _) _ (cat_ok hx s20)) (by omega)) (.cons (c1 := 412) (str_nc (sm_mono (Nat.le_succ M) (Nat.le_succ L) _ (cut_ok hx)) (by omega))
        (.cons (c1 := 412) (str_nc (sm_mono (Nat.le_succ M) (Nat.le_succ L) _ (up_ok hx)) (by omega)) (.cons (c1 := 417) (Ncs.lst (c := 414) (.cons (c1 := 412) (c2 := 0) (str_nc (sm_mono (Nat.le_succ M) (Nat.le_succ L) _ hx) (by omega)) .nil))
          (.cons (c1 := 82) ⟨sm_mono (Nat.zero_le _) (show 3 ≤ L + 1 by omega) _ (by decide +kernel : sm 0 3 (.str s_end) = true), Nat.zero_le _, by decide +kernel⟩ (.cons (c1 := 82) (c2 := 0) ⟨sm_mono (Nat.zero_le _) (show 8 ≤ L + 1 by omega) _ (by decide +kernel : sm 0 8 (.str s_backward) = true), Nat.zero_le _, by decide +kernel⟩ .nil)))))) |> fun q => ⟨q.sm, q.dep, Nat.le_trans q.cost (by omega)⟩
    have each : ∀ y ∈ [PV.str (catZ x s_x20), .str (cutZ x (some 1) none), .str (upZ x), .lst [.str x], .str s_end, .str s_backward], Nc (M + 1) (L + 1) 2 600 y := by
      intro y hy
      have z := ext.mem hy
      refine ⟨z.sm, Nat.le_trans z.dep (by omega), ?_⟩
      simp only [List.mem_cons, List.not_mem_nil, or_false] at hy
      rcases hy with rfl | rfl | rfl | rfl | rfl | rfl
      · have := (sm_str.mp (cat_ok hx s20)).1
        show 10 * (catZ x s_x20).length + 2 ≤ 600
        omega
      · have := (sm_str.mp (cut_ok (lo := some 1) (hi := none) hx)).1
        show 10 * (cutZ x (some 1) none).length + 2 ≤ 600
        omega
      · have := (sm_str.mp (up_ok hx)).1
        show 10 * (upZ x).length + 2 ≤ 600
        omega
      · have := (sm_str.mp hx).1
        show 10 * x.length + 2 + 2 + 0 + 3 ≤ 600
        omega
      · decide +kernel
      · decide +kernel
    refine Dr.retc (P' := fun r => ∃ w, r = (Md.fz, w) ∧ Nc (M + 1) (L + 1) 2 600 w) (fin _ (List.cons_ne_nil _ _) (show _ + 1 ≤ 100 from ?_) fun y hy => ?_) (fun v => rfl) done
    · exact Nat.le_of_ble_eq_true rfl
    · rcases List.mem_append.mp (show y ∈ base17 ++ [PV.str (catZ x s_x20), .str (cutZ x (some 1) none), .str (upZ x), .lst [.str x], .str s_end, .str s_backward] from hy) with h | h
      · exact old y h
      · exact each y h
theorem run_mutate [h : HasFn F n__law_mutate f_law_mutate] (a b : PV) : prun F Hn0 (k + 1) n__law_mutate [a, b] = (pexs (cf F k) b_law_mutate [some (.fz, a), some (.fz, b), none, none, none]).nox.bind fin := run_code0 h rfl rfl rfl
end
end LP
end
section
set_option maxHeartbeats 4000000
local macro_rules | `(tactic| walk_at "pure") => `(tactic| conv => enter [1]; try simp (config := { maxSteps := 10000000 }) only [DI.kTup2, DI.kTup, DI.kLst2, DI.kLst, DI.kBin2, DI.kBin, DI.kNeg, DI.kBl, DI.kNot, DI.kCmp2, DI.kCmp, DI.kCh4, DI.kCh3, DI.kCh2, DI.kCh, DI.kAnd2, DI.kAnd, DI.kOr2, DI.kOr, DI.kNotE, DI.kIte2, DI.kIte, DI.kIx2, DI.kIx, DI.kSl3, DI.kSl2, DI.kSl, DI.kLr, DI.kIsi, DI.kCall2, DI.kCall, DI.kCons2, DI.kCons, DI.kOI, DI.kTru, DI.kKw4, DI.kKw3, DI.kKw2, DI.kKw1, DI.kKw, DI.kMt3, DI.kMt2, DI.kMt, DI.kT4, DI.kT3, DI.kT2, DI.kT1, DI.kTurn, DI.kLc2, DI.kLc, DI.kR1, DI.kR2b, DI.kR2, DI.kEn2, DI.kEn, DI.kSet2, DI.kSet, DI.kPop2, DI.kEnv, DI.kSetT3, DI.kSetT2, DI.kSetT, DI.kNx, DI.kSub4, DI.kSub3, DI.kSub2, DI.kSub, DI.kAug4, DI.kAug3, DI.kAug2, DI.kAug, DI.kRet2, DI.kRet, DI.kIf2, DI.kIf, DI.kFor2, DI.kFor, DI.kPar2, DI.kPar, DI.kSeq, DI.kIdx, DI.kApp3, DI.kApp, DI.kApp0, DI.kAp4, DI.kAp3, DI.kAp2, DI.kAp1, DI.kAp, DI.kMe4, DI.kMe3, DI.kMe2, DI.kMe, DI.kEx, DI.kZip4, DI.kZip3, DI.kZip2, DI.kZip, DI.kTest, DI.kPlc3, DI.kPlc2, DI.kMut2, DI.kMut, DI.kAppS, DI.kStS2, DI.kStS, DI.kPk, DI.newMdE, DI.ownL, DI.r_var, DI.r_cint, DI.r_cstr, DI.r_cbl, DI.r_cnon, DI.r_tup, DI.r_lst, DI.r_bin, DI.r_neg, DI.r_cmp, DI.r_chain, DI.r_and, DI.r_or, DI.r_not, DI.r_ite, DI.r_ix, DI.r_slice, DI.r_rev, DI.r_blt, DI.r_lr, DI.r_tr, DI.r_isi, DI.r_call, DI.r_nil, DI.r_cons, DI.r_onone, DI.r_osome, DI.r_cnone, DI.r_csome, DI.r_callK, DI.r_meth, DI.r_lc, DI.r_seq, DI.r_range1, DI.r_range2, DI.r_enum, DI.s_nil, DI.s_cons, DI.s_setT, DI.s_sub, DI.s_aug, DI.s_ite, DI.s_for, DI.s_par, DI.s_pass, DI.s_brk, DI.s_cont, DI.s_pop, DI.s_set_var, DI.s_ret_var, DI.s_set_cint, DI.s_ret_cint, DI.s_set_cstr, DI.s_ret_cstr, DI.s_set_cbl, DI.s_ret_cbl, DI.s_set_cnon, DI.s_ret_cnon, DI.s_set_tup, DI.s_ret_tup, DI.s_set_lst, DI.s_ret_lst, DI.s_set_bin, DI.s_ret_bin, DI.s_set_neg, DI.s_ret_neg, DI.s_set_cmp, DI.s_ret_cmp, DI.s_set_chain, DI.s_ret_chain, DI.s_set_and, DI.s_ret_and, DI.s_set_or, DI.s_ret_or, DI.s_set_not, DI.s_ret_not, DI.s_set_ite, DI.s_ret_ite, DI.s_set_ix, DI.s_ret_ix, DI.s_set_slice, DI.s_ret_slice, DI.s_set_rev, DI.s_ret_rev, DI.s_set_blt, DI.s_ret_blt, DI.s_set_lr, DI.s_ret_lr, DI.s_set_tr, DI.s_ret_tr, DI.s_set_isi, DI.s_ret_isi, DI.s_set_call, DI.s_ret_call, DI.s_set_callK, DI.s_ret_callK, DI.s_set_lc, DI.s_ret_lc, DI.s_set_upper, DI.s_ret_upper, DI.s_app, DI.s_app2, DI.s_insert, DI.s_popAt, DI.s_ex_call, DI.r_zip, DI.s_while, DI.r_plc, DI.fin_ret, DI.fin_next, DI.fin_exc, DI.frz1_n, DI.frz1_z, DI.frz1_s, DI.frz_n, DI.frz_c, DI.frzS_none, DI.frzS_fz, DI.frzS_b1, DI.frzS_b2, DI.frzS_o1t, DI.frzS_o1f, DI.frzS_o2t, DI.frzS_o2f, DI.varP_z, DI.varP_s, DI.set_z, DI.set_s, DI.atS_z, DI.atS_s, DI.ownB_e, DI.mutS_e, DI.appS_e, DI.setSubS_e, DI.e_var0, DI.e_var1, DI.e_var2, DI.e_tup, DI.e_lst, DI.e_bin, DI.e_neg, DI.e_cmp, DI.e_chain, DI.e_and, DI.e_or, DI.e_not, DI.e_ite, DI.e_ix0, DI.e_ix1, DI.e_ix2, DI.e_slice, DI.e_rev, DI.e_list, DI.e_tuple, DI.e_len, DI.e_all, DI.e_any, DI.e_abs, DI.e_int, DI.e_str, DI.e_repr, DI.e_min2, DI.e_max2, DI.e_lcm, DI.e_sorted, DI.e_lr, DI.e_tr, DI.e_isi, DI.e_call, DI.e_callK, DI.e_meth, DI.e_lc, DI.e_cint, DI.e_cstr, DI.e_cbl, DI.e_cnon, DI.e_nil, DI.e_cons, DI.e_onone, DI.e_osome, DI.e_seq, DI.e_range1, DI.e_range2, DI.e_enum, DI.e_zip, DI.wipe_n, DI.wipe_c, DI.lk_z, DI.lk_s, DI.pick_n, DI.pick_c, DI.mkS, DI.asTupP, DI.m_index, DI.newMd0, DI.movB0, DI.beqI, DI.bneI, DI.ownS, DI.binP, DI.itemsP, DI.cmpP, DI.truthP, DI.asBP, DI.itMd, DI.ixP, DI.sliceP, DI.revP, DI.tyP, DI.isiP, DI.rgP, DI.recvP, DI.augP, DI.stored, DI.litE, DI.allNew, DI.dispMd, DI.newE, DI.setEnvsP, DI.setEnvsM, DI.bindP, DI.rdMd, DI.stP, DI.seqP, DI.retMd, DI.Md.stB, DI.Md.cpB, DI.Md.own1, DI.Mth.listB, DI.flatP, DI.cf, DI.bI, DI.rgItemsP, DI.bltP, DI.bind_ret, DI.nox_ret, DI.resc_ret, DI.pif_true, DI.pif_false, DI.eqP_int, DI.eqP_bl, DI.eqP_bi, DI.eqP_non, DI.bind_stuck, DI.bind_draw, DI.nox_draw, DI.resc_draw, DI.resc_exc, DI.bind_exc, DI.popt_some, DI.popt_none, DI.plc_nil, DI.forP_nil, DI.enumP_nil, DI.enumP_cons, DI.zipP_nil, DI.zipP_cons, DI.len_q, DI.qlen_nil, DI.qlen_cons, DI.map_q, DI.qmap_nil, DI.qmap_cons, DI.app_q, DI.qapp_nil, DI.qapp_cons, DI.any_q, DI.qany_nil, DI.qany_cons, DI.all_q, DI.qall_nil, DI.qall_cons, DI.empty_q, DI.qempty_nil, DI.qempty_cons, DI.take_q, DI.drop_q, DI.rev_q, DI.blsP_nil, DI.blsP_cons, DI.intsP_nil, DI.intsP_cons, DI.at_q, DI.qat_0, DI.qat_1, DI.qat_2, DI.qat_3, DI.bls_true, DI.all_true, DI.imod_q, DI.idiv_q, DI.mut_append, DI.mut_insert, DI.qix_q, DI.ntI_q, DI.meth_upper, DI.repB_2_4, DI.repP_2, DI.repP_3, DI.fits_0, DI.fits_1, DI.fits_2, DI.fits_3, DI.fits_4, DI.fits_5, DI.fits_6, DI.fits_7, DI.fits_8, DI.fits_9, DI.fits_10, DI.fits_11, DI.fits_12, DI.fits_13, DI.fits_14, DI.fits_15, DI.fits_16, DI.fits_17, DI.fits_18, DI.fits_19, DI.fits_20, DI.fits_21, DI.fits_22, DI.fits_23, DI.fits_24, DI.fits_25, DI.fits_26, DI.fits_27, DI.fits_28, DI.fits_29, DI.fits_30, DI.fits_31, DI.fits_32, DI.fits_33, DI.fits_34, DI.fits_35, DI.fits_36, DI.fits_37, DI.fits_38, DI.fits_39, DI.fits_40, DI.fits_41, DI.fits_42, DI.fits_43, DI.fits_44, DI.fits_45, DI.fits_46, DI.fits_47, DI.fits_48, DI.fits_49, DI.fits_50, DI.fits_51, DI.fits_52, DI.fits_53, DI.fits_54, DI.fits_55, DI.fits_56, DI.fits_57, DI.fits_58, DI.fits_59, DI.fits_60, DI.fits_61, DI.fits_62, DI.fits_63, DI.fits_64, DI.nI_l, DI.ltI_t, DI.ltI_f, DI.leI_t, DI.leI_f, DI.nzI_t, DI.smI_t, DI.rgB_t, DI.rg1B_t, DI.rg2B_t, not_false_eq_true, not_true_eq_false, ne_eq, DI.ty_NoneType_bool, DI.ty_NoneType_int, DI.ty_NoneType_str, DI.ty_NoneType_tuple, DI.ty_NoneType_list, DI.ty_bool_bool, DI.ty_bool_int, DI.ty_bool_str, DI.ty_bool_tuple, DI.ty_bool_list, DI.ty_int_bool, DI.ty_int_int, DI.ty_int_str, DI.ty_int_tuple, DI.ty_int_list, DI.ty_str_bool, DI.ty_str_int, DI.ty_str_str, DI.ty_str_tuple, DI.ty_str_list, DI.ty_tuple_bool, DI.ty_tuple_int, DI.ty_tuple_str, DI.ty_tuple_tuple, DI.ty_tuple_list, DI.ty_list_bool, DI.ty_list_int, DI.ty_list_str, DI.ty_list_tuple, DI.ty_list_list, Nat.reduceAdd, Nat.reduceLT, Nat.reduceLeDiff, Nat.reduceEqDiff, Int.reduceAdd, Int.reduceSub, Int.reduceMul, Int.reduceNeg, Int.reduceEq, Int.reduceLT, Int.reduceLE, Nat.reducePow, decide_true, decide_false, Bool.not_true, Bool.not_false, Bool.and_true, Bool.true_and, Bool.and_false, Bool.false_and, Bool.or_true, Bool.true_or, Bool.or_false, Bool.false_or, Bool.cond_true, Bool.cond_false, Option.map_some, Option.map_none, id_eq, reduceCtorEq, Bool.true_beq, Bool.false_beq, Bool.not_not, LP.eq_s_backward_s_backward, LP.eq_s_backward_s_end, LP.eq_s_backward_s_x20, LP.eq_s_backward_s_start, LP.eq_s_backward_s_forward, LP.eq_s_backward_s_x, LP.eq_s_end_s_backward, LP.eq_s_end_s_end, LP.eq_s_end_s_x20, LP.eq_s_end_s_start, LP.eq_s_end_s_forward, LP.eq_s_end_s_x, LP.eq_s_x20_s_backward, LP.eq_s_x20_s_end, LP.eq_s_x20_s_x20, LP.eq_s_x20_s_start, LP.eq_s_x20_s_forward, LP.eq_s_x20_s_x, LP.eq_s_start_s_backward, LP.eq_s_start_s_end, LP.eq_s_start_s_x20, LP.eq_s_start_s_start, LP.eq_s_start_s_forward, LP.eq_s_start_s_x, LP.eq_s_forward_s_backward, LP.eq_s_forward_s_end, LP.eq_s_forward_s_x20, LP.eq_s_forward_s_start, LP.eq_s_forward_s_forward, LP.eq_s_forward_s_x, LP.eq_s_x_s_backward, LP.eq_s_x_s_end, LP.eq_s_x_s_x20, LP.eq_s_x_s_start, LP.eq_s_x_s_forward, LP.eq_s_x_s_x, LP.b_is_plain_int, LP.b_is_permutation, LP.b_law_pick, LP.b_law_same, LP.b_law_shuffle, LP.b_law_replaced, LP.b_law_mutate, LP.b_law_integer, LP.b_law_is_permutation, LP.b_is_number_below, LP.b_is_fitting_passage, LP.b_is_house, LP.b_law_permutation, LP.b_law_passage, LP.b_law_house, LP.b_law_is_passage, LP.b_law_is_house, LP.b_inverse, LP.b_crossing, LP.b_end_room, LP.b_is_slide, LP.b_law_listed, LP.b_law_inverse, LP.b_law_ends, LP.b_law_is_slide, LP.b_law_slides])
namespace DI
theorem Dr.retc2 {t : PT MV} {env env' : PEnv} {g h : PS → PT PS} {n : Nat} {P P' : MV → Prop} (hd : Dr t n P) (hg : ∀ v, g (.ret v, env') = .ret (.ret v, env')) (hh : ∀ v, h (.ret v, env') = .ret (.ret v, env')) (hP : ∀ a, P a → P' (retMd a.1, a.2)) :
    Dr ((((PT.resc env (fun x => .ret (.ret (retMd x.1, x.2), env')) t).bind g).bind h).nox.bind DI.fin) n P' := by
  refine Dr.fin (Dr.bind0 (Dr.bind0 (Dr.resc (m := 0) (Q := fun p => ∃ v, p = (.ret v, env') ∧ P' v) hd fun a ha => Dr.ret ⟨_, rfl, hP a ha⟩) (Q := fun p => ∃ v, p = (.ret v, env') ∧ P' v) fun p hp => ?_) fun p hp => ?_)
  · obtain ⟨v, rfl, hv⟩ := hp
    rw [hg]
    exact Dr.ret ⟨v, rfl, hv⟩
  · obtain ⟨v, rfl, hv⟩ := hp
    rw [hh]
    exact Dr.ret ⟨v, rfl, hv⟩
/-- a run that stands in a place where it is run first -/
theorem Dr.ctx {α β : Type} {C : PT α → PT β} {t : PT α} {n m N : Nat} {P : α → Prop} {Q : β → Prop} (h : Dr t n P) (hC : ∀ j k, C (.draw j k) = .draw j fun v => C (k v)) (hN : n + m ≤ N) (hf : ∀ a, P a → Dr (C (.ret a)) m Q) : Dr (C t) N Q := by
  refine Dr.mono (n := n + m) (P := Q) ?_ hN fun a q => q
  intro b hb
  have key : ∀ (t : PT α) (b : Nat) (R : Nat → α → Prop) (S : Nat → β → Prop), PTri t b R (fun _ _ => False) → (∀ b a, R b a → PTri (C (.ret a)) b S fun _ _ => False) → PTri (C t) b S fun _ _ => False := by
    intro t
    induction t with
    | ret a => exact fun b R S h g => g b a h
    | draw j k ih =>
      intro b R S ⟨b', e, h⟩ g
      rw [hC]
      exact ⟨b', e, fun v h0 h1 => ih v b' R S (h v h0 h1) g⟩
    | exc x => exact fun b R S h => h.elim
    | stuck => exact fun b R S h => h.elim
  exact key t b _ _ (h b (by omega)) fun b' a q => (hf a q.2 b' (by omega)).mono (fun b2 c _ w => ⟨by omega, w.2⟩) fun _ _ _ w => w
end DI
namespace DI
def qset (xs : List PV) (n : Nat) (y : PV) : List PV := xs.set n y
theorem set_q (xs : List PV) (n : Nat) (y : PV) : xs.set n y = qset xs n y := rfl
end DI
namespace LP
open PySem L2 DI
section
variable {F : Tab} {k : Nat}
theorem mut_popAt {xs : List PV} {i : Nat} {x : PV} (hx : xs[i]? = some x) (h2 : i ≤ 20000) : mutP .popAt xs [.int (((i : Nat) : Int))] = .ret (xs.eraseIdx i, x) := by
  show (match xs[i]? with | some y => pif (decide (0 ≤ (i : Int)) && decide ((i : Int) < 2 ^ 62)) (.ret (xs.eraseIdx i, y)) | none => .stuck) = _
  rw [hx]
  dsimp only
  rw [decide_eq_true (Int.natCast_nonneg i), decide_eq_true (show (i : Int) < 2 ^ 62 by omega)]
  rfl
theorem cost_set : ∀ {xs : List PV} {i : Nat} {x : PV} (w : PV), xs[i]? = some x → costVs (xs.set i w) + costV x = costVs xs + costV w
  | y :: ys, 0, x, w, h => by
    obtain rfl : y = x := Option.some.inj h
    show costV w + 2 + costVs ys + costV y = costV y + 2 + costVs ys + costV w
    omega
  | y :: ys, i + 1, x, w, h => by
    have := cost_set (xs := ys) (i := i) w h
    show costV y + 2 + costVs (ys.set i w) + costV x = costV y + 2 + costVs ys + costV w
    omega
theorem cost_mem : ∀ {xs : List PV} {x : PV}, x ∈ xs → costV x ≤ costVs xs
  | y :: ys, x, h => by
    show costV x ≤ costV y + 2 + costVs ys
    rcases List.mem_cons.mp h with rfl | h
    · omega
    · have := cost_mem h
      omega
theorem ncs_set {M L M' L' d d' c c' : Nat} {xs : List PV} {i : Nat} {x w : PV} (h : Ncs M L d c xs) (hx : xs[i]? = some x) (hw : Nc M' L' d' (2 * costV x + 700) w) (hM : M ≤ M') (hL : L ≤ L') (hd : d ≤ d') (hc : 2 * c + 700 ≤ c') : Ncs M' L' d' c' (xs.set i w) := by
  have hm := cost_mem (List.mem_of_getElem? hx)
  refine ⟨sms_mem.mpr fun v hv => ?_, deps_le.mpr fun v hv => ?_, ?_⟩
  · rcases List.mem_or_eq_of_mem_set hv with hv | rfl
    · exact sm_mono hM hL _ (sms_mem.mp h.sm v hv)
    · exact hw.sm
  · rcases List.mem_or_eq_of_mem_set hv with hv | rfl
    · exact Nat.le_trans (deps_le.mp h.dep v hv) hd
    · exact hw.dep
  · have := cost_set w hx
    have := h.cost
    have := hw.cost
    omega
theorem ncs_ins {M L d c : Nat} {xs : List PV} {i : Nat} {x : PV} (h : Ncs M L d c xs) (hx : xs[i]? = some x) : Ncs M L d (2 * c + 2) (xs.take i ++ [x] ++ xs.drop i) := by
  have hm := List.mem_of_getElem? hx
  have p : (xs.take i ++ [x] ++ xs.drop i).Perm (x :: xs) := by
    have e : xs.take i ++ [x] ++ xs.drop i = xs.take i ++ x :: xs.drop i := by simp
    rw [e]
    refine List.perm_middle.trans ?_
    rw [List.take_append_drop]
  have q : Ncs M L d (costV x + 2 + c) (x :: xs) := .cons ⟨sms_mem.mp h.sm x hm, deps_le.mp h.dep x hm, Nat.le_refl _⟩ h
  have := cost_mem hm
  have := h.cost
  have z := q.perm p
  exact ⟨z.sm, z.dep, Nat.le_trans z.cost (by omega)⟩
theorem qix_nat {n i : Nat} (h : i < n) : qix n (((i : Nat) : Int)) = some i := by
  unfold qix ixN
  rw [if_pos (show (0 : Int) ≤ ((i : Nat) : Int) from Int.natCast_nonneg i), if_pos (show ((i : Nat) : Int) < (n : Int) from Int.ofNat_lt.mpr h)]
  rfl
theorem len_cut (xs : List PV) (lo hi : Option Int) : (cutP xs lo hi).length ≤ xs.length := by
  unfold cutP
  rw [List.length_take, List.length_drop]
  omega
theorem swap_perm (xs : List PV) (i : Nat) : (cutP xs none (some (((i : Nat) : Int))) ++ (cutP xs (some (((i : Nat) : Int))) (some ((((i : Nat) : Int)) + 2))).reverse ++ cutP xs (some ((((i : Nat) : Int)) + 2)) none).Perm xs := by
  have e : ((((i : Nat) : Int)) + 2) = ((i + 2 : Nat) : Int) := rfl
  have e0 : ((i : Nat) : Int) = (i : Int) := rfl
  rw [e, e0]
  refine ((List.Perm.append_left _ (List.reverse_perm _)).append_right _).trans (List.Perm.of_eq ?_)
  unfold cutP
  simp only [HT.sIx_none, HT.sIx_nat, List.drop_zero, Nat.sub_zero]
  by_cases h : i + 2 ≤ xs.length
  · rw [Nat.min_eq_left h, Nat.min_eq_left (show i ≤ xs.length by omega), show i + 2 - i = 2 by omega, List.take_of_length_le (l := xs.drop (i + 2)) (by rw [List.length_drop]; omega)]
    rw [← List.drop_drop, List.append_assoc, List.take_append_drop, List.take_append_drop]
  · rw [Nat.min_eq_right (show xs.length ≤ i + 2 by omega), Nat.sub_self, List.take_zero, List.append_nil]
    by_cases h2 : i ≤ xs.length
    · rw [Nat.min_eq_left h2, List.take_of_length_le (l := xs.drop i) (by rw [List.length_drop]; omega), List.take_append_drop]
    · rw [Nat.min_eq_right (show xs.length ≤ i by omega), Nat.sub_self, List.take_zero, List.append_nil, List.take_length]
theorem mutate_dr [HasFn F n__law_draw .draw] [HasFn F n__law_pick f_law_pick] [HasFn F n__law_replaced f_law_replaced] [HasFn F n__law_mutate f_law_mutate] {M L : Nat} (hM0 : 9 ≤ M) (hM : M ≤ 60) (hL0 : 8 ≤ L) (hL : L ≤ 40) :
    ∀ (D : Nat) (k d c : Nat) (v : PV), dep v ≤ D → d ≤ D → D + 4 ≤ k → c ≤ 20000 → Nc M L d c v → Dr (prun F Hn0 k n__law_mutate [.rng, v]) (4 * (D + 1)) fun r => ∃ w, r = (.fz, w) ∧ Nc (M + 1) (L + 1) (d + 2) (2 * c + 700) w := by
  intro D
  induction D with
  | zero =>
    intro k d c v hd hd2 hk hc h
    obtain ⟨k, rfl, hk1⟩ := up (n := 3) (by omega)
    rw [run_mutate]
    have done : ∀ a : MV, (∃ w, a = (.fz, w) ∧ Nc (M + 1) (L + 1) 2 600 w) → ∃ w, (retMd a.1, a.2) = (Md.fz, w) ∧ Nc (M + 1) (L + 1) (d + 2) (2 * c + 700) w := fun a ha => by
      obtain ⟨w, rfl, hw⟩ := ha
      exact ⟨w, rfl, hw.mono (Nat.le_refl _) (Nat.le_refl _) (by omega) (by omega)⟩
    have rep := replaced_dr (F := F) (k := k) (by omega) h hM0 hM hL0 hL
    cases v with
    | scr _ => cases h.sm
    | rng => cases h.sm
    | pr _ _ => cases h.sm
    | non =>
      walk_at "pure"
      exact Dr.mono (Dr.retc2 rep (fun v => rfl) (fun v => rfl) done) (by omega) fun a q => q
    | bl b =>
      walk_at "pure"
      exact Dr.mono (Dr.retc2 rep (fun v => rfl) (fun v => rfl) done) (by omega) fun a q => q
    | int b =>
      walk_at "pure"
      exact Dr.mono (Dr.retc2 rep (fun v => rfl) (fun v => rfl) done) (by omega) fun a q => q
    | str b =>
      walk_at "pure"
      exact Dr.mono (Dr.retc2 rep (fun v => rfl) (fun v => rfl) done) (by omega) fun a q => q
    | tup xs => exact absurd (show deps xs + 1 ≤ 0 from hd) (by omega)
    | lst xs => exact absurd (show deps xs + 1 ≤ 0 from hd) (by omega)
  | succ D ih =>
    intro k d c v hd hd2 hk hc h
    obtain ⟨k, rfl, hk1⟩ := up (n := D + 4) (by omega)
    rw [run_mutate]
    have done : ∀ a : MV, (∃ w, a = (.fz, w) ∧ Nc (M + 1) (L + 1) 2 600 w) → ∃ w, (retMd a.1, a.2) = (Md.fz, w) ∧ Nc (M + 1) (L + 1) (d + 2) (2 * c + 700) w := fun a ha => by
      obtain ⟨w, rfl, hw⟩ := ha
      exact ⟨w, rfl, hw.mono (Nat.le_refl _) (Nat.le_refl _) (by omega) (by omega)⟩
    have rep := replaced_dr (F := F) (k := k) (by omega) h hM0 hM hL0 hL
    cases v with
    | scr _ => cases h.sm
    | rng => cases h.sm
    | pr _ _ => cases h.sm
    | non =>
      walk_at "pure"
      exact Dr.mono (Dr.retc2 rep (fun v => rfl) (fun v => rfl) done) (by omega) fun a q => q
    | bl b =>
      walk_at "pure"
      exact Dr.mono (Dr.retc2 rep (fun v => rfl) (fun v => rfl) done) (by omega) fun a q => q
    | int b =>
      walk_at "pure"
      exact Dr.mono (Dr.retc2 rep (fun v => rfl) (fun v => rfl) done) (by omega) fun a q => q
    | str b =>
      walk_at "pure"
      exact Dr.mono (Dr.retc2 rep (fun v => rfl) (fun v => rfl) done) (by omega) fun a q => q
    | tup xs =>
      by_cases h0 : xs = []
      · subst h0
        walk_at "pure"
        exact Dr.mono (Dr.retc2 rep (fun v => rfl) (fun v => rfl) done) (by omega) fun a q => q
      · have hp : 0 < xs.length := List.length_pos_iff.mpr h0
        have hcx : xs.length ≤ 20000 := by
          have := h.cost
          have := len_cost (xs := xs)
          have : costV (.tup xs) = costVs xs + 3 := rfl
          omega
        walk_at "pure"
        have e0 : decide (nI (qlen xs) = 0) = false := decide_eq_false (by show ((xs.length : Nat) : Int) ≠ 0; omega)
        rw [e0]
        walk_at "pure"
        rw [run_draw (k := k) (by omega) _ (by omega) (by omega)]
        walk_at "pure"
        refine Dr.mono (Dr.draw (n := 4 * (D + 1) + 3) fun v v0 v1 => ?_) (by omega) fun a q => q
        by_cases hv : v = 0
        · walk_at "pure"
          rw [decide_eq_true hv]
          walk_at "pure"
          exact Dr.mono (Dr.retc2 rep (fun v => rfl) (fun v => rfl) done) (by omega) fun a q => q
        walk_at "pure"
        rw [decide_eq_false hv]
        walk_at "pure"
        rw [run_draw (k := k) (by omega) _ (by omega) (by omega)]
        walk_at "pure"
        refine Dr.mono (Dr.draw (n := 4 * (D + 1) + 1) fun kd kd0 kd1 => ?_) (by omega) fun a q => q
        walk_at "pure"
        rw [show nI (qlen xs) = ((xs.length : Nat) : Int) from rfl, run_draw (k := k) (by omega) _ (by omega) (by omega)]
        walk_at "pure"
        refine Dr.mono (Dr.draw (n := 4 * (D + 1)) fun at_ at0 at1 => ?_) (by omega) fun a q => q
        obtain ⟨i, rfl⟩ : ∃ i : Nat, at_ = i := ⟨at_.toNat, by omega⟩
        have at1 : (i : Int) < (xs.length : Int) := at1
        have hi : i < xs.length := by omega
        obtain ⟨x, hx⟩ : ∃ x, xs[i]? = some x := ⟨_, List.getElem?_eq_getElem hi⟩
        have at_q : qat xs (((i : Nat) : Int)) = some x := by
          rw [show ((i : Nat) : Int) = (i : Int) from rfl, qat_nat]
          exact hx
        obtain ⟨er, her⟩ : ∃ ys, ys = xs.eraseIdx i := ⟨_, rfl⟩
        obtain ⟨d, rfl⟩ : ∃ e, d = e + 1 := ⟨d - 1, by have : deps xs + 1 ≤ d := h.dep; omega⟩
        obtain ⟨c, rfl⟩ : ∃ e, c = e + 3 := ⟨c - 3, by have : costVs xs + 3 ≤ c := h.cost; omega⟩
        have its : Ncs M L d c xs := Nc.items (.inl h)
        walk_at "pure"
        by_cases h4 : kd < 4
        · rw [show ltI kd 4 = true from decide_eq_true h4]
          walk_at "pure"
          rw [at_q]
          walk_at "pure"
          have hm := List.mem_of_getElem? hx
          have hmc := cost_mem hm
          have hic := its.cost
          have hxN : Nc M L d (costV x) x := ⟨sms_mem.mp its.sm x hm, deps_le.mp its.dep x hm, Nat.le_refl _⟩
          have hrc := ih k d (costV x) x (Nat.le_trans hxN.dep (by omega)) (by omega) (by omega) (by omega) hxN
          generalize prun F Hn0 k n__law_mutate [.rng, x] = t at hrc ⊢
          apply Dr.ctx (m := 0) (t := t) hrc
          · intro j k
            rfl
          · omega
          intro a ha
          obtain ⟨w, rfl, hw⟩ := ha
          walk_at "pure"
          rw [qix_nat (n := qlen xs) hi]
          walk_at "pure"
          exact Dr.ret ⟨_, rfl, (Ncs.tup (ncs_set (c' := 2 * c + 700) its hx hw (Nat.le_succ M) (Nat.le_succ L) (Nat.le_add_right d 2) (Nat.le_refl _))).mono (Nat.le_refl _) (Nat.le_refl _) (by omega) (by omega)⟩
        rw [show ltI kd 4 = false from decide_eq_false h4]
        obtain rfl | rfl | rfl | rfl | rfl : kd = 4 ∨ kd = 5 ∨ kd = 6 ∨ kd = 7 ∨ kd = 8 := by omega
        · walk_at "pure"
          rw [mut_popAt hx (by omega), ← her]
          walk_at "pure"
          rw [her]
          exact Dr.ret ⟨_, rfl, (Ncs.tup (its.sub (List.eraseIdx_sublist ..))).mono (Nat.le_succ M) (Nat.le_succ L) (by omega) (by omega)⟩
        · walk_at "pure"
          rw [at_q]
          walk_at "pure"
          rw [insB_ok (n := qlen xs) (v := ((i : Nat) : Int)) (show xs.length < 100000 by omega) (Int.natCast_nonneg i) (show (i : Int) < 2 ^ 62 by omega)]
          walk_at "pure"
          exact Dr.ret ⟨_, rfl, (Ncs.tup (ncs_ins its hx)).mono (Nat.le_succ M) (Nat.le_succ L) (by omega) (by omega)⟩
        · walk_at "pure"
          exact Dr.ret ⟨_, rfl, (Ncs.tup (its.perm (List.reverse_perm xs))).mono (Nat.le_succ M) (Nat.le_succ L) (by omega) (by omega)⟩
        · walk_at "pure"
          have l1 := len_cut xs none (some (((i : Nat) : Int)))
          have l2 := len_cut xs (some (((i : Nat) : Int))) (some ((((i : Nat) : Int)) + 2))
          have l3 := len_cut xs (some ((((i : Nat) : Int)) + 2)) none
          have pp := swap_perm xs i
          generalize cutP xs none (some (((i : Nat) : Int))) = c1 at l1 pp ⊢
          generalize cutP xs (some (((i : Nat) : Int))) (some ((((i : Nat) : Int)) + 2)) = c2 at l2 pp ⊢
          have e1 : (c1 ++ c2.reverse).length ≤ 40000 := by rw [List.length_append, List.length_reverse]; omega
          rw [fits_le' (n := ((qlen c1) + (qlen (qrev c2)))) (show c1.length + c2.reverse.length ≤ _ by rw [List.length_reverse]; omega)]
          walk_at "pure"
          rw [fits_le' (n := ((qlen (qapp c1 (qrev c2))) + (qlen (cutP xs (some ((((i : Nat) : Int)) + 2)) none)))) (show (c1 ++ c2.reverse).length + (cutP xs (some ((((i : Nat) : Int)) + 2)) none).length ≤ _ by omega)]
          walk_at "pure"
          exact Dr.ret ⟨_, rfl, (Ncs.tup (its.perm pp)).mono (Nat.le_succ M) (Nat.le_succ L) (by omega) (by omega)⟩
        · walk_at "pure"
          exact Dr.ret ⟨_, rfl, (Ncs.lst its).mono (Nat.le_succ M) (Nat.le_succ L) (by omega) (by omega)⟩
    | lst xs =>
      by_cases h0 : xs = []
      · subst h0
        walk_at "pure"
        exact Dr.mono (Dr.retc2 rep (fun v => rfl) (fun v => rfl) done) (by omega) fun a q => q
      · have hp : 0 < xs.length := List.length_pos_iff.mpr h0
        have hcx : xs.length ≤ 20000 := by
          have := h.cost
          have := len_cost (xs := xs)
          have : costV (.lst xs) = costVs xs + 3 := rfl
          omega
        walk_at "pure"
        have e0 : decide (nI (qlen xs) = 0) = false := decide_eq_false (by show ((xs.length : Nat) : Int) ≠ 0; omega)
        rw [e0]
        walk_at "pure"
        rw [run_draw (k := k) (by omega) _ (by omega) (by omega)]
        walk_at "pure"
        refine Dr.mono (Dr.draw (n := 4 * (D + 1) + 3) fun v v0 v1 => ?_) (by omega) fun a q => q
        by_cases hv : v = 0
        · walk_at "pure"
          rw [decide_eq_true hv]
          walk_at "pure"
          exact Dr.mono (Dr.retc2 rep (fun v => rfl) (fun v => rfl) done) (by omega) fun a q => q
        walk_at "pure"
        rw [decide_eq_false hv]
        walk_at "pure"
        rw [run_draw (k := k) (by omega) _ (by omega) (by omega)]
        walk_at "pure"
        refine Dr.mono (Dr.draw (n := 4 * (D + 1) + 1) fun kd kd0 kd1 => ?_) (by omega) fun a q => q
        walk_at "pure"
        rw [show nI (qlen xs) = ((xs.length : Nat) : Int) from rfl, run_draw (k := k) (by omega) _ (by omega) (by omega)]
        walk_at "pure"
        refine Dr.mono (Dr.draw (n := 4 * (D + 1)) fun at_ at0 at1 => ?_) (by omega) fun a q => q
        obtain ⟨i, rfl⟩ : ∃ i : Nat, at_ = i := ⟨at_.toNat, by omega⟩
        have at1 : (i : Int) < (xs.length : Int) := at1
        have hi : i < xs.length := by omega
        obtain ⟨x, hx⟩ : ∃ x, xs[i]? = some x := ⟨_, List.getElem?_eq_getElem hi⟩
        have at_q : qat xs (((i : Nat) : Int)) = some x := by
          rw [show ((i : Nat) : Int) = (i : Int) from rfl, qat_nat]
          exact hx
        obtain ⟨er, her⟩ : ∃ ys, ys = xs.eraseIdx i := ⟨_, rfl⟩
        obtain ⟨d, rfl⟩ : ∃ e, d = e + 1 := ⟨d - 1, by have : deps xs + 1 ≤ d := h.dep; omega⟩
        obtain ⟨c, rfl⟩ : ∃ e, c = e + 3 := ⟨c - 3, by have : costVs xs + 3 ≤ c := h.cost; omega⟩
        have its : Ncs M L d c xs := Nc.items (.inr h)
        walk_at "pure"
        by_cases h4 : kd < 4
        · rw [show ltI kd 4 = true from decide_eq_true h4]
          walk_at "pure"
          rw [at_q]
          walk_at "pure"
          have hm := List.mem_of_getElem? hx
          have hmc := cost_mem hm
          have hic := its.cost
          have hxN : Nc M L d (costV x) x := ⟨sms_mem.mp its.sm x hm, deps_le.mp its.dep x hm, Nat.le_refl _⟩
          have hrc := ih k d (costV x) x (Nat.le_trans hxN.dep (by omega)) (by omega) (by omega) (by omega) hxN
          generalize prun F Hn0 k n__law_mutate [.rng, x] = t at hrc ⊢
          apply Dr.ctx (m := 0) (t := t) hrc
          · intro j k
            rfl
          · omega
          intro a ha
          obtain ⟨w, rfl, hw⟩ := ha
          walk_at "pure"
          rw [qix_nat (n := qlen xs) hi]
          walk_at "pure"
          exact Dr.ret ⟨_, rfl, (Ncs.lst (ncs_set (c' := 2 * c + 700) its hx hw (Nat.le_succ M) (Nat.le_succ L) (Nat.le_add_right d 2) (Nat.le_refl _))).mono (Nat.le_refl _) (Nat.le_refl _) (by omega) (by omega)⟩
        rw [show ltI kd 4 = false from decide_eq_false h4]
        obtain rfl | rfl | rfl | rfl | rfl : kd = 4 ∨ kd = 5 ∨ kd = 6 ∨ kd = 7 ∨ kd = 8 := by omega
        · walk_at "pure"
          rw [mut_popAt hx (by omega), ← her]
          walk_at "pure"
          rw [her]
          exact Dr.ret ⟨_, rfl, (Ncs.lst (its.sub (List.eraseIdx_sublist ..))).mono (Nat.le_succ M) (Nat.le_succ L) (by omega) (by omega)⟩
        · walk_at "pure"
          rw [at_q]
          walk_at "pure"
          rw [insB_ok (n := qlen xs) (v := ((i : Nat) : Int)) (show xs.length < 100000 by omega) (Int.natCast_nonneg i) (show (i : Int) < 2 ^ 62 by omega)]
          walk_at "pure"
          exact Dr.ret ⟨_, rfl, (Ncs.lst (ncs_ins its hx)).mono (Nat.le_succ M) (Nat.le_succ L) (by omega) (by omega)⟩
        · walk_at "pure"
          exact Dr.ret ⟨_, rfl, (Ncs.lst (its.perm (List.reverse_perm xs))).mono (Nat.le_succ M) (Nat.le_succ L) (by omega) (by omega)⟩
        · walk_at "pure"
          have l1 := len_cut xs none (some (((i : Nat) : Int)))
          have l2 := len_cut xs (some (((i : Nat) : Int))) (some ((((i : Nat) : Int)) + 2))
          have l3 := len_cut xs (some ((((i : Nat) : Int)) + 2)) none
          have pp := swap_perm xs i
          generalize cutP xs none (some (((i : Nat) : Int))) = c1 at l1 pp ⊢
          generalize cutP xs (some (((i : Nat) : Int))) (some ((((i : Nat) : Int)) + 2)) = c2 at l2 pp ⊢
          have e1 : (c1 ++ c2.reverse).length ≤ 40000 := by rw [List.length_append, List.length_reverse]; omega
          rw [fits_le' (n := ((qlen c1) + (qlen (qrev c2)))) (show c1.length + c2.reverse.length ≤ _ by rw [List.length_reverse]; omega)]
          walk_at "pure"
          rw [fits_le' (n := ((qlen (qapp c1 (qrev c2))) + (qlen (cutP xs (some ((((i : Nat) : Int)) + 2)) none)))) (show (c1 ++ c2.reverse).length + (cutP xs (some ((((i : Nat) : Int)) + 2)) none).length ≤ _ by omega)]
          walk_at "pure"
          exact Dr.ret ⟨_, rfl, (Ncs.lst (its.perm pp)).mono (Nat.le_succ M) (Nat.le_succ L) (by omega) (by omega)⟩
        · walk_at "pure"
          exact Dr.ret ⟨_, rfl, (Ncs.tup its).mono (Nat.le_succ M) (Nat.le_succ L) (by omega) (by omega)⟩
end
end LP
end
section
set_option maxHeartbeats 4000000
local macro_rules | `(tactic| walk_at "pure") => `(tactic| conv => enter [1]; try simp (config := { maxSteps := 10000000 }) only [DI.kTup2, DI.kTup, DI.kLst2, DI.kLst, DI.kBin2, DI.kBin, DI.kNeg, DI.kBl, DI.kNot, DI.kCmp2, DI.kCmp, DI.kCh4, DI.kCh3, DI.kCh2, DI.kCh, DI.kAnd2, DI.kAnd, DI.kOr2, DI.kOr, DI.kNotE, DI.kIte2, DI.kIte, DI.kIx2, DI.kIx, DI.kSl3, DI.kSl2, DI.kSl, DI.kLr, DI.kIsi, DI.kCall2, DI.kCall, DI.kCons2, DI.kCons, DI.kOI, DI.kTru, DI.kKw4, DI.kKw3, DI.kKw2, DI.kKw1, DI.kKw, DI.kMt3, DI.kMt2, DI.kMt, DI.kT4, DI.kT3, DI.kT2, DI.kT1, DI.kTurn, DI.kLc2, DI.kLc, DI.kR1, DI.kR2b, DI.kR2, DI.kEn2, DI.kEn, DI.kSet2, DI.kSet, DI.kPop2, DI.kEnv, DI.kSetT3, DI.kSetT2, DI.kSetT, DI.kNx, DI.kSub4, DI.kSub3, DI.kSub2, DI.kSub, DI.kAug4, DI.kAug3, DI.kAug2, DI.kAug, DI.kRet2, DI.kRet, DI.kIf2, DI.kIf, DI.kFor2, DI.kFor, DI.kPar2, DI.kPar, DI.kSeq, DI.kIdx, DI.kApp3, DI.kApp, DI.kApp0, DI.kAp4, DI.kAp3, DI.kAp2, DI.kAp1, DI.kAp, DI.kMe4, DI.kMe3, DI.kMe2, DI.kMe, DI.kEx, DI.kZip4, DI.kZip3, DI.kZip2, DI.kZip, DI.kTest, DI.kPlc3, DI.kPlc2, DI.kMut2, DI.kMut, DI.kAppS, DI.kStS2, DI.kStS, DI.kPk, DI.newMdE, DI.ownL, DI.r_var, DI.r_cint, DI.r_cstr, DI.r_cbl, DI.r_cnon, DI.r_tup, DI.r_lst, DI.r_bin, DI.r_neg, DI.r_cmp, DI.r_chain, DI.r_and, DI.r_or, DI.r_not, DI.r_ite, DI.r_ix, DI.r_slice, DI.r_rev, DI.r_blt, DI.r_lr, DI.r_tr, DI.r_isi, DI.r_call, DI.r_nil, DI.r_cons, DI.r_onone, DI.r_osome, DI.r_cnone, DI.r_csome, DI.r_callK, DI.r_meth, DI.r_lc, DI.r_seq, DI.r_range1, DI.r_range2, DI.r_enum, DI.s_nil, DI.s_cons, DI.s_setT, DI.s_sub, DI.s_aug, DI.s_ite, DI.s_for, DI.s_par, DI.s_pass, DI.s_brk, DI.s_cont, DI.s_pop, DI.s_set_var, DI.s_ret_var, DI.s_set_cint, DI.s_ret_cint, DI.s_set_cstr, DI.s_ret_cstr, DI.s_set_cbl, DI.s_ret_cbl, DI.s_set_cnon, DI.s_ret_cnon, DI.s_set_tup, DI.s_ret_tup, DI.s_set_lst, DI.s_ret_lst, DI.s_set_bin, DI.s_ret_bin, DI.s_set_neg, DI.s_ret_neg, DI.s_set_cmp, DI.s_ret_cmp, DI.s_set_chain, DI.s_ret_chain, DI.s_set_and, DI.s_ret_and, DI.s_set_or, DI.s_ret_or, DI.s_set_not, DI.s_ret_not, DI.s_set_ite, DI.s_ret_ite, DI.s_set_ix, DI.s_ret_ix, DI.s_set_slice, DI.s_ret_slice, DI.s_set_rev, DI.s_ret_rev, DI.s_set_blt, DI.s_ret_blt, DI.s_set_lr, DI.s_ret_lr, DI.s_set_tr, DI.s_ret_tr, DI.s_set_isi, DI.s_ret_isi, DI.s_set_call, DI.s_ret_call, DI.s_set_callK, DI.s_ret_callK, DI.s_set_lc, DI.s_ret_lc, DI.s_set_upper, DI.s_ret_upper, DI.s_app, DI.s_app2, DI.s_insert, DI.s_popAt, DI.s_ex_call, DI.r_zip, DI.s_while, DI.r_plc, DI.fin_ret, DI.fin_next, DI.fin_exc, DI.frz1_n, DI.frz1_z, DI.frz1_s, DI.frz_n, DI.frz_c, DI.frzS_none, DI.frzS_fz, DI.frzS_b1, DI.frzS_b2, DI.frzS_o1t, DI.frzS_o1f, DI.frzS_o2t, DI.frzS_o2f, DI.varP_z, DI.varP_s, DI.set_z, DI.set_s, DI.atS_z, DI.atS_s, DI.ownB_e, DI.mutS_e, DI.appS_e, DI.setSubS_e, DI.e_var0, DI.e_var1, DI.e_var2, DI.e_tup, DI.e_lst, DI.e_bin, DI.e_neg, DI.e_cmp, DI.e_chain, DI.e_and, DI.e_or, DI.e_not, DI.e_ite, DI.e_ix0, DI.e_ix1, DI.e_ix2, DI.e_slice, DI.e_rev, DI.e_list, DI.e_tuple, DI.e_len, DI.e_all, DI.e_any, DI.e_abs, DI.e_int, DI.e_str, DI.e_repr, DI.e_min2, DI.e_max2, DI.e_lcm, DI.e_sorted, DI.e_lr, DI.e_tr, DI.e_isi, DI.e_call, DI.e_callK, DI.e_meth, DI.e_lc, DI.e_cint, DI.e_cstr, DI.e_cbl, DI.e_cnon, DI.e_nil, DI.e_cons, DI.e_onone, DI.e_osome, DI.e_seq, DI.e_range1, DI.e_range2, DI.e_enum, DI.e_zip, DI.wipe_n, DI.wipe_c, DI.lk_z, DI.lk_s, DI.pick_n, DI.pick_c, DI.mkS, DI.asTupP, DI.m_index, DI.newMd0, DI.movB0, DI.beqI, DI.bneI, DI.ownS, DI.binP, DI.itemsP, DI.cmpP, DI.truthP, DI.asBP, DI.itMd, DI.ixP, DI.sliceP, DI.revP, DI.tyP, DI.isiP, DI.rgP, DI.recvP, DI.augP, DI.stored, DI.litE, DI.allNew, DI.dispMd, DI.newE, DI.setEnvsP, DI.setEnvsM, DI.bindP, DI.rdMd, DI.stP, DI.seqP, DI.retMd, DI.Md.stB, DI.Md.cpB, DI.Md.own1, DI.Mth.listB, DI.flatP, DI.cf, DI.bI, DI.rgItemsP, DI.bltP, DI.bind_ret, DI.nox_ret, DI.resc_ret, DI.pif_true, DI.pif_false, DI.eqP_int, DI.eqP_bl, DI.eqP_bi, DI.eqP_non, DI.bind_stuck, DI.bind_draw, DI.nox_draw, DI.resc_draw, DI.resc_exc, DI.bind_exc, DI.popt_some, DI.popt_none, DI.plc_nil, DI.forP_nil, DI.enumP_nil, DI.enumP_cons, DI.zipP_nil, DI.zipP_cons, DI.len_q, DI.qlen_nil, DI.qlen_cons, DI.map_q, DI.qmap_nil, DI.qmap_cons, DI.app_q, DI.qapp_nil, DI.qapp_cons, DI.any_q, DI.qany_nil, DI.qany_cons, DI.all_q, DI.qall_nil, DI.qall_cons, DI.empty_q, DI.qempty_nil, DI.qempty_cons, DI.take_q, DI.drop_q, DI.rev_q, DI.blsP_nil, DI.blsP_cons, DI.intsP_nil, DI.intsP_cons, DI.at_q, DI.qat_0, DI.qat_1, DI.qat_2, DI.qat_3, DI.bls_true, DI.all_true, DI.imod_q, DI.idiv_q, DI.mut_append, DI.mut_insert, DI.qix_q, DI.ntI_q, DI.meth_upper, DI.repB_2_4, DI.repP_2, DI.repP_3, DI.fits_0, DI.fits_1, DI.fits_2, DI.fits_3, DI.fits_4, DI.fits_5, DI.fits_6, DI.fits_7, DI.fits_8, DI.fits_9, DI.fits_10, DI.fits_11, DI.fits_12, DI.fits_13, DI.fits_14, DI.fits_15, DI.fits_16, DI.fits_17, DI.fits_18, DI.fits_19, DI.fits_20, DI.fits_21, DI.fits_22, DI.fits_23, DI.fits_24, DI.fits_25, DI.fits_26, DI.fits_27, DI.fits_28, DI.fits_29, DI.fits_30, DI.fits_31, DI.fits_32, DI.fits_33, DI.fits_34, DI.fits_35, DI.fits_36, DI.fits_37, DI.fits_38, DI.fits_39, DI.fits_40, DI.fits_41, DI.fits_42, DI.fits_43, DI.fits_44, DI.fits_45, DI.fits_46, DI.fits_47, DI.fits_48, DI.fits_49, DI.fits_50, DI.fits_51, DI.fits_52, DI.fits_53, DI.fits_54, DI.fits_55, DI.fits_56, DI.fits_57, DI.fits_58, DI.fits_59, DI.fits_60, DI.fits_61, DI.fits_62, DI.fits_63, DI.fits_64, DI.nI_l, DI.ltI_t, DI.ltI_f, DI.leI_t, DI.leI_f, DI.nzI_t, DI.smI_t, DI.rgB_t, DI.rg1B_t, DI.rg2B_t, not_false_eq_true, not_true_eq_false, ne_eq, DI.ty_NoneType_bool, DI.ty_NoneType_int, DI.ty_NoneType_str, DI.ty_NoneType_tuple, DI.ty_NoneType_list, DI.ty_bool_bool, DI.ty_bool_int, DI.ty_bool_str, DI.ty_bool_tuple, DI.ty_bool_list, DI.ty_int_bool, DI.ty_int_int, DI.ty_int_str, DI.ty_int_tuple, DI.ty_int_list, DI.ty_str_bool, DI.ty_str_int, DI.ty_str_str, DI.ty_str_tuple, DI.ty_str_list, DI.ty_tuple_bool, DI.ty_tuple_int, DI.ty_tuple_str, DI.ty_tuple_tuple, DI.ty_tuple_list, DI.ty_list_bool, DI.ty_list_int, DI.ty_list_str, DI.ty_list_tuple, DI.ty_list_list, Nat.reduceAdd, Nat.reduceLT, Nat.reduceLeDiff, Nat.reduceEqDiff, Int.reduceAdd, Int.reduceSub, Int.reduceMul, Int.reduceNeg, Int.reduceEq, Int.reduceLT, Int.reduceLE, Nat.reducePow, decide_true, decide_false, Bool.not_true, Bool.not_false, Bool.and_true, Bool.true_and, Bool.and_false, Bool.false_and, Bool.or_true, Bool.true_or, Bool.or_false, Bool.false_or, Bool.cond_true, Bool.cond_false, Option.map_some, Option.map_none, id_eq, reduceCtorEq, Bool.true_beq, Bool.false_beq, Bool.not_not, LP.eq_s_backward_s_backward, LP.eq_s_backward_s_end, LP.eq_s_backward_s_x20, LP.eq_s_backward_s_start, LP.eq_s_backward_s_forward, LP.eq_s_backward_s_x, LP.eq_s_end_s_backward, LP.eq_s_end_s_end, LP.eq_s_end_s_x20, LP.eq_s_end_s_start, LP.eq_s_end_s_forward, LP.eq_s_end_s_x, LP.eq_s_x20_s_backward, LP.eq_s_x20_s_end, LP.eq_s_x20_s_x20, LP.eq_s_x20_s_start, LP.eq_s_x20_s_forward, LP.eq_s_x20_s_x, LP.eq_s_start_s_backward, LP.eq_s_start_s_end, LP.eq_s_start_s_x20, LP.eq_s_start_s_start, LP.eq_s_start_s_forward, LP.eq_s_start_s_x, LP.eq_s_forward_s_backward, LP.eq_s_forward_s_end, LP.eq_s_forward_s_x20, LP.eq_s_forward_s_start, LP.eq_s_forward_s_forward, LP.eq_s_forward_s_x, LP.eq_s_x_s_backward, LP.eq_s_x_s_end, LP.eq_s_x_s_x20, LP.eq_s_x_s_start, LP.eq_s_x_s_forward, LP.eq_s_x_s_x, LP.b_is_plain_int, LP.b_is_permutation, LP.b_law_pick, LP.b_law_same, LP.b_law_shuffle, LP.b_law_replaced, LP.b_law_mutate, LP.b_law_integer, LP.b_law_is_permutation, LP.b_is_number_below, LP.b_is_fitting_passage, LP.b_is_house, LP.b_law_permutation, LP.b_law_passage, LP.b_law_house, LP.b_law_is_passage, LP.b_law_is_house, LP.b_inverse, LP.b_crossing, LP.b_end_room, LP.b_is_slide, LP.b_law_listed, LP.b_law_inverse, LP.b_law_ends, LP.b_law_is_slide, LP.b_law_slides])
namespace DI
open PySem L2
def isI : PV → Bool
  | .int _ => true
  | _ => false
def hasI (xs : List PV) (i : Int) : Bool := xs.any fun x => match x with
  | .int j => j == i
  | _ => false
/-- a permutation of 0 .. n - 1 -/
def isPm (n : Int) : PV → Bool
  | .tup xs => decide (1 ≤ n) && (decide ((xs.length : Int) = n) && (xs.all isI && (List.range n.toNat).all fun i => hasI xs i))
  | _ => false
def qisI : PV → Bool := isI
theorem bls_map {α : Type} (p : α → Bool) : ∀ xs : List α, blsP (qmap (fun x => PV.bl (p x)) xs) = some (qmap p xs)
  | [] => rfl
  | x :: xs => by
    show (blsP (qmap (fun x => PV.bl (p x)) xs)).map (p x :: ·) = _
    rw [bls_map p xs]
    rfl
theorem all_map {α : Type} (p : α → Bool) (xs : List α) : qall (qmap p xs) id = xs.all p := by
  show (xs.map p).all id = _
  rw [List.all_map]
  rfl
theorem rg1B_ok {n : Int} (h0 : 0 ≤ n) (h : n < 2 ^ 62) : rg1B n = true := by
  rw [rg1B_def]
  rw [decide_eq_true (show -(2 ^ 62) ≤ n by omega), decide_eq_true h]
  rfl
theorem rg1P_len {n : Int} : (rg1P n).length = n.toNat := by
  unfold rg1P
  rw [List.length_map, List.length_range]
def hasV (xs : List PV) : PV → Bool
  | .int i => hasI xs i
  | _ => false
theorem isI_mem {xs : List PV} (h : xs.all isI = true) {x : PV} (hx : x ∈ xs) : ∃ i, x = .int i := by
  have := List.all_eq_true.mp h x hx
  cases x with
  | int i => exact ⟨i, rfl⟩
  | _ => cases this
theorem all_flat {xs : List PV} (h : xs.all isI = true) : qall xs flatP = true := by
  refine List.all_eq_true.mpr fun x hx => ?_
  obtain ⟨i, rfl⟩ := isI_mem h hx
  rfl
theorem in_has {xs : List PV} (h : xs.all isI = true) (i : Int) : inP (.int i) xs = hasI xs i := by
  unfold inP hasI
  induction xs with
  | nil => rfl
  | cons x xs ih =>
    obtain ⟨h1, h2⟩ := Bool.and_eq_true_iff.mp (show (isI x && xs.all isI) = true from h)
    rw [List.any_cons, List.any_cons, ih h2]
    cases x with
    | int j => rfl
    | _ => cases h1
theorem inAny_ints {xs : List PV} (h : xs.all isI = true) {i : Int} {y : PV} : inAnyP (.int i) y xs = some (hasI xs i) := by
  unfold inAnyP
  rw [show xs.all flatP = true from all_flat h]
  show some (inP (.int i) xs) = _
  rw [in_has h]
theorem isPm_tup {n : Int} {xs : List PV} (h1 : 1 ≤ n) (hl : (xs.length : Int) = n) (ha : xs.all isI = true) : qall (rg1P n) (hasV xs) = isPm n (.tup xs) := by
  show _ = (decide (1 ≤ n) && (decide ((xs.length : Int) = n) && (xs.all isI && _)))
  rw [decide_eq_true h1, decide_eq_true hl, ha, Bool.true_and, Bool.true_and, Bool.true_and]
  show ((List.range n.toNat).map fun (i : Nat) => PV.int (i : Int)).all (hasV xs) = _
  rw [List.all_map]
  rfl
theorem pv_ints {xs : List PV} (h : xs.all isI = true) : ∃ ns : List Int, xs = ns.map PV.int := by
  induction xs with
  | nil => exact ⟨[], rfl⟩
  | cons x xs ih =>
    obtain ⟨h1, h2⟩ := Bool.and_eq_true_iff.mp (show (isI x && xs.all isI) = true from h)
    obtain ⟨ns, rfl⟩ := ih h2
    cases x with
    | int j => exact ⟨j :: ns, rfl⟩
    | _ => cases h1
theorem ints_map : ∀ (ns : List Int), intsP (ns.map PV.int) = some ns
  | [] => rfl
  | n :: ns => by
    show (intsP (ns.map PV.int)).map (n :: ·) = _
    rw [ints_map ns]
    rfl
theorem rgB_ok {n : Int} (h0 : -100000 < n) (h : n ≤ 100000) : rgB n = true := by
  unfold rgB
  rw [decide_eq_true h0, decide_eq_true h]
  rfl
/-- without a double, inside, and no fewer: the same items -/
theorem perm_of_sub {α : Type} [BEq α] [LawfulBEq α] : ∀ {R ns : List α}, R.Nodup → (∀ a ∈ R, a ∈ ns) → ns.length ≤ R.length → R.Perm ns
  | [], ns, _, _, h => by
    have : ns = [] := List.length_eq_zero_iff.mp (Nat.le_zero.mp h)
    rw [this]
  | a :: R, ns, hn, hs, h => by
    have ha := hs a List.mem_cons_self
    obtain ⟨h1, h2⟩ := List.nodup_cons.mp hn
    refine (List.Perm.cons a (perm_of_sub h2 (fun b hb => ?_) ?_)).trans (List.perm_cons_erase ha).symm
    · exact (List.mem_erase_of_ne (fun e => by subst e; exact h1 hb)).mpr (hs b (List.mem_cons_of_mem _ hb))
    · rw [List.length_erase_of_mem ha]
      have : ns.length ≤ R.length + 1 := h
      omega
def rgI (m : Nat) : List Int := (List.range m).map fun (i : Nat) => (i : Int)
theorem sort_rg {ns : List Int} {m : Nat} (hl : ns.length = m) : sortI ns = rgI m ↔ ∀ i < m, (i : Int) ∈ ns := by
  constructor
  · intro e i hi
    refine (sortI_perm ns).mem_iff.mp ?_
    rw [e]
    exact List.mem_map.mpr ⟨i, List.mem_range.mpr hi, rfl⟩
  · intro h
    have hR : (rgI m).Pairwise (· < ·) := List.pairwise_map.mpr (List.pairwise_lt_range.imp fun h => by omega)
    have hp : (rgI m).Perm ns := perm_of_sub (hR.imp fun h => by omega) (fun a ha => by
      obtain ⟨i, hi, rfl⟩ := List.mem_map.mp ha
      exact h i (List.mem_range.mp hi)) (by unfold rgI; rw [List.length_map, List.length_range]; omega)
    exact (sorted_one (hp.trans (sortI_perm ns).symm) (hR.imp fun h => by omega) (sortI_sorted ns)).symm
theorem eqvAll_ints : ∀ as bs : List Int, PyData.eqvAll (toPys (as.map PV.int)) (toPys (bs.map PV.int)) = decide (as = bs)
  | [], [] => rfl
  | [], _ :: _ => rfl
  | _ :: _, [] => rfl
  | a :: as, b :: bs => by
    show ((a == b) && PyData.eqvAll (toPys (as.map PV.int)) (toPys (bs.map PV.int))) = _
    rw [eqvAll_ints as bs, Bool.eq_iff_iff]
    simp
theorem deps_ints : ∀ ns : List Int, deps (ns.map PV.int) = 0
  | [] => rfl
  | n :: ns => by
    show max 0 (deps (ns.map PV.int)) = 0
    rw [deps_ints ns]
    rfl
theorem eq_ints {as bs : List Int} (ha : okVs (as.map PV.int) = true) (hb : okVs (bs.map PV.int) = true) : eqP (.lst (as.map PV.int)) (.lst (bs.map PV.int)) = some (decide (as = bs)) := by
  rw [eq_ok (v := .lst (as.map PV.int)) (u := .lst (bs.map PV.int)) ha (by show deps (as.map PV.int) + 1 < 24; rw [deps_ints]; decide) hb (by show deps (bs.map PV.int) + 1 < 24; rw [deps_ints]; decide), ← eqvAll_ints]
  rfl
theorem rg1P_I (n : Int) : rg1P n = (rgI n.toNat).map PV.int := by
  unfold rg1P rgI
  rw [List.map_map]
  rfl
theorem ok_rgI {m : Nat} (h : m ≤ 1000) : okVs ((rgI m).map PV.int) = true := by
  refine okVs_iff.mpr fun x hx => ?_
  obtain ⟨i, hi, rfl⟩ := List.mem_map.mp hx
  obtain ⟨j, hj, rfl⟩ := List.mem_map.mp hi
  have := List.mem_range.mp hj
  exact decide_eq_true (show (j : Int).natAbs < 10 ^ 40 by omega)
theorem eq_srt {ns : List Int} {n : Int} (ho : okVs (ns.map PV.int) = true) (h : n ≤ 1000) : eqP (.lst (srtP ns)) (.lst (rg1P n)) = some (decide (sortI ns = rgI n.toNat)) := by
  rw [rg1P_I]
  refine eq_ints (okVs_iff.mpr fun x hx => ?_) (ok_rgI (by omega))
  obtain ⟨i, hi, rfl⟩ := List.mem_map.mp hx
  exact okVs_iff.mp ho _ (List.mem_map.mpr ⟨i, (sortI_perm ns).mem_iff.mp hi, rfl⟩)
theorem hasI_map {ns : List Int} {i : Int} : hasI (ns.map PV.int) i = true ↔ i ∈ ns := by
  unfold hasI
  rw [List.any_map, List.any_eq_true]
  constructor
  · rintro ⟨j, hj, e⟩
    have : j = i := beq_iff_eq.mp e
    exact this ▸ hj
  · exact fun h => ⟨i, h, beq_self_eq_true i⟩
theorem sort_pm {ns : List Int} {n : Int} (h1 : 1 ≤ n) (hl : (ns.length : Int) = n) : decide (sortI ns = rgI n.toNat) = qall (rg1P n) (hasV (ns.map PV.int)) := by
  rw [rg1P_I, Bool.eq_iff_iff, decide_eq_true_iff, sort_rg (m := n.toNat) (by omega)]
  show _ ↔ ((rgI n.toNat).map PV.int).all (hasV (ns.map PV.int)) = true
  rw [List.all_map, List.all_eq_true]
  constructor
  · intro h x hx
    obtain ⟨i, hi, rfl⟩ := List.mem_map.mp hx
    exact hasI_map.mpr (h i (List.mem_range.mp hi))
  · intro h i hi
    exact hasI_map.mp (h i (List.mem_map.mpr ⟨i, List.mem_range.mpr hi, rfl⟩))
end DI
namespace LP
open PySem L2 DI
section
variable {F : Tab} {k : Nat}
theorem run_plain [h : HasFn F n_is_plain_int f_is_plain_int] (a : PV) : prun F Hn0 (k + 1) n_is_plain_int [a] = (pexs (cf F k) b_is_plain_int [some (.fz, a)]).nox.bind fin := run_code0 h rfl rfl rfl
theorem run_integer [h : HasFn F n__law_integer f_law_integer] (a : PV) : prun F Hn0 (k + 1) n__law_integer [a] = (pexs (cf F k) b_law_integer [some (.fz, a)]).nox.bind fin := run_code0 h rfl rfl rfl
theorem plain_eq [h : HasFn F n_is_plain_int f_is_plain_int] (hk : 1 ≤ k) {v : PV} (ho : okV v = true) : prun F Hn0 k n_is_plain_int [v] = .ret (.fz, .bl (isI v)) := by
  obtain ⟨k, rfl, _⟩ := up hk
  rw [run_plain]
  cases v <;> first | (cases ho; done) | ((walk_at "pure") <;> rfl)
theorem integer_eq [h : HasFn F n__law_integer f_law_integer] (hk : 1 ≤ k) {v : PV} (ho : okV v = true) : prun F Hn0 k n__law_integer [v] = .ret (.fz, .bl (isI v)) := by
  obtain ⟨k, rfl, _⟩ := up hk
  rw [run_integer]
  cases v <;> first | (cases ho; done) | ((walk_at "pure") <;> rfl)
theorem run_law_perm [h : HasFn F n__law_is_permutation f_law_is_permutation] (a b : PV) : prun F Hn0 (k + 1) n__law_is_permutation [a, b] = (pexs (cf F k) b_law_is_permutation [some (.fz, a), some (.fz, b), none]).nox.bind fin := run_code0 h rfl rfl rfl
theorem run_perm [h : HasFn F n_is_permutation f_is_permutation] (a b : PV) : prun F Hn0 (k + 1) n_is_permutation [a, b] = (pexs (cf F k) b_is_permutation [some (.fz, a), some (.fz, b), none]).nox.bind fin := run_code0 h rfl rfl rfl
theorem law_perm_eq [HasFn F n__law_integer f_law_integer] [h : HasFn F n__law_is_permutation f_law_is_permutation] (hk : 2 ≤ k) {n : Int} (h1 : 1 ≤ n) (h2 : n ≤ 1000) {v : PV} (ho : okV v = true) (hv : costV v ≤ 100000) :
    prun F Hn0 k n__law_is_permutation [.int n, v] = .ret (.fz, .bl (isPm n v)) := by
  obtain ⟨k, rfl, hk1⟩ := up hk
  rw [run_law_perm]
  cases v with
  | tup xs =>
    walk_at "pure"
    have hll : xs.length ≤ 100000 := by
      have := len_cost (xs := xs)
      have : costVs xs + 3 ≤ 100000 := hv
      omega
    by_cases hl : (xs.length : Int) = n
    · rw [show decide (nI (qlen xs) = n) = true from decide_eq_true hl]
      walk_at "pure"
      rw [fits_le' (n := qlen xs) hll]
      walk_at "pure"
      rw [plc_q (fun x => .bl (isI x)) (by
        intro x hx
        walk_at "pure"
        rw [integer_eq hk1 (okVs_iff.mp ho x hx)]
        (walk_at "pure") <;> rfl)]
      walk_at "pure"
      rw [bls_map]
      walk_at "pure"
      rw [all_map]
      by_cases ha : xs.all isI = true
      · rw [ha]
        walk_at "pure"
        rw [rg1B_ok (by omega) (by omega)]
        walk_at "pure"
        rw [fits_le' (n := qlen (rg1P n)) (by show (rg1P n).length ≤ _; rw [rg1P_len]; omega)]
        walk_at "pure"
        rw [plc_q (fun y => .bl (hasV xs y)) (by
          intro y hy
          obtain ⟨i, _, rfl⟩ := List.mem_map.mp hy
          walk_at "pure"
          rw [inAny_ints ha]
          (walk_at "pure") <;> rfl)]
        walk_at "pure"
        rw [bls_map]
        walk_at "pure"
        rw [all_map]
        walk_at "pure"
        rw [isPm_tup h1 hl ha]
      · rw [Bool.not_eq_true] at ha
        rw [ha]
        walk_at "pure"
        rw [show isPm n (.tup xs) = false by show (decide (1 ≤ n) && (decide ((xs.length : Int) = n) && (xs.all isI && _))) = false; rw [ha, Bool.false_and, Bool.and_false, Bool.and_false]]
    · rw [show decide (nI (qlen xs) = n) = false from decide_eq_false hl]
      walk_at "pure"
      rw [show isPm n (.tup xs) = false by show (decide (1 ≤ n) && (decide ((xs.length : Int) = n) && _)) = false; rw [decide_eq_false hl, Bool.false_and, Bool.and_false]]
  | non => (walk_at "pure") <;> rfl
  | bl _ => (walk_at "pure") <;> rfl
  | int _ => (walk_at "pure") <;> rfl
  | str _ => (walk_at "pure") <;> rfl
  | lst _ => (walk_at "pure") <;> rfl
  | scr _ => cases ho
  | rng => cases ho
  | pr _ _ => cases ho
theorem perm_eq [HasFn F n_is_plain_int f_is_plain_int] [h : HasFn F n_is_permutation f_is_permutation] (hk : 2 ≤ k) {n : Int} (h2 : n ≤ 1000) {v : PV} (ho : okV v = true) (hv : costV v ≤ 100000) :
    prun F Hn0 k n_is_permutation [.int n, v] = .ret (.fz, .bl (isPm n v)) := by
  obtain ⟨k, rfl, hk1⟩ := up hk
  rw [run_perm]
  cases v with
  | tup xs =>
    walk_at "pure"
    have hll : xs.length ≤ 100000 := by
      have := len_cost (xs := xs)
      have : costVs xs + 3 ≤ 100000 := hv
      omega
    by_cases h1 : n < 1
    · rw [show ltI n 1 = true from decide_eq_true h1]
      walk_at "pure"
      rw [show isPm n (.tup xs) = false by show (decide (1 ≤ n) && _) = false; rw [decide_eq_false (by omega), Bool.false_and]]
    rw [show ltI n 1 = false from decide_eq_false h1]
    walk_at "pure"
    by_cases hl : (xs.length : Int) = n
    · rw [show decide (nI (qlen xs) = n) = true from decide_eq_true hl]
      walk_at "pure"
      rw [fits_le' (n := qlen xs) hll]
      walk_at "pure"
      rw [plc_q (fun x => .bl (isI x)) (by
        intro x hx
        walk_at "pure"
        rw [plain_eq hk1 (okVs_iff.mp ho x hx)]
        (walk_at "pure") <;> rfl)]
      walk_at "pure"
      rw [bls_map]
      walk_at "pure"
      rw [all_map]
      by_cases ha : xs.all isI = true
      · rw [ha]
        walk_at "pure"
        obtain ⟨ns, rfl⟩ := pv_ints ha
        rw [ints_map]
        walk_at "pure"
        rw [fits_le' (n := qlen ns) (by rw [List.length_map] at hll; exact hll)]
        walk_at "pure"
        rw [rgB_ok (by omega) (by omega)]
        walk_at "pure"
        have e := eq_srt ho h2
        rw [sort_pm (by omega) (by rw [List.length_map] at hl; omega), isPm_tup (by omega) hl ha] at e
        generalize isPm n _ = b at e ⊢
        rw [e]
        walk_at "pure"
      · rw [Bool.not_eq_true] at ha
        rw [ha]
        walk_at "pure"
        rw [show isPm n (.tup xs) = false by show (decide (1 ≤ n) && (decide ((xs.length : Int) = n) && (xs.all isI && _))) = false; rw [ha, Bool.false_and, Bool.and_false, Bool.and_false]]
    · rw [show decide (nI (qlen xs) = n) = false from decide_eq_false hl]
      walk_at "pure"
      rw [show isPm n (.tup xs) = false by show (decide (1 ≤ n) && (decide ((xs.length : Int) = n) && _)) = false; rw [decide_eq_false hl, Bool.false_and, Bool.and_false]]
  | non => (walk_at "pure") <;> rfl
  | bl _ => (walk_at "pure") <;> rfl
  | int _ => (walk_at "pure") <;> rfl
  | str _ => (walk_at "pure") <;> rfl
  | lst _ => (walk_at "pure") <;> rfl
  | scr _ => cases ho
  | rng => cases ho
  | pr _ _ => cases ho
end
end LP
end
section
set_option maxHeartbeats 4000000
/-! # a repr's signs are signs -/
namespace DI
open PySem L2
def Cp (s : Str) : Prop := ∀ c ∈ s.cps.toList, c < 0x110000
theorem ch_lt (c : Char) : c.toNat < 0x110000 := by
  rcases c.valid with h | ⟨_, h⟩
  · exact Nat.lt_trans h (by decide)
  · exact h
theorem cp_of (s : String) : Cp (Str.ofString s) := by
  rw [Str.ofString_eq_toList]
  intro c hc
  obtain ⟨d, _, rfl⟩ := List.mem_map.mp (show c ∈ s.toList.map Char.toNat from hc)
  exact ch_lt d
theorem cp_app {a b : Str} (ha : Cp a) (hb : Cp b) : Cp (a ++ b) := by
  intro c hc
  have e : (a ++ b).cps = a.cps ++ b.cps := rfl
  rw [e, Array.toList_append] at hc
  exact (List.mem_append.mp hc).elim (ha c) (hb c)
theorem cp_char {q c : Nat} (hq : q < 0x110000) (hc : c < 0x110000) : ∀ d ∈ Builtin.Str.reprChar q c, d < 0x110000 := by
  have hx : ∀ (w : Nat), ∀ d ∈ (List.replicate (w - ((Nat.toDigits 16 c).map Char.toNat).length) 48 ++ (Nat.toDigits 16 c).map Char.toNat), d < 0x110000 := fun w d hd => by
    rcases List.mem_append.mp hd with hd | hd
    · rw [(List.mem_replicate.mp hd).2]
      decide
    · obtain ⟨e, _, rfl⟩ := List.mem_map.mp hd
      exact ch_lt e
  have two : ∀ a b : Nat, a < 0x110000 → b < 0x110000 → ∀ d ∈ [a, b], d < 0x110000 := fun a b ha hb d hd => by
    rcases List.mem_cons.mp hd with rfl | hd
    · exact ha
    · exact List.mem_singleton.mp hd ▸ hb
  have pre : ∀ (a b w : Nat), a < 0x110000 → b < 0x110000 → ∀ d ∈ [a, b] ++ (List.replicate (w - ((Nat.toDigits 16 c).map Char.toNat).length) 48 ++ (Nat.toDigits 16 c).map Char.toNat), d < 0x110000 := fun a b w ha hb d hd =>
    (List.mem_append.mp hd).elim (two a b ha hb d) (hx w d)
  unfold Builtin.Str.reprChar
  dsimp only
  repeat' split
  · exact two _ _ (by decide) hc
  · exact two _ _ (by decide) (by decide)
  · exact two _ _ (by decide) (by decide)
  · exact two _ _ (by decide) (by decide)
  · exact fun d hd => List.mem_singleton.mp hd ▸ hc
  · exact pre _ _ _ (by decide) (by decide)
  · exact pre _ _ _ (by decide) (by decide)
  · exact pre _ _ _ (by decide) (by decide)
theorem cp_fold {q : Nat} (hq : q < 0x110000) : ∀ (l : List Nat) (acc : Array Nat), (∀ c ∈ l, c < 0x110000) → (∀ c ∈ acc.toList, c < 0x110000) → ∀ c ∈ (l.foldl (fun out c => out ++ (Builtin.Str.reprChar q c).toArray) acc).toList, c < 0x110000
  | [], acc, _, h => h
  | a :: l, acc, hl, h => by
    refine cp_fold hq l _ (fun c hc => hl c (List.mem_cons_of_mem _ hc)) fun c hc => ?_
    rw [Array.toList_append] at hc
    exact (List.mem_append.mp hc).elim (h c) (cp_char hq (hl a List.mem_cons_self) c)
theorem cp_repr {x : Str} (h : Cp x) : Cp (reprText x) := by
  have hq : reprQuote x < 0x110000 := by unfold reprQuote; split <;> decide
  intro c hc
  have e : (reprText x).cps = (x.cps.foldl (fun out c => out ++ (Builtin.Str.reprChar (reprQuote x) c).toArray) #[reprQuote x]).push (reprQuote x) := rfl
  rw [e, Array.toList_push, ← Array.foldl_toList] at hc
  rcases List.mem_append.mp hc with hc | hc
  · exact cp_fold hq _ _ h (fun c hc => List.mem_singleton.mp hc ▸ hq) c hc
  · exact List.mem_singleton.mp hc ▸ hq
theorem cp_from : ∀ (ts : List Str) (k : Nat) (acc : Str), Cp acc → (∀ t ∈ ts, Cp t) → Cp (textFrom k acc ts)
  | [], k, acc, h, _ => h
  | t :: ts, k, acc, h, ht => cp_from ts (k + 1) _ (cp_app (cp_app h (cp_of _)) (ht t List.mem_cons_self)) fun u hu => ht u (List.mem_cons_of_mem _ hu)
theorem cp_join : ∀ (ts : List Str), (∀ t ∈ ts, Cp t) → Cp (Str.join ", " ts)
  | [], _ => fun c hc => by cases hc
  | [x], h => h x List.mem_cons_self
  | x :: y :: ts, h => cp_app (cp_app (h x List.mem_cons_self) (cp_of _)) (cp_join (y :: ts) fun u hu => h u (List.mem_cons_of_mem _ hu))
theorem cp_ok {x : Str} (h : strOkB x = true) : Cp x := by
  have h : x.cps.all (· < 0x110000) = true := h
  rw [← Array.all_toList] at h
  exact fun c hc => of_decide_eq_true (List.all_eq_true.mp h c hc)
theorem ok_cp {x : Str} (h : Cp x) : strOkB x = true := by
  show x.cps.all (· < 0x110000) = true
  rw [← Array.all_toList]
  exact List.all_eq_true.mpr fun c hc => decide_eq_true (h c hc)
mutual
theorem cp_shown : ∀ v : PV, okV v = true → Cp (toPy v).shown
  | .non, _ => by simp only [toPy, PyData.shown]; exact cp_of _
  | .bl b, _ => by
    simp only [toPy, PyData.shown]
    cases b
    · exact cp_of _
    · exact cp_of _
  | .int i, h => by simp only [toPy, PyData.shown]; exact cp_of _
  | .str x, h => by simp only [toPy, PyData.shown]; exact cp_repr (cp_ok h)
  | .tup xs, h => by
    simp only [toPy, PyData.shown]
    unfold tupleText
    exact cp_app (cp_app (cp_of _) (cp_join _ (cp_showns xs h))) (cp_of _)
  | .lst xs, h => by
    simp only [toPy, PyData.shown]
    unfold listText
    exact cp_app (cp_from _ _ _ (cp_of _) (cp_showns xs h)) (cp_of _)
  | .scr _, h => by cases h
  | .rng, h => by cases h
  | .pr _ _, h => by cases h
theorem cp_showns : ∀ vs : List PV, okVs vs = true → ∀ t ∈ PyData.shownAll (toPys vs), Cp t
  | [], _, t, ht => by
    simp only [toPys, PyData.shownAll] at ht
    cases ht
  | x :: xs, h, t, ht => by
    obtain ⟨h1, h2⟩ := Bool.and_eq_true_iff.mp (show (okV x && okVs xs) = true from h)
    simp only [toPys, PyData.shownAll] at ht
    rcases List.mem_cons.mp ht with rfl | ht
    · exact cp_shown x h1
    · exact cp_showns xs h2 t ht
end
/-- repr answers one and the same text -/
theorem repr_same {v : PV} (h : okV v = true) (hd : dep v < 24) (hc : costV v ≤ 100000) : ∃ x, reprP v = .ret (.fz, .str x) ∧ eqP (.str x) (.str x) = some true :=
  ⟨_, repr_ok h hd hc, eq_self (v := .str _) (ok_cp (cp_shown v h)) (show 0 < 24 by decide)⟩
end DI
end
section
set_option maxHeartbeats 4000000
local macro_rules | `(tactic| walk_at "pure") => `(tactic| conv => enter [1]; try simp (config := { maxSteps := 10000000 }) only [DI.kTup2, DI.kTup, DI.kLst2, DI.kLst, DI.kBin2, DI.kBin, DI.kNeg, DI.kBl, DI.kNot, DI.kCmp2, DI.kCmp, DI.kCh4, DI.kCh3, DI.kCh2, DI.kCh, DI.kAnd2, DI.kAnd, DI.kOr2, DI.kOr, DI.kNotE, DI.kIte2, DI.kIte, DI.kIx2, DI.kIx, DI.kSl3, DI.kSl2, DI.kSl, DI.kLr, DI.kIsi, DI.kCall2, DI.kCall, DI.kCons2, DI.kCons, DI.kOI, DI.kTru, DI.kKw4, DI.kKw3, DI.kKw2, DI.kKw1, DI.kKw, DI.kMt3, DI.kMt2, DI.kMt, DI.kT4, DI.kT3, DI.kT2, DI.kT1, DI.kTurn, DI.kLc2, DI.kLc, DI.kR1, DI.kR2b, DI.kR2, DI.kEn2, DI.kEn, DI.kSet2, DI.kSet, DI.kPop2, DI.kEnv, DI.kSetT3, DI.kSetT2, DI.kSetT, DI.kNx, DI.kSub4, DI.kSub3, DI.kSub2, DI.kSub, DI.kAug4, DI.kAug3, DI.kAug2, DI.kAug, DI.kRet2, DI.kRet, DI.kIf2, DI.kIf, DI.kFor2, DI.kFor, DI.kPar2, DI.kPar, DI.kSeq, DI.kIdx, DI.kApp3, DI.kApp, DI.kApp0, DI.kAp4, DI.kAp3, DI.kAp2, DI.kAp1, DI.kAp, DI.kMe4, DI.kMe3, DI.kMe2, DI.kMe, DI.kEx, DI.kZip4, DI.kZip3, DI.kZip2, DI.kZip, DI.kTest, DI.kPlc3, DI.kPlc2, DI.kMut2, DI.kMut, DI.kAppS, DI.kStS2, DI.kStS, DI.kPk, DI.newMdE, DI.ownL, DI.r_var, DI.r_cint, DI.r_cstr, DI.r_cbl, DI.r_cnon, DI.r_tup, DI.r_lst, DI.r_bin, DI.r_neg, DI.r_cmp, DI.r_chain, DI.r_and, DI.r_or, DI.r_not, DI.r_ite, DI.r_ix, DI.r_slice, DI.r_rev, DI.r_blt, DI.r_lr, DI.r_tr, DI.r_isi, DI.r_call, DI.r_nil, DI.r_cons, DI.r_onone, DI.r_osome, DI.r_cnone, DI.r_csome, DI.r_callK, DI.r_meth, DI.r_lc, DI.r_seq, DI.r_range1, DI.r_range2, DI.r_enum, DI.s_nil, DI.s_cons, DI.s_setT, DI.s_sub, DI.s_aug, DI.s_ite, DI.s_for, DI.s_par, DI.s_pass, DI.s_brk, DI.s_cont, DI.s_pop, DI.s_set_var, DI.s_ret_var, DI.s_set_cint, DI.s_ret_cint, DI.s_set_cstr, DI.s_ret_cstr, DI.s_set_cbl, DI.s_ret_cbl, DI.s_set_cnon, DI.s_ret_cnon, DI.s_set_tup, DI.s_ret_tup, DI.s_set_lst, DI.s_ret_lst, DI.s_set_bin, DI.s_ret_bin, DI.s_set_neg, DI.s_ret_neg, DI.s_set_cmp, DI.s_ret_cmp, DI.s_set_chain, DI.s_ret_chain, DI.s_set_and, DI.s_ret_and, DI.s_set_or, DI.s_ret_or, DI.s_set_not, DI.s_ret_not, DI.s_set_ite, DI.s_ret_ite, DI.s_set_ix, DI.s_ret_ix, DI.s_set_slice, DI.s_ret_slice, DI.s_set_rev, DI.s_ret_rev, DI.s_set_blt, DI.s_ret_blt, DI.s_set_lr, DI.s_ret_lr, DI.s_set_tr, DI.s_ret_tr, DI.s_set_isi, DI.s_ret_isi, DI.s_set_call, DI.s_ret_call, DI.s_set_callK, DI.s_ret_callK, DI.s_set_lc, DI.s_ret_lc, DI.s_set_upper, DI.s_ret_upper, DI.s_app, DI.s_app2, DI.s_insert, DI.s_popAt, DI.s_ex_call, DI.r_zip, DI.s_while, DI.r_plc, DI.fin_ret, DI.fin_next, DI.fin_exc, DI.frz1_n, DI.frz1_z, DI.frz1_s, DI.frz_n, DI.frz_c, DI.frzS_none, DI.frzS_fz, DI.frzS_b1, DI.frzS_b2, DI.frzS_o1t, DI.frzS_o1f, DI.frzS_o2t, DI.frzS_o2f, DI.varP_z, DI.varP_s, DI.set_z, DI.set_s, DI.atS_z, DI.atS_s, DI.ownB_e, DI.mutS_e, DI.appS_e, DI.setSubS_e, DI.e_var0, DI.e_var1, DI.e_var2, DI.e_tup, DI.e_lst, DI.e_bin, DI.e_neg, DI.e_cmp, DI.e_chain, DI.e_and, DI.e_or, DI.e_not, DI.e_ite, DI.e_ix0, DI.e_ix1, DI.e_ix2, DI.e_slice, DI.e_rev, DI.e_list, DI.e_tuple, DI.e_len, DI.e_all, DI.e_any, DI.e_abs, DI.e_int, DI.e_str, DI.e_repr, DI.e_min2, DI.e_max2, DI.e_lcm, DI.e_sorted, DI.e_lr, DI.e_tr, DI.e_isi, DI.e_call, DI.e_callK, DI.e_meth, DI.e_lc, DI.e_cint, DI.e_cstr, DI.e_cbl, DI.e_cnon, DI.e_nil, DI.e_cons, DI.e_onone, DI.e_osome, DI.e_seq, DI.e_range1, DI.e_range2, DI.e_enum, DI.e_zip, DI.wipe_n, DI.wipe_c, DI.lk_z, DI.lk_s, DI.pick_n, DI.pick_c, DI.mkS, DI.asTupP, DI.m_index, DI.newMd0, DI.movB0, DI.beqI, DI.bneI, DI.ownS, DI.binP, DI.itemsP, DI.cmpP, DI.truthP, DI.asBP, DI.itMd, DI.ixP, DI.sliceP, DI.revP, DI.tyP, DI.isiP, DI.rgP, DI.recvP, DI.augP, DI.stored, DI.litE, DI.allNew, DI.dispMd, DI.newE, DI.setEnvsP, DI.setEnvsM, DI.bindP, DI.rdMd, DI.stP, DI.seqP, DI.retMd, DI.Md.stB, DI.Md.cpB, DI.Md.own1, DI.Mth.listB, DI.flatP, DI.cf, DI.bI, DI.rgItemsP, DI.bltP, DI.bind_ret, DI.nox_ret, DI.resc_ret, DI.pif_true, DI.pif_false, DI.eqP_int, DI.eqP_bl, DI.eqP_bi, DI.eqP_non, DI.bind_stuck, DI.bind_draw, DI.nox_draw, DI.resc_draw, DI.resc_exc, DI.bind_exc, DI.popt_some, DI.popt_none, DI.plc_nil, DI.forP_nil, DI.enumP_nil, DI.enumP_cons, DI.zipP_nil, DI.zipP_cons, DI.len_q, DI.qlen_nil, DI.qlen_cons, DI.map_q, DI.qmap_nil, DI.qmap_cons, DI.app_q, DI.qapp_nil, DI.qapp_cons, DI.any_q, DI.qany_nil, DI.qany_cons, DI.all_q, DI.qall_nil, DI.qall_cons, DI.empty_q, DI.qempty_nil, DI.qempty_cons, DI.take_q, DI.drop_q, DI.rev_q, DI.blsP_nil, DI.blsP_cons, DI.intsP_nil, DI.intsP_cons, DI.at_q, DI.qat_0, DI.qat_1, DI.qat_2, DI.qat_3, DI.bls_true, DI.all_true, DI.imod_q, DI.idiv_q, DI.mut_append, DI.mut_insert, DI.qix_q, DI.ntI_q, DI.meth_upper, DI.repB_2_4, DI.repP_2, DI.repP_3, DI.fits_0, DI.fits_1, DI.fits_2, DI.fits_3, DI.fits_4, DI.fits_5, DI.fits_6, DI.fits_7, DI.fits_8, DI.fits_9, DI.fits_10, DI.fits_11, DI.fits_12, DI.fits_13, DI.fits_14, DI.fits_15, DI.fits_16, DI.fits_17, DI.fits_18, DI.fits_19, DI.fits_20, DI.fits_21, DI.fits_22, DI.fits_23, DI.fits_24, DI.fits_25, DI.fits_26, DI.fits_27, DI.fits_28, DI.fits_29, DI.fits_30, DI.fits_31, DI.fits_32, DI.fits_33, DI.fits_34, DI.fits_35, DI.fits_36, DI.fits_37, DI.fits_38, DI.fits_39, DI.fits_40, DI.fits_41, DI.fits_42, DI.fits_43, DI.fits_44, DI.fits_45, DI.fits_46, DI.fits_47, DI.fits_48, DI.fits_49, DI.fits_50, DI.fits_51, DI.fits_52, DI.fits_53, DI.fits_54, DI.fits_55, DI.fits_56, DI.fits_57, DI.fits_58, DI.fits_59, DI.fits_60, DI.fits_61, DI.fits_62, DI.fits_63, DI.fits_64, DI.nI_l, DI.ltI_t, DI.ltI_f, DI.leI_t, DI.leI_f, DI.nzI_t, DI.smI_t, DI.rgB_t, DI.rg1B_t, DI.rg2B_t, not_false_eq_true, not_true_eq_false, ne_eq, DI.ty_NoneType_bool, DI.ty_NoneType_int, DI.ty_NoneType_str, DI.ty_NoneType_tuple, DI.ty_NoneType_list, DI.ty_bool_bool, DI.ty_bool_int, DI.ty_bool_str, DI.ty_bool_tuple, DI.ty_bool_list, DI.ty_int_bool, DI.ty_int_int, DI.ty_int_str, DI.ty_int_tuple, DI.ty_int_list, DI.ty_str_bool, DI.ty_str_int, DI.ty_str_str, DI.ty_str_tuple, DI.ty_str_list, DI.ty_tuple_bool, DI.ty_tuple_int, DI.ty_tuple_str, DI.ty_tuple_tuple, DI.ty_tuple_list, DI.ty_list_bool, DI.ty_list_int, DI.ty_list_str, DI.ty_list_tuple, DI.ty_list_list, Nat.reduceAdd, Nat.reduceLT, Nat.reduceLeDiff, Nat.reduceEqDiff, Int.reduceAdd, Int.reduceSub, Int.reduceMul, Int.reduceNeg, Int.reduceEq, Int.reduceLT, Int.reduceLE, Nat.reducePow, decide_true, decide_false, Bool.not_true, Bool.not_false, Bool.and_true, Bool.true_and, Bool.and_false, Bool.false_and, Bool.or_true, Bool.true_or, Bool.or_false, Bool.false_or, Bool.cond_true, Bool.cond_false, Option.map_some, Option.map_none, id_eq, reduceCtorEq, Bool.true_beq, Bool.false_beq, Bool.not_not, LP.eq_s_backward_s_backward, LP.eq_s_backward_s_end, LP.eq_s_backward_s_x20, LP.eq_s_backward_s_start, LP.eq_s_backward_s_forward, LP.eq_s_backward_s_x, LP.eq_s_end_s_backward, LP.eq_s_end_s_end, LP.eq_s_end_s_x20, LP.eq_s_end_s_start, LP.eq_s_end_s_forward, LP.eq_s_end_s_x, LP.eq_s_x20_s_backward, LP.eq_s_x20_s_end, LP.eq_s_x20_s_x20, LP.eq_s_x20_s_start, LP.eq_s_x20_s_forward, LP.eq_s_x20_s_x, LP.eq_s_start_s_backward, LP.eq_s_start_s_end, LP.eq_s_start_s_x20, LP.eq_s_start_s_start, LP.eq_s_start_s_forward, LP.eq_s_start_s_x, LP.eq_s_forward_s_backward, LP.eq_s_forward_s_end, LP.eq_s_forward_s_x20, LP.eq_s_forward_s_start, LP.eq_s_forward_s_forward, LP.eq_s_forward_s_x, LP.eq_s_x_s_backward, LP.eq_s_x_s_end, LP.eq_s_x_s_x20, LP.eq_s_x_s_start, LP.eq_s_x_s_forward, LP.eq_s_x_s_x, LP.b_is_plain_int, LP.b_is_permutation, LP.b_law_pick, LP.b_law_same, LP.b_law_shuffle, LP.b_law_replaced, LP.b_law_mutate, LP.b_law_integer, LP.b_law_is_permutation, LP.b_is_number_below, LP.b_is_fitting_passage, LP.b_is_house, LP.b_law_permutation, LP.b_law_passage, LP.b_law_house, LP.b_law_is_passage, LP.b_law_is_house, LP.b_inverse, LP.b_crossing, LP.b_end_room, LP.b_is_slide, LP.b_law_listed, LP.b_law_inverse, LP.b_law_ends, LP.b_law_is_slide, LP.b_law_slides])
/-! # houses -/
namespace DI
open PySem L2
def isT : PV → Bool
  | .tup _ => true
  | _ => false
def tupL : PV → List PV
  | .tup xs => xs
  | _ => []
def intV : PV → Int
  | .int i => i
  | _ => 0
def isN (n : Int) : PV → Bool
  | .int i => leI 0 i && ltI i n
  | _ => false
def isFit (r s : Int) : PV → Bool
  | .tup [a, b, p] => isN r a && (isN r b && isPm s p)
  | _ => false
def isHs : PV → Bool
  | .tup [a, b, c] => isI a && (isI b && (isT c && (!ltI (intV a) 1 && (!ltI (intV b) 1 && (tupL c).all (isFit (intV a) (intV b))))))
  | _ => false
theorem isFit_ne {r s : Int} {xs : List PV} (h : xs.length ≠ 3) : isFit r s (.tup xs) = false := by
  match xs with
  | [] => rfl
  | [_] => rfl
  | [_, _] => rfl
  | [_, _, _] => exact absurd rfl h
  | _ :: _ :: _ :: _ :: _ => rfl
theorem isHs_ne {xs : List PV} (h : xs.length ≠ 3) : isHs (.tup xs) = false := by
  match xs with
  | [] => rfl
  | [_] => rfl
  | [_, _] => rfl
  | [_, _, _] => exact absurd rfl h
  | _ :: _ :: _ :: _ :: _ => rfl
theorem len3 {xs : List PV} (h : xs.length ≠ 3) : decide (nI (qlen xs) = 3) = false := decide_eq_false (by show ((xs.length : Nat) : Int) ≠ 3; omega)
theorem three {xs : List PV} (h : xs.length = 3) : ∃ a b c, xs = [a, b, c] := by
  match xs with
  | [a, b, c] => exact ⟨a, b, c, rfl⟩
theorem ok3 {a b c : PV} (h : okVs [a, b, c] = true) : okV a = true ∧ okV b = true ∧ okV c = true :=
  ⟨okVs_iff.mp h a (by simp), okVs_iff.mp h b (by simp), okVs_iff.mp h c (by simp)⟩
theorem ncs_all {M L d c : Nat} : ∀ {ys : List PV}, (∀ y ∈ ys, Nc M L d c y) → Ncs M L d ((c + 2) * ys.length) ys
  | [], _ => ⟨rfl, Nat.zero_le _, Nat.zero_le _⟩
  | y :: ys, h => by
    have := Ncs.cons (h y List.mem_cons_self) (ncs_all fun z hz => h z (List.mem_cons_of_mem _ hz))
    refine ⟨this.sm, this.dep, Nat.le_trans this.cost (Nat.le_of_eq ?_)⟩
    rw [List.length_cons, Nat.mul_succ]
    omega
theorem perm_pm {n : Int} {ys : List PV} (h1 : 1 ≤ n) (h : ys.Perm (rg1P n)) : isPm n (.tup ys) = true := by
  have hl : (ys.length : Int) = n := by rw [h.length_eq, rg1P_len]; omega
  have ha : ys.all isI = true := List.all_eq_true.mpr fun x hx => by
    obtain ⟨i, _, rfl⟩ := List.mem_map.mp (h.mem_iff.mp hx)
    rfl
  rw [← isPm_tup h1 hl ha]
  refine List.all_eq_true.mpr fun x hx => ?_
  obtain ⟨i, hi, rfl⟩ := List.mem_map.mp hx
  show hasI ys i = true
  refine List.any_eq_true.mpr ⟨.int i, h.mem_iff.mpr (List.mem_map.mpr ⟨i, hi, rfl⟩), ?_⟩
  exact beq_self_eq_true ((i : Nat) : Int)
theorem nc_rg {n : Int} (h : n ≤ 9) : ∀ y ∈ rg1P n, Nc 9 8 0 4 y := fun y hy => by
  obtain ⟨i, hi, rfl⟩ := List.mem_map.mp hy
  have := List.mem_range.mp hi
  exact LP.int_nc (by omega) (by omega) (Nat.le_refl _)
end DI
namespace LP
open PySem L2 DI
section
variable {F : Tab} {k : Nat}
theorem run_number [h : HasFn F n_is_number_below f_is_number_below] (a b : PV) : prun F Hn0 (k + 1) n_is_number_below [a, b] = (pexs (cf F k) b_is_number_below [some (.fz, a), some (.fz, b)]).nox.bind fin := run_code0 h rfl rfl rfl
theorem run_fitting [h : HasFn F n_is_fitting_passage f_is_fitting_passage] (a b c : PV) : prun F Hn0 (k + 1) n_is_fitting_passage [a, b, c] = (pexs (cf F k) b_is_fitting_passage [some (.fz, a), some (.fz, b), some (.fz, c), none, none, none]).nox.bind fin := run_code0 h rfl rfl rfl
theorem run_is_house [h : HasFn F n_is_house f_is_house] (a : PV) : prun F Hn0 (k + 1) n_is_house [a] = (pexs (cf F k) b_is_house [some (.fz, a), none, none, none, none]).nox.bind fin := run_code0 h rfl rfl rfl
theorem run_lpassage [h : HasFn F n__law_is_passage f_law_is_passage] (a b c : PV) : prun F Hn0 (k + 1) n__law_is_passage [a, b, c] = (pexs (cf F k) b_law_is_passage [some (.fz, a), some (.fz, b), some (.fz, c), none]).nox.bind fin := run_code0 h rfl rfl rfl
theorem run_lhouse [h : HasFn F n__law_is_house f_law_is_house] (a : PV) : prun F Hn0 (k + 1) n__law_is_house [a] = (pexs (cf F k) b_law_is_house [some (.fz, a), none]).nox.bind fin := run_code0 h rfl rfl rfl
theorem number_eq [HasFn F n_is_plain_int f_is_plain_int] [HasFn F n_is_number_below f_is_number_below] (hk : 2 ≤ k) {n : Int} {v : PV} (ho : okV v = true) : prun F Hn0 k n_is_number_below [.int n, v] = .ret (.fz, .bl (isN n v)) := by
  obtain ⟨k, rfl, hk1⟩ := up hk
  have hp := plain_eq (F := F) hk1 ho
  rw [run_number]
  walk_at "pure"
  rw [hp]
  cases v with
  | int i =>
    show _ = PT.ret (Md.fz, PV.bl (leI 0 i && ltI i n))
    rw [show isI (.int i) = true from rfl]
    walk_at "pure"
    generalize leI 0 i = b
    cases b <;> (walk_at "pure") <;> rfl
  | scr _ => cases ho
  | rng => cases ho
  | pr _ _ => cases ho
  | _ =>
    show _ = PT.ret (Md.fz, PV.bl false)
    rw [show isI _ = false from rfl]
    (walk_at "pure") <;> rfl
theorem fitting_eq [HasFn F n_is_plain_int f_is_plain_int] [HasFn F n_is_permutation f_is_permutation] [HasFn F n_is_number_below f_is_number_below] [HasFn F n_is_fitting_passage f_is_fitting_passage] (hk : 3 ≤ k) {r s : Int} (hs : s ≤ 1000) {v : PV} (ho : okV v = true) (hv : costV v ≤ 100000) :
    prun F Hn0 k n_is_fitting_passage [.int r, .int s, v] = .ret (.fz, .bl (isFit r s v)) := by
  obtain ⟨k, rfl, hk1⟩ := up hk
  rw [run_fitting]
  cases v with
  | tup xs =>
    by_cases h3 : xs.length = 3
    · obtain ⟨a, b, p, rfl⟩ := three h3
      obtain ⟨oa, ob, op⟩ := ok3 ho
      have hp : costV p ≤ 100000 := by
        have : costV a + 2 + (costV b + 2 + (costV p + 2 + 0)) + 3 ≤ 100000 := hv
        omega
      show _ = PT.ret (Md.fz, PV.bl (isN r a && (isN r b && isPm s p)))
      walk_at "pure"
      rw [number_eq hk1 oa]
      generalize isN r a = ba
      cases ba
      · (walk_at "pure") <;> rfl
      walk_at "pure"
      rw [number_eq hk1 ob]
      generalize isN r b = bb
      cases bb
      · (walk_at "pure") <;> rfl
      walk_at "pure"
      rw [perm_eq hk1 hs op hp]
      (walk_at "pure") <;> rfl
    · rw [isFit_ne h3]
      walk_at "pure"
      rw [len3 h3]
      (walk_at "pure") <;> rfl
  | scr _ => cases ho
  | rng => cases ho
  | pr _ _ => cases ho
  | _ => (walk_at "pure") <;> rfl
theorem is_house_eq [HasFn F n_is_plain_int f_is_plain_int] [HasFn F n_is_permutation f_is_permutation] [HasFn F n_is_number_below f_is_number_below] [HasFn F n_is_fitting_passage f_is_fitting_passage] [HasFn F n_is_house f_is_house] (hk : 4 ≤ k) {M L d c : Nat} (hM : M ≤ 1000) (hc : c ≤ 100000) {v : PV} (hN : Nc M L d c v) :
    prun F Hn0 k n_is_house [v] = .ret (.fz, .bl (isHs v)) := by
  obtain ⟨k, rfl, hk1⟩ := up hk
  have ho := hN.ok (by omega)
  have hv := Nat.le_trans hN.cost hc
  have hsm := hN.sm
  rw [run_is_house]
  cases v with
  | tup xs =>
    by_cases h3 : xs.length = 3
    · obtain ⟨a, b, p, rfl⟩ := three h3
      obtain ⟨oa, ob, op⟩ := ok3 ho
      have hp : costV p ≤ 100000 := by
        have : costV a + 2 + (costV b + 2 + (costV p + 2 + 0)) + 3 ≤ 100000 := hv
        omega
      have pa := plain_eq (F := F) (k := k) (by omega) oa
      have pb := plain_eq (F := F) (k := k) (by omega) ob
      walk_at "pure"
      rw [pa]
      cases ha : isI a
      · rw [show isHs (.tup [a, b, p]) = false by show (isI a && _) = false; rw [ha]; rfl]
        (walk_at "pure") <;> rfl
      cases a with
      | int r =>
        walk_at "pure"
        rw [pb]
        cases hb : isI b
        · rw [show isHs (.tup [.int r, b, p]) = false by show (true && (isI b && _)) = false; rw [hb]; rfl]
          (walk_at "pure") <;> rfl
        cases b with
        | int s =>
          cases p with
          | tup ps =>
            show _ = PT.ret (Md.fz, PV.bl (!ltI r 1 && (!ltI s 1 && ps.all (isFit r s))))
            walk_at "pure"
            by_cases hr : r < 1
            · rw [ltI_t hr]
              (walk_at "pure") <;> rfl
            rw [ltI_f hr]
            walk_at "pure"
            by_cases hs : s < 1
            · rw [ltI_t hs]
              (walk_at "pure") <;> rfl
            rw [ltI_f hs]
            walk_at "pure"
            have hs2 : s ≤ 1000 := by
              have : s.natAbs ≤ M := of_decide_eq_true (sms_mem.mp (show sms M L [.int r, .int s, .tup ps] = true from hsm) (.int s) (by simp))
              omega
            have hps : costVs ps + 3 ≤ 100000 := hp
            have hl := len_cost (xs := ps)
            rw [fits_le' (n := qlen ps) (show ps.length ≤ _ by omega)]
            walk_at "pure"
            rw [plc_q (fun x => .bl (isFit r s x)) (by
              intro x hx
              walk_at "pure"
              rw [fitting_eq hk1 hs2 (okVs_iff.mp op x hx) (by have := mem_cost hx; omega)]
              (walk_at "pure") <;> rfl)]
            walk_at "pure"
            rw [bls_map]
            walk_at "pure"
            rw [all_map]
            rfl
          | scr _ => cases op
          | rng => cases op
          | pr _ _ => cases op
          | _ => (walk_at "pure") <;> rfl
        | _ => cases hb
      | _ => cases ha
    · rw [isHs_ne h3]
      walk_at "pure"
      rw [len3 h3]
      (walk_at "pure") <;> rfl
  | scr _ => cases ho
  | rng => cases ho
  | pr _ _ => cases ho
  | _ => (walk_at "pure") <;> rfl
end
end LP
end
section
set_option maxHeartbeats 4000000
local macro_rules | `(tactic| walk_at "pure") => `(tactic| conv => enter [1]; try simp (config := { maxSteps := 10000000 }) only [DI.kTup2, DI.kTup, DI.kLst2, DI.kLst, DI.kBin2, DI.kBin, DI.kNeg, DI.kBl, DI.kNot, DI.kCmp2, DI.kCmp, DI.kCh4, DI.kCh3, DI.kCh2, DI.kCh, DI.kAnd2, DI.kAnd, DI.kOr2, DI.kOr, DI.kNotE, DI.kIte2, DI.kIte, DI.kIx2, DI.kIx, DI.kSl3, DI.kSl2, DI.kSl, DI.kLr, DI.kIsi, DI.kCall2, DI.kCall, DI.kCons2, DI.kCons, DI.kOI, DI.kTru, DI.kKw4, DI.kKw3, DI.kKw2, DI.kKw1, DI.kKw, DI.kMt3, DI.kMt2, DI.kMt, DI.kT4, DI.kT3, DI.kT2, DI.kT1, DI.kTurn, DI.kLc2, DI.kLc, DI.kR1, DI.kR2b, DI.kR2, DI.kEn2, DI.kEn, DI.kSet2, DI.kSet, DI.kPop2, DI.kEnv, DI.kSetT3, DI.kSetT2, DI.kSetT, DI.kNx, DI.kSub4, DI.kSub3, DI.kSub2, DI.kSub, DI.kAug4, DI.kAug3, DI.kAug2, DI.kAug, DI.kRet2, DI.kRet, DI.kIf2, DI.kIf, DI.kFor2, DI.kFor, DI.kPar2, DI.kPar, DI.kSeq, DI.kIdx, DI.kApp3, DI.kApp, DI.kApp0, DI.kAp4, DI.kAp3, DI.kAp2, DI.kAp1, DI.kAp, DI.kMe4, DI.kMe3, DI.kMe2, DI.kMe, DI.kEx, DI.kZip4, DI.kZip3, DI.kZip2, DI.kZip, DI.kTest, DI.kPlc3, DI.kPlc2, DI.kMut2, DI.kMut, DI.kAppS, DI.kStS2, DI.kStS, DI.kPk, DI.newMdE, DI.ownL, DI.r_var, DI.r_cint, DI.r_cstr, DI.r_cbl, DI.r_cnon, DI.r_tup, DI.r_lst, DI.r_bin, DI.r_neg, DI.r_cmp, DI.r_chain, DI.r_and, DI.r_or, DI.r_not, DI.r_ite, DI.r_ix, DI.r_slice, DI.r_rev, DI.r_blt, DI.r_lr, DI.r_tr, DI.r_isi, DI.r_call, DI.r_nil, DI.r_cons, DI.r_onone, DI.r_osome, DI.r_cnone, DI.r_csome, DI.r_callK, DI.r_meth, DI.r_lc, DI.r_seq, DI.r_range1, DI.r_range2, DI.r_enum, DI.s_nil, DI.s_cons, DI.s_setT, DI.s_sub, DI.s_aug, DI.s_ite, DI.s_for, DI.s_par, DI.s_pass, DI.s_brk, DI.s_cont, DI.s_pop, DI.s_set_var, DI.s_ret_var, DI.s_set_cint, DI.s_ret_cint, DI.s_set_cstr, DI.s_ret_cstr, DI.s_set_cbl, DI.s_ret_cbl, DI.s_set_cnon, DI.s_ret_cnon, DI.s_set_tup, DI.s_ret_tup, DI.s_set_lst, DI.s_ret_lst, DI.s_set_bin, DI.s_ret_bin, DI.s_set_neg, DI.s_ret_neg, DI.s_set_cmp, DI.s_ret_cmp, DI.s_set_chain, DI.s_ret_chain, DI.s_set_and, DI.s_ret_and, DI.s_set_or, DI.s_ret_or, DI.s_set_not, DI.s_ret_not, DI.s_set_ite, DI.s_ret_ite, DI.s_set_ix, DI.s_ret_ix, DI.s_set_slice, DI.s_ret_slice, DI.s_set_rev, DI.s_ret_rev, DI.s_set_blt, DI.s_ret_blt, DI.s_set_lr, DI.s_ret_lr, DI.s_set_tr, DI.s_ret_tr, DI.s_set_isi, DI.s_ret_isi, DI.s_set_call, DI.s_ret_call, DI.s_set_callK, DI.s_ret_callK, DI.s_set_lc, DI.s_ret_lc, DI.s_set_upper, DI.s_ret_upper, DI.s_app, DI.s_app2, DI.s_insert, DI.s_popAt, DI.s_ex_call, DI.r_zip, DI.s_while, DI.r_plc, DI.fin_ret, DI.fin_next, DI.fin_exc, DI.frz1_n, DI.frz1_z, DI.frz1_s, DI.frz_n, DI.frz_c, DI.frzS_none, DI.frzS_fz, DI.frzS_b1, DI.frzS_b2, DI.frzS_o1t, DI.frzS_o1f, DI.frzS_o2t, DI.frzS_o2f, DI.varP_z, DI.varP_s, DI.set_z, DI.set_s, DI.atS_z, DI.atS_s, DI.ownB_e, DI.mutS_e, DI.appS_e, DI.setSubS_e, DI.e_var0, DI.e_var1, DI.e_var2, DI.e_tup, DI.e_lst, DI.e_bin, DI.e_neg, DI.e_cmp, DI.e_chain, DI.e_and, DI.e_or, DI.e_not, DI.e_ite, DI.e_ix0, DI.e_ix1, DI.e_ix2, DI.e_slice, DI.e_rev, DI.e_list, DI.e_tuple, DI.e_len, DI.e_all, DI.e_any, DI.e_abs, DI.e_int, DI.e_str, DI.e_repr, DI.e_min2, DI.e_max2, DI.e_lcm, DI.e_sorted, DI.e_lr, DI.e_tr, DI.e_isi, DI.e_call, DI.e_callK, DI.e_meth, DI.e_lc, DI.e_cint, DI.e_cstr, DI.e_cbl, DI.e_cnon, DI.e_nil, DI.e_cons, DI.e_onone, DI.e_osome, DI.e_seq, DI.e_range1, DI.e_range2, DI.e_enum, DI.e_zip, DI.wipe_n, DI.wipe_c, DI.lk_z, DI.lk_s, DI.pick_n, DI.pick_c, DI.mkS, DI.asTupP, DI.m_index, DI.newMd0, DI.movB0, DI.beqI, DI.bneI, DI.ownS, DI.binP, DI.itemsP, DI.cmpP, DI.truthP, DI.asBP, DI.itMd, DI.ixP, DI.sliceP, DI.revP, DI.tyP, DI.isiP, DI.rgP, DI.recvP, DI.augP, DI.stored, DI.litE, DI.allNew, DI.dispMd, DI.newE, DI.setEnvsP, DI.setEnvsM, DI.bindP, DI.rdMd, DI.stP, DI.seqP, DI.retMd, DI.Md.stB, DI.Md.cpB, DI.Md.own1, DI.Mth.listB, DI.flatP, DI.cf, DI.bI, DI.rgItemsP, DI.bltP, DI.bind_ret, DI.nox_ret, DI.resc_ret, DI.pif_true, DI.pif_false, DI.eqP_int, DI.eqP_bl, DI.eqP_bi, DI.eqP_non, DI.bind_stuck, DI.bind_draw, DI.nox_draw, DI.resc_draw, DI.resc_exc, DI.bind_exc, DI.popt_some, DI.popt_none, DI.plc_nil, DI.forP_nil, DI.enumP_nil, DI.enumP_cons, DI.zipP_nil, DI.zipP_cons, DI.len_q, DI.qlen_nil, DI.qlen_cons, DI.map_q, DI.qmap_nil, DI.qmap_cons, DI.app_q, DI.qapp_nil, DI.qapp_cons, DI.any_q, DI.qany_nil, DI.qany_cons, DI.all_q, DI.qall_nil, DI.qall_cons, DI.empty_q, DI.qempty_nil, DI.qempty_cons, DI.take_q, DI.drop_q, DI.rev_q, DI.blsP_nil, DI.blsP_cons, DI.intsP_nil, DI.intsP_cons, DI.at_q, DI.qat_0, DI.qat_1, DI.qat_2, DI.qat_3, DI.bls_true, DI.all_true, DI.imod_q, DI.idiv_q, DI.mut_append, DI.mut_insert, DI.qix_q, DI.ntI_q, DI.meth_upper, DI.repB_2_4, DI.repP_2, DI.repP_3, DI.fits_0, DI.fits_1, DI.fits_2, DI.fits_3, DI.fits_4, DI.fits_5, DI.fits_6, DI.fits_7, DI.fits_8, DI.fits_9, DI.fits_10, DI.fits_11, DI.fits_12, DI.fits_13, DI.fits_14, DI.fits_15, DI.fits_16, DI.fits_17, DI.fits_18, DI.fits_19, DI.fits_20, DI.fits_21, DI.fits_22, DI.fits_23, DI.fits_24, DI.fits_25, DI.fits_26, DI.fits_27, DI.fits_28, DI.fits_29, DI.fits_30, DI.fits_31, DI.fits_32, DI.fits_33, DI.fits_34, DI.fits_35, DI.fits_36, DI.fits_37, DI.fits_38, DI.fits_39, DI.fits_40, DI.fits_41, DI.fits_42, DI.fits_43, DI.fits_44, DI.fits_45, DI.fits_46, DI.fits_47, DI.fits_48, DI.fits_49, DI.fits_50, DI.fits_51, DI.fits_52, DI.fits_53, DI.fits_54, DI.fits_55, DI.fits_56, DI.fits_57, DI.fits_58, DI.fits_59, DI.fits_60, DI.fits_61, DI.fits_62, DI.fits_63, DI.fits_64, DI.nI_l, DI.ltI_t, DI.ltI_f, DI.leI_t, DI.leI_f, DI.nzI_t, DI.smI_t, DI.rgB_t, DI.rg1B_t, DI.rg2B_t, not_false_eq_true, not_true_eq_false, ne_eq, DI.ty_NoneType_bool, DI.ty_NoneType_int, DI.ty_NoneType_str, DI.ty_NoneType_tuple, DI.ty_NoneType_list, DI.ty_bool_bool, DI.ty_bool_int, DI.ty_bool_str, DI.ty_bool_tuple, DI.ty_bool_list, DI.ty_int_bool, DI.ty_int_int, DI.ty_int_str, DI.ty_int_tuple, DI.ty_int_list, DI.ty_str_bool, DI.ty_str_int, DI.ty_str_str, DI.ty_str_tuple, DI.ty_str_list, DI.ty_tuple_bool, DI.ty_tuple_int, DI.ty_tuple_str, DI.ty_tuple_tuple, DI.ty_tuple_list, DI.ty_list_bool, DI.ty_list_int, DI.ty_list_str, DI.ty_list_tuple, DI.ty_list_list, Nat.reduceAdd, Nat.reduceLT, Nat.reduceLeDiff, Nat.reduceEqDiff, Int.reduceAdd, Int.reduceSub, Int.reduceMul, Int.reduceNeg, Int.reduceEq, Int.reduceLT, Int.reduceLE, Nat.reducePow, decide_true, decide_false, Bool.not_true, Bool.not_false, Bool.and_true, Bool.true_and, Bool.and_false, Bool.false_and, Bool.or_true, Bool.true_or, Bool.or_false, Bool.false_or, Bool.cond_true, Bool.cond_false, Option.map_some, Option.map_none, id_eq, reduceCtorEq, Bool.true_beq, Bool.false_beq, Bool.not_not, LP.eq_s_backward_s_backward, LP.eq_s_backward_s_end, LP.eq_s_backward_s_x20, LP.eq_s_backward_s_start, LP.eq_s_backward_s_forward, LP.eq_s_backward_s_x, LP.eq_s_end_s_backward, LP.eq_s_end_s_end, LP.eq_s_end_s_x20, LP.eq_s_end_s_start, LP.eq_s_end_s_forward, LP.eq_s_end_s_x, LP.eq_s_x20_s_backward, LP.eq_s_x20_s_end, LP.eq_s_x20_s_x20, LP.eq_s_x20_s_start, LP.eq_s_x20_s_forward, LP.eq_s_x20_s_x, LP.eq_s_start_s_backward, LP.eq_s_start_s_end, LP.eq_s_start_s_x20, LP.eq_s_start_s_start, LP.eq_s_start_s_forward, LP.eq_s_start_s_x, LP.eq_s_forward_s_backward, LP.eq_s_forward_s_end, LP.eq_s_forward_s_x20, LP.eq_s_forward_s_start, LP.eq_s_forward_s_forward, LP.eq_s_forward_s_x, LP.eq_s_x_s_backward, LP.eq_s_x_s_end, LP.eq_s_x_s_x20, LP.eq_s_x_s_start, LP.eq_s_x_s_forward, LP.eq_s_x_s_x, LP.b_is_plain_int, LP.b_is_permutation, LP.b_law_pick, LP.b_law_same, LP.b_law_shuffle, LP.b_law_replaced, LP.b_law_mutate, LP.b_law_integer, LP.b_law_is_permutation, LP.b_is_number_below, LP.b_is_fitting_passage, LP.b_is_house, LP.b_law_permutation, LP.b_law_passage, LP.b_law_house, LP.b_law_is_passage, LP.b_law_is_house, LP.b_inverse, LP.b_crossing, LP.b_end_room, LP.b_is_slide, LP.b_law_listed, LP.b_law_inverse, LP.b_law_ends, LP.b_law_is_slide, LP.b_law_slides])
/-! # houses: the law's own test, and how they are drawn -/
namespace LP
open PySem L2 DI
section
variable {F : Tab} {k : Nat}
theorem cut2 (a b c : PV) : cutP [a, b, c] none (some 2) = [a, b] := rfl
theorem lpassage_eq [HasFn F n__law_integer f_law_integer] [HasFn F n__law_is_permutation f_law_is_permutation] [HasFn F n__law_is_passage f_law_is_passage] (hk : 3 ≤ k) {r s : Int} (h1 : 1 ≤ s) (hs : s ≤ 1000) {v : PV} (ho : okV v = true) (hv : costV v ≤ 100000) :
    prun F Hn0 k n__law_is_passage [.int r, .int s, v] = .ret (.fz, .bl (isFit r s v)) := by
  obtain ⟨k, rfl, hk1⟩ := up hk
  rw [run_lpassage]
  cases v with
  | tup xs =>
    by_cases h3 : xs.length = 3
    · obtain ⟨a, b, p, rfl⟩ := three h3
      obtain ⟨oa, ob, op⟩ := ok3 ho
      have hp : costV p ≤ 100000 := by
        have : costV a + 2 + (costV b + 2 + (costV p + 2 + 0)) + 3 ≤ 100000 := hv
        omega
      walk_at "pure"
      obtain ⟨L, hL⟩ : ∃ L, L = [a, b] := ⟨_, rfl⟩
      rw [show cutP [a, b, p] none (some 2) = L by rw [hL]; rfl]
      have oL : ∀ x ∈ L, okV x = true := fun x hx => by
        rw [hL] at hx
        rcases List.mem_cons.mp hx with rfl | hx
        · exact oa
        · rcases List.mem_cons.mp hx with rfl | hx
          · exact ob
          · cases hx
      walk_at "pure"
      rw [fits_le' (n := qlen L) (by show L.length ≤ _; rw [hL]; exact Nat.le_of_ble_eq_true rfl)]
      walk_at "pure"
      rw [plc_q (fun x => .bl (isN r x)) (by
        intro x hx
        have hi := integer_eq (F := F) (k := k) (by omega) (oL x hx)
        have ox := oL x hx
        walk_at "pure"
        rw [hi]
        cases x with
        | int i =>
          show _ = PT.ret (some (PV.bl (leI 0 i && ltI i r)))
          rw [show isI (.int i) = true from rfl]
          walk_at "pure"
          generalize leI 0 i = b
          cases b <;> (walk_at "pure") <;> rfl
        | scr _ => cases ox
        | rng => cases ox
        | pr _ _ => cases ox
        | _ =>
          show _ = PT.ret (some (PV.bl false))
          rw [show isI _ = false from rfl]
          (walk_at "pure") <;> rfl)]
      walk_at "pure"
      rw [bls_map]
      walk_at "pure"
      rw [all_map, hL]
      show _ = PT.ret (Md.fz, PV.bl (isN r a && (isN r b && isPm s p)))
      rw [show [a, b].all (isN r) = (isN r a && (isN r b && true)) from rfl]
      generalize isN r a = ba
      generalize isN r b = bb
      cases ba
      · (walk_at "pure") <;> rfl
      cases bb
      · (walk_at "pure") <;> rfl
      walk_at "pure"
      rw [law_perm_eq hk1 h1 hs op hp]
      (walk_at "pure") <;> rfl
    · rw [isFit_ne h3]
      walk_at "pure"
      rw [len3 h3]
      (walk_at "pure") <;> rfl
  | scr _ => cases ho
  | rng => cases ho
  | pr _ _ => cases ho
  | _ => (walk_at "pure") <;> rfl
theorem lhouse_eq [HasFn F n__law_integer f_law_integer] [HasFn F n__law_is_permutation f_law_is_permutation] [HasFn F n__law_is_passage f_law_is_passage] [HasFn F n__law_is_house f_law_is_house] (hk : 4 ≤ k) {M L d c : Nat} (hM : M ≤ 1000) (hc : c ≤ 100000) {v : PV} (hN : Nc M L d c v) :
    prun F Hn0 k n__law_is_house [v] = .ret (.fz, .bl (isHs v)) := by
  obtain ⟨k, rfl, hk1⟩ := up hk
  have ho := hN.ok (by omega)
  have hv := Nat.le_trans hN.cost hc
  have hsm := hN.sm
  rw [run_lhouse]
  cases v with
  | tup xs =>
    by_cases h3 : xs.length = 3
    · obtain ⟨a, b, p, rfl⟩ := three h3
      obtain ⟨oa, ob, op⟩ := ok3 ho
      have hp : costV p ≤ 100000 := by
        have : costV a + 2 + (costV b + 2 + (costV p + 2 + 0)) + 3 ≤ 100000 := hv
        omega
      have pa := integer_eq (F := F) (k := k) (by omega) oa
      have pb := integer_eq (F := F) (k := k) (by omega) ob
      walk_at "pure"
      rw [pa]
      cases ha : isI a
      · rw [show isHs (.tup [a, b, p]) = false by show (isI a && _) = false; rw [ha]; rfl]
        (walk_at "pure") <;> rfl
      cases a with
      | int r =>
        walk_at "pure"
        rw [pb]
        cases hb : isI b
        · rw [show isHs (.tup [.int r, b, p]) = false by show (true && (isI b && _)) = false; rw [hb]; rfl]
          (walk_at "pure") <;> rfl
        cases b with
        | int s =>
          walk_at "pure"
          by_cases hr : r < 1
          · rw [show isHs (.tup [.int r, .int s, p]) = false by show (true && (true && (isT p && (!ltI r 1 && _)))) = false; rw [ltI_t hr]; cases isT p <;> rfl]
            rw [ltI_t hr]
            (walk_at "pure") <;> rfl
          rw [ltI_f hr]
          walk_at "pure"
          by_cases hs : s < 1
          · rw [show isHs (.tup [.int r, .int s, p]) = false by show (true && (true && (isT p && (!ltI r 1 && (!ltI s 1 && _))))) = false; rw [ltI_t hs]; cases isT p <;> cases ltI r 1 <;> rfl]
            rw [ltI_t hs]
            (walk_at "pure") <;> rfl
          rw [ltI_f hs]
          cases p with
          | tup ps =>
            rw [show isHs (.tup [.int r, .int s, .tup ps]) = ps.all (isFit r s) by show (!ltI r 1 && (!ltI s 1 && ps.all (isFit r s))) = _; rw [ltI_f hr, ltI_f hs]; rfl]
            walk_at "pure"
            have hs2 : s ≤ 1000 := by
              have : s.natAbs ≤ M := of_decide_eq_true (sms_mem.mp (show sms M L [.int r, .int s, .tup ps] = true from hsm) (.int s) (by simp))
              omega
            have hps : costVs ps + 3 ≤ 100000 := hp
            have hl := len_cost (xs := ps)
            rw [fits_le' (n := qlen ps) (show ps.length ≤ _ by omega)]
            walk_at "pure"
            rw [plc_q (fun x => .bl (isFit r s x)) (by
              intro x hx
              walk_at "pure"
              rw [lpassage_eq hk1 (by omega) hs2 (okVs_iff.mp op x hx) (by have := mem_cost hx; omega)]
              (walk_at "pure") <;> rfl)]
            walk_at "pure"
            rw [bls_map]
            walk_at "pure"
            rw [all_map]
          | scr _ => cases op
          | rng => cases op
          | pr _ _ => cases op
          | _ => (walk_at "pure") <;> rfl
        | _ => cases hb
      | _ => cases ha
    · rw [isHs_ne h3]
      walk_at "pure"
      rw [len3 h3]
      (walk_at "pure") <;> rfl
  | scr _ => cases ho
  | rng => cases ho
  | pr _ _ => cases ho
  | _ => (walk_at "pure") <;> rfl
theorem run_lpermutation [h : HasFn F n__law_permutation f_law_permutation] (a b : PV) : prun F Hn0 (k + 1) n__law_permutation [a, b] = (pexs (cf F k) b_law_permutation [some (.fz, a), some (.fz, b), none, none, none]).nox.bind fin := run_code0 h rfl rfl rfl
theorem rot_perm (xs : List PV) : (cutP xs (some 1) none ++ cutP xs none (some 1)).Perm xs := by
  refine List.perm_append_comm.trans (List.Perm.of_eq ?_)
  unfold cutP
  rw [show (some (1 : Int)) = some ((1 : Nat) : Int) from rfl]
  simp only [HT.sIx_none, HT.sIx_nat, List.drop_zero, Nat.sub_zero]
  rcases xs with _ | ⟨x, xs⟩
  · rfl
  · rw [Nat.min_eq_left (show 1 ≤ (x :: xs).length by rw [List.length_cons]; omega), List.take_of_length_le (l := (x :: xs).drop 1) (by rw [List.length_drop]; omega), List.take_append_drop]
theorem lpermutation_dr [HasFn F n__law_draw .draw] [HasFn F n__law_shuffle f_law_shuffle] [HasFn F n__law_permutation f_law_permutation] (hk : 3 ≤ k) {n : Int} (h1 : 1 ≤ n) (h2 : n ≤ 9) :
    Dr (prun F Hn0 k n__law_permutation [.rng, .int n]) 10 fun r => ∃ ys, r = (.fz, .tup ys) ∧ ys.Perm (rg1P n) := by
  obtain ⟨k, rfl, hk1⟩ := up hk
  rw [run_lpermutation]
  have hl : (rg1P n).length ≤ 9 := by rw [rg1P_len]; omega
  walk_at "pure"
  rw [run_draw (k := k) (by omega) _ (by omega) (by omega)]
  walk_at "pure"
  refine Dr.mono (Dr.draw (n := 9) fun v v0 v1 => ?_) (by omega) fun a q => q
  rw [rgB_ok (by omega) (by omega)]
  walk_at "pure"
  by_cases e1 : v = 1
  · rw [decide_eq_true e1]
    walk_at "pure"
    rw [run_draw (k := k) (by omega) _ (by omega) (by omega)]
    walk_at "pure"
    refine Dr.mono (Dr.draw (n := 0) fun w w0 w1 => ?_) (by omega) fun a q => q
    obtain ⟨i, rfl⟩ : ∃ i : Nat, w = i := ⟨w.toNat, by omega⟩
    have l1 := len_cut (rg1P n) none (some ((i : Nat) : Int))
    have l2 := len_cut (rg1P n) (some ((i : Nat) : Int)) (some (((i : Nat) : Int) + 2))
    have l3 := len_cut (rg1P n) (some (((i : Nat) : Int) + 2)) none
    have pp := swap_perm (rg1P n) i
    generalize cutP (rg1P n) none (some ((i : Nat) : Int)) = c1 at l1 pp ⊢
    generalize cutP (rg1P n) (some ((i : Nat) : Int)) (some (((i : Nat) : Int) + 2)) = c2 at l2 pp ⊢
    have e1 : (c1 ++ c2.reverse).length ≤ 40000 := by rw [List.length_append, List.length_reverse]; omega
    rw [fits_le' (n := qlen c1 + qlen (qrev c2)) (show c1.length + c2.reverse.length ≤ _ by rw [List.length_reverse]; omega)]
    walk_at "pure"
    rw [fits_le' (n := qlen (qapp c1 (qrev c2)) + qlen (cutP (rg1P n) (some (((i : Nat) : Int) + 2)) none)) (show (c1 ++ c2.reverse).length + (cutP (rg1P n) (some (((i : Nat) : Int) + 2)) none).length ≤ _ by omega)]
    walk_at "pure"
    exact Dr.ret ⟨_, rfl, pp⟩
  rw [decide_eq_false e1]
  walk_at "pure"
  by_cases e2 : v = 2
  · rw [decide_eq_true e2]
    walk_at "pure"
    have l1 := len_cut (rg1P n) (some 1) none
    have l2 := len_cut (rg1P n) none (some 1)
    rw [fits_le' (n := qlen (cutP (rg1P n) (some 1) none) + qlen (cutP (rg1P n) none (some 1))) (show (cutP (rg1P n) (some 1) none).length + (cutP (rg1P n) none (some 1)).length ≤ _ by omega)]
    walk_at "pure"
    exact Dr.ret ⟨_, rfl, rot_perm _⟩
  rw [decide_eq_false e2]
  walk_at "pure"
  by_cases e3 : 2 < v
  · rw [ltI_t e3]
    walk_at "pure"
    have sh := shuffle_dr (F := F) (k := k) (by omega) (rg1P n) (by omega)
    generalize prun F Hn0 k n__law_shuffle [.rng, .lst (rg1P n)] = t at sh ⊢
    apply Dr.ctx (m := 0) (t := t) sh
    · intro j k
      rfl
    · omega
    intro a ha
    obtain ⟨ys, rfl, hy⟩ := ha
    walk_at "pure"
    exact Dr.ret ⟨_, rfl, hy⟩
  · rw [ltI_f e3]
    walk_at "pure"
    exact Dr.ret ⟨_, rfl, List.Perm.refl _⟩
end
end LP
end
section
set_option maxHeartbeats 4000000
local macro_rules | `(tactic| walk_at "pure") => `(tactic| conv => enter [1]; try simp (config := { maxSteps := 10000000 }) only [DI.kTup2, DI.kTup, DI.kLst2, DI.kLst, DI.kBin2, DI.kBin, DI.kNeg, DI.kBl, DI.kNot, DI.kCmp2, DI.kCmp, DI.kCh4, DI.kCh3, DI.kCh2, DI.kCh, DI.kAnd2, DI.kAnd, DI.kOr2, DI.kOr, DI.kNotE, DI.kIte2, DI.kIte, DI.kIx2, DI.kIx, DI.kSl3, DI.kSl2, DI.kSl, DI.kLr, DI.kIsi, DI.kCall2, DI.kCall, DI.kCons2, DI.kCons, DI.kOI, DI.kTru, DI.kKw4, DI.kKw3, DI.kKw2, DI.kKw1, DI.kKw, DI.kMt3, DI.kMt2, DI.kMt, DI.kT4, DI.kT3, DI.kT2, DI.kT1, DI.kTurn, DI.kLc2, DI.kLc, DI.kR1, DI.kR2b, DI.kR2, DI.kEn2, DI.kEn, DI.kSet2, DI.kSet, DI.kPop2, DI.kEnv, DI.kSetT3, DI.kSetT2, DI.kSetT, DI.kNx, DI.kSub4, DI.kSub3, DI.kSub2, DI.kSub, DI.kAug4, DI.kAug3, DI.kAug2, DI.kAug, DI.kRet2, DI.kRet, DI.kIf2, DI.kIf, DI.kFor2, DI.kFor, DI.kPar2, DI.kPar, DI.kSeq, DI.kIdx, DI.kApp3, DI.kApp, DI.kApp0, DI.kAp4, DI.kAp3, DI.kAp2, DI.kAp1, DI.kAp, DI.kMe4, DI.kMe3, DI.kMe2, DI.kMe, DI.kEx, DI.kZip4, DI.kZip3, DI.kZip2, DI.kZip, DI.kTest, DI.kPlc3, DI.kPlc2, DI.kMut2, DI.kMut, DI.kAppS, DI.kStS2, DI.kStS, DI.kPk, DI.newMdE, DI.ownL, DI.r_var, DI.r_cint, DI.r_cstr, DI.r_cbl, DI.r_cnon, DI.r_tup, DI.r_lst, DI.r_bin, DI.r_neg, DI.r_cmp, DI.r_chain, DI.r_and, DI.r_or, DI.r_not, DI.r_ite, DI.r_ix, DI.r_slice, DI.r_rev, DI.r_blt, DI.r_lr, DI.r_tr, DI.r_isi, DI.r_call, DI.r_nil, DI.r_cons, DI.r_onone, DI.r_osome, DI.r_cnone, DI.r_csome, DI.r_callK, DI.r_meth, DI.r_lc, DI.r_seq, DI.r_range1, DI.r_range2, DI.r_enum, DI.s_nil, DI.s_cons, DI.s_setT, DI.s_sub, DI.s_aug, DI.s_ite, DI.s_for, DI.s_par, DI.s_pass, DI.s_brk, DI.s_cont, DI.s_pop, DI.s_set_var, DI.s_ret_var, DI.s_set_cint, DI.s_ret_cint, DI.s_set_cstr, DI.s_ret_cstr, DI.s_set_cbl, DI.s_ret_cbl, DI.s_set_cnon, DI.s_ret_cnon, DI.s_set_tup, DI.s_ret_tup, DI.s_set_lst, DI.s_ret_lst, DI.s_set_bin, DI.s_ret_bin, DI.s_set_neg, DI.s_ret_neg, DI.s_set_cmp, DI.s_ret_cmp, DI.s_set_chain, DI.s_ret_chain, DI.s_set_and, DI.s_ret_and, DI.s_set_or, DI.s_ret_or, DI.s_set_not, DI.s_ret_not, DI.s_set_ite, DI.s_ret_ite, DI.s_set_ix, DI.s_ret_ix, DI.s_set_slice, DI.s_ret_slice, DI.s_set_rev, DI.s_ret_rev, DI.s_set_blt, DI.s_ret_blt, DI.s_set_lr, DI.s_ret_lr, DI.s_set_tr, DI.s_ret_tr, DI.s_set_isi, DI.s_ret_isi, DI.s_set_call, DI.s_ret_call, DI.s_set_callK, DI.s_ret_callK, DI.s_set_lc, DI.s_ret_lc, DI.s_set_upper, DI.s_ret_upper, DI.s_app, DI.s_app2, DI.s_insert, DI.s_popAt, DI.s_ex_call, DI.r_zip, DI.s_while, DI.r_plc, DI.fin_ret, DI.fin_next, DI.fin_exc, DI.frz1_n, DI.frz1_z, DI.frz1_s, DI.frz_n, DI.frz_c, DI.frzS_none, DI.frzS_fz, DI.frzS_b1, DI.frzS_b2, DI.frzS_o1t, DI.frzS_o1f, DI.frzS_o2t, DI.frzS_o2f, DI.varP_z, DI.varP_s, DI.set_z, DI.set_s, DI.atS_z, DI.atS_s, DI.ownB_e, DI.mutS_e, DI.appS_e, DI.setSubS_e, DI.e_var0, DI.e_var1, DI.e_var2, DI.e_tup, DI.e_lst, DI.e_bin, DI.e_neg, DI.e_cmp, DI.e_chain, DI.e_and, DI.e_or, DI.e_not, DI.e_ite, DI.e_ix0, DI.e_ix1, DI.e_ix2, DI.e_slice, DI.e_rev, DI.e_list, DI.e_tuple, DI.e_len, DI.e_all, DI.e_any, DI.e_abs, DI.e_int, DI.e_str, DI.e_repr, DI.e_min2, DI.e_max2, DI.e_lcm, DI.e_sorted, DI.e_lr, DI.e_tr, DI.e_isi, DI.e_call, DI.e_callK, DI.e_meth, DI.e_lc, DI.e_cint, DI.e_cstr, DI.e_cbl, DI.e_cnon, DI.e_nil, DI.e_cons, DI.e_onone, DI.e_osome, DI.e_seq, DI.e_range1, DI.e_range2, DI.e_enum, DI.e_zip, DI.wipe_n, DI.wipe_c, DI.lk_z, DI.lk_s, DI.pick_n, DI.pick_c, DI.mkS, DI.asTupP, DI.m_index, DI.newMd0, DI.movB0, DI.beqI, DI.bneI, DI.ownS, DI.binP, DI.itemsP, DI.cmpP, DI.truthP, DI.asBP, DI.itMd, DI.ixP, DI.sliceP, DI.revP, DI.tyP, DI.isiP, DI.rgP, DI.recvP, DI.augP, DI.stored, DI.litE, DI.allNew, DI.dispMd, DI.newE, DI.setEnvsP, DI.setEnvsM, DI.bindP, DI.rdMd, DI.stP, DI.seqP, DI.retMd, DI.Md.stB, DI.Md.cpB, DI.Md.own1, DI.Mth.listB, DI.flatP, DI.cf, DI.bI, DI.rgItemsP, DI.bltP, DI.bind_ret, DI.nox_ret, DI.resc_ret, DI.pif_true, DI.pif_false, DI.eqP_int, DI.eqP_bl, DI.eqP_bi, DI.eqP_non, DI.bind_stuck, DI.bind_draw, DI.nox_draw, DI.resc_draw, DI.resc_exc, DI.bind_exc, DI.popt_some, DI.popt_none, DI.plc_nil, DI.forP_nil, DI.enumP_nil, DI.enumP_cons, DI.zipP_nil, DI.zipP_cons, DI.len_q, DI.qlen_nil, DI.qlen_cons, DI.map_q, DI.qmap_nil, DI.qmap_cons, DI.app_q, DI.qapp_nil, DI.qapp_cons, DI.any_q, DI.qany_nil, DI.qany_cons, DI.all_q, DI.qall_nil, DI.qall_cons, DI.empty_q, DI.qempty_nil, DI.qempty_cons, DI.take_q, DI.drop_q, DI.rev_q, DI.blsP_nil, DI.blsP_cons, DI.intsP_nil, DI.intsP_cons, DI.at_q, DI.qat_0, DI.qat_1, DI.qat_2, DI.qat_3, DI.bls_true, DI.all_true, DI.imod_q, DI.idiv_q, DI.mut_append, DI.mut_insert, DI.qix_q, DI.ntI_q, DI.meth_upper, DI.repB_2_4, DI.repP_2, DI.repP_3, DI.fits_0, DI.fits_1, DI.fits_2, DI.fits_3, DI.fits_4, DI.fits_5, DI.fits_6, DI.fits_7, DI.fits_8, DI.fits_9, DI.fits_10, DI.fits_11, DI.fits_12, DI.fits_13, DI.fits_14, DI.fits_15, DI.fits_16, DI.fits_17, DI.fits_18, DI.fits_19, DI.fits_20, DI.fits_21, DI.fits_22, DI.fits_23, DI.fits_24, DI.fits_25, DI.fits_26, DI.fits_27, DI.fits_28, DI.fits_29, DI.fits_30, DI.fits_31, DI.fits_32, DI.fits_33, DI.fits_34, DI.fits_35, DI.fits_36, DI.fits_37, DI.fits_38, DI.fits_39, DI.fits_40, DI.fits_41, DI.fits_42, DI.fits_43, DI.fits_44, DI.fits_45, DI.fits_46, DI.fits_47, DI.fits_48, DI.fits_49, DI.fits_50, DI.fits_51, DI.fits_52, DI.fits_53, DI.fits_54, DI.fits_55, DI.fits_56, DI.fits_57, DI.fits_58, DI.fits_59, DI.fits_60, DI.fits_61, DI.fits_62, DI.fits_63, DI.fits_64, DI.nI_l, DI.ltI_t, DI.ltI_f, DI.leI_t, DI.leI_f, DI.nzI_t, DI.smI_t, DI.rgB_t, DI.rg1B_t, DI.rg2B_t, not_false_eq_true, not_true_eq_false, ne_eq, DI.ty_NoneType_bool, DI.ty_NoneType_int, DI.ty_NoneType_str, DI.ty_NoneType_tuple, DI.ty_NoneType_list, DI.ty_bool_bool, DI.ty_bool_int, DI.ty_bool_str, DI.ty_bool_tuple, DI.ty_bool_list, DI.ty_int_bool, DI.ty_int_int, DI.ty_int_str, DI.ty_int_tuple, DI.ty_int_list, DI.ty_str_bool, DI.ty_str_int, DI.ty_str_str, DI.ty_str_tuple, DI.ty_str_list, DI.ty_tuple_bool, DI.ty_tuple_int, DI.ty_tuple_str, DI.ty_tuple_tuple, DI.ty_tuple_list, DI.ty_list_bool, DI.ty_list_int, DI.ty_list_str, DI.ty_list_tuple, DI.ty_list_list, Nat.reduceAdd, Nat.reduceLT, Nat.reduceLeDiff, Nat.reduceEqDiff, Int.reduceAdd, Int.reduceSub, Int.reduceMul, Int.reduceNeg, Int.reduceEq, Int.reduceLT, Int.reduceLE, Nat.reducePow, decide_true, decide_false, Bool.not_true, Bool.not_false, Bool.and_true, Bool.true_and, Bool.and_false, Bool.false_and, Bool.or_true, Bool.true_or, Bool.or_false, Bool.false_or, Bool.cond_true, Bool.cond_false, Option.map_some, Option.map_none, id_eq, reduceCtorEq, Bool.true_beq, Bool.false_beq, Bool.not_not, LP.eq_s_backward_s_backward, LP.eq_s_backward_s_end, LP.eq_s_backward_s_x20, LP.eq_s_backward_s_start, LP.eq_s_backward_s_forward, LP.eq_s_backward_s_x, LP.eq_s_end_s_backward, LP.eq_s_end_s_end, LP.eq_s_end_s_x20, LP.eq_s_end_s_start, LP.eq_s_end_s_forward, LP.eq_s_end_s_x, LP.eq_s_x20_s_backward, LP.eq_s_x20_s_end, LP.eq_s_x20_s_x20, LP.eq_s_x20_s_start, LP.eq_s_x20_s_forward, LP.eq_s_x20_s_x, LP.eq_s_start_s_backward, LP.eq_s_start_s_end, LP.eq_s_start_s_x20, LP.eq_s_start_s_start, LP.eq_s_start_s_forward, LP.eq_s_start_s_x, LP.eq_s_forward_s_backward, LP.eq_s_forward_s_end, LP.eq_s_forward_s_x20, LP.eq_s_forward_s_start, LP.eq_s_forward_s_forward, LP.eq_s_forward_s_x, LP.eq_s_x_s_backward, LP.eq_s_x_s_end, LP.eq_s_x_s_x20, LP.eq_s_x_s_start, LP.eq_s_x_s_forward, LP.eq_s_x_s_x, LP.b_is_plain_int, LP.b_is_permutation, LP.b_law_pick, LP.b_law_same, LP.b_law_shuffle, LP.b_law_replaced, LP.b_law_mutate, LP.b_law_integer, LP.b_law_is_permutation, LP.b_is_number_below, LP.b_is_fitting_passage, LP.b_is_house, LP.b_law_permutation, LP.b_law_passage, LP.b_law_house, LP.b_law_is_passage, LP.b_law_is_house, LP.b_inverse, LP.b_crossing, LP.b_end_room, LP.b_is_slide, LP.b_law_listed, LP.b_law_inverse, LP.b_law_ends, LP.b_law_is_slide, LP.b_law_slides])
/-! # houses, drawn -/
namespace LP
open PySem L2 DI
section
variable {F : Tab} {k : Nat}
theorem run_lpass [h : HasFn F n__law_passage f_law_passage] (a b c : PV) : prun F Hn0 (k + 1) n__law_passage [a, b, c] = (pexs (cf F k) b_law_passage [some (.fz, a), some (.fz, b), some (.fz, c), none, none, none]).nox.bind fin := run_code0 h rfl rfl rfl
theorem run_lhs [h : HasFn F n__law_house f_law_house] (a b c d : PV) : prun F Hn0 (k + 1) n__law_house [a, b, c, d] = (pexs (cf F k) b_law_house [some (.fz, a), some (.fz, b), some (.fz, c), some (.fz, d), none]).nox.bind fin := run_code0 h rfl rfl rfl
theorem isN_ok {n i : Int} (h0 : 0 ≤ i) (h1 : i < n) : isN n (.int i) = true := by
  show (leI 0 i && ltI i n) = true
  rw [leI_t h0, ltI_t h1]
  rfl
/-- a passage that fits, small -/
def FitN (r s : Int) (w : PV) : Prop := isFit r s w = true ∧ Nc 9 8 2 80 w
theorem fitN {r s i j : Int} {ys : List PV} (hr : r ≤ 9) (h0 : 0 ≤ i) (h1 : i < r) (h2 : 0 ≤ j) (h3 : j < r) (hs : 1 ≤ s) (hs2 : s ≤ 6) (hp : ys.Perm (rg1P s)) : FitN r s (.tup [.int i, .int j, .tup ys]) := by
  refine ⟨?_, ?_⟩
  · show (isN r (.int i) && (isN r (.int j) && isPm s (.tup ys))) = true
    rw [isN_ok h0 h1, isN_ok h2 h3, perm_pm hs hp]
    rfl
  · have hN : Ncs 9 8 0 ((4 + 2) * (rg1P s).length) (rg1P s) := ncs_all fun y hy => nc_rg (by omega) y hy
    have hl : (rg1P s).length ≤ 6 := by rw [rg1P_len]; omega
    have hN := (hN.perm hp).tup
    exact (Ncs.tup (M := 9) (L := 8) (d := 1) (c := 6 + (6 + ((6 * (rg1P s).length + 3) + 2 + 0))) (.cons (c1 := 4) (int_nc (by omega) (by omega) (Nat.le_refl _)) (.cons (c1 := 4) (int_nc (by omega) (by omega) (Nat.le_refl _)) (.cons (hN.mono (by omega) (by omega) (by omega) (Nat.le_refl _)) .nil)))).mono (by omega) (by omega) (by omega) (by omega)
theorem lpassage_dr [HasFn F n__law_draw .draw] [HasFn F n__law_shuffle f_law_shuffle] [HasFn F n__law_permutation f_law_permutation] [HasFn F n__law_passage f_law_passage] (hk : 4 ≤ k) {r s : Int} (h1 : 1 ≤ r) (h2 : r ≤ 9) (hs : 1 ≤ s) (hs2 : s ≤ 6) :
    Dr (prun F Hn0 k n__law_passage [.rng, .int r, .int s]) 20 fun q => ∃ w, q = (.fz, w) ∧ FitN r s w := by
  obtain ⟨k, rfl, hk1⟩ := up hk
  rw [run_lpass]
  walk_at "pure"
  rw [run_draw (k := k) (by omega) _ (by omega) (by omega)]
  walk_at "pure"
  refine Dr.mono (Dr.draw (n := 19) fun v v0 v1 => ?_) (by omega) fun a q => q
  rw [run_draw (k := k) (by omega) _ (by omega) (by omega)]
  walk_at "pure"
  refine Dr.mono (Dr.draw (n := 18) fun w w0 w1 => ?_) (by omega) fun a q => q
  have last : ∀ j : Int, 0 ≤ j → j < r → Dr (prun F Hn0 k n__law_permutation [.rng, .int s]) 10 fun q => ∃ ys, q = (.fz, .tup ys) ∧ ys.Perm (rg1P s) := fun j j0 j1 => lpermutation_dr (k := k) (by omega) hs (by omega)
  by_cases e : w = 0
  · rw [decide_eq_true e]
    walk_at "pure"
    have q := last v v0 v1
    generalize prun F Hn0 k n__law_permutation [.rng, .int s] = t at q ⊢
    apply Dr.ctx (m := 0) (t := t) q
    · intro j k
      rfl
    · omega
    intro a ha
    obtain ⟨ys, rfl, hp⟩ := ha
    walk_at "pure"
    exact Dr.ret ⟨_, rfl, fitN h2 v0 v1 v0 v1 hs hs2 hp⟩
  · rw [decide_eq_false e]
    walk_at "pure"
    rw [run_draw (k := k) (by omega) _ (by omega) (by omega)]
    walk_at "pure"
    refine Dr.mono (Dr.draw (n := 10) fun u u0 u1 => ?_) (by omega) fun a q => q
    have q := last u u0 u1
    generalize prun F Hn0 k n__law_permutation [.rng, .int s] = t at q ⊢
    apply Dr.ctx (m := 0) (t := t) q
    · intro j k
      rfl
    · omega
    intro a ha
    obtain ⟨ys, rfl, hp⟩ := ha
    walk_at "pure"
    exact Dr.ret ⟨_, rfl, fitN h2 v0 v1 u0 u1 hs hs2 hp⟩
/-- a house of the law -/
structure HsN (r s : Int) (ps : List PV) : Prop where
  r1 : 1 ≤ r
  s1 : 1 ≤ s
  fit : ∀ p ∈ ps, FitN r s p
theorem hsN_nc {r s : Int} {ps : List PV} (h : HsN r s ps) (hr : r ≤ 9) (hs : s ≤ 6) : Nc 9 8 4 (82 * ps.length + 20) (.tup [.int r, .int s, .tup ps]) := by
  have hN : Ncs 9 8 2 ((80 + 2) * ps.length) ps := ncs_all fun y hy => (h.fit y hy).2
  have r1 := h.r1
  have s1 := h.s1
  exact (Ncs.tup (M := 9) (L := 8) (d := 3) (c := 6 + (6 + ((82 * ps.length + 3) + 2 + 0))) (.cons (c1 := 4) (int_nc (by omega) (by omega) (Nat.le_refl _)) (.cons (c1 := 4) (int_nc (by omega) (by omega) (Nat.le_refl _)) (.cons hN.tup .nil)))).mono (by omega) (by omega) (by omega) (by omega)
theorem lhouse_dr [HasFn F n__law_draw .draw] [HasFn F n__law_shuffle f_law_shuffle] [HasFn F n__law_permutation f_law_permutation] [HasFn F n__law_passage f_law_passage] [HasFn F n__law_house f_law_house] (hk : 5 ≤ k) {r s m : Int} (h1 : 1 ≤ r) (h2 : r ≤ 9) (hs : 1 ≤ s) (hs2 : s ≤ 6) (hm : 0 ≤ m) (hm2 : m ≤ 12) :
    Dr (prun F Hn0 k n__law_house [.rng, .int r, .int s, .int m]) 300 fun q => ∃ r' s' ps, q = (.fz, .tup [.int r', .int s', .tup ps]) ∧ r' ≤ r ∧ s' ≤ s ∧ (ps.length : Int) ≤ m ∧ HsN r' s' ps := by
  obtain ⟨k, rfl, hk1⟩ := up hk
  rw [run_lhs]
  walk_at "pure"
  rw [run_draw (k := k) (by omega) _ (by omega) (by omega)]
  walk_at "pure"
  refine Dr.mono (Dr.draw (n := 299) fun v v0 v1 => ?_) (by omega) fun a q => q
  rw [run_draw (k := k) (by omega) _ (by omega) (by omega)]
  walk_at "pure"
  refine Dr.mono (Dr.draw (n := 298) fun w w0 w1 => ?_) (by omega) fun a q => q
  rw [run_draw (k := k) (by omega) _ (by omega) (by omega)]
  walk_at "pure"
  refine Dr.mono (Dr.draw (n := 297) fun u u0 u1 => ?_) (by omega) fun a q => q
  rw [rg1B_ok (by omega) (by omega)]
  walk_at "pure"
  have hl : (rg1P u).length ≤ 12 := by rw [rg1P_len]; omega
  rw [fits_le' (n := qlen (rg1P u)) (show (rg1P u).length ≤ _ by omega)]
  walk_at "pure"
  generalize hpl : plc _ (rg1P u) = t
  have pl : Dr t (20 * (rg1P u).length) fun ys => ys.length = (rg1P u).length ∧ ∀ y ∈ ys, FitN (1 + v) (1 + w) y := by
    rw [← hpl]
    refine Dr.mono (Dr.plc (n := 20) (Q := fun _ y => FitN (1 + v) (1 + w) y) fun x hx => ?_) (Nat.le_refl _) fun ys h => ⟨h.1, fun y hy => ?_⟩
    · walk_at "pure"
      have q := lpassage_dr (F := F) (k := k) (by omega) (r := 1 + v) (s := 1 + w) (by omega) (by omega) (by omega) (by omega)
      generalize prun F Hn0 k n__law_passage [.rng, .int (1 + v), .int (1 + w)] = t at q ⊢
      apply Dr.ctx (m := 0) (t := t) q
      · intro j k
        rfl
      · omega
      intro a ha
      obtain ⟨y, rfl, hy⟩ := ha
      walk_at "pure"
      exact Dr.ret ⟨_, rfl, hy⟩
    · obtain ⟨i, hi⟩ := List.getElem?_of_mem hy
      have hlt := (List.getElem?_eq_some_iff.mp hi).1
      rw [h.1] at hlt
      exact h.2 i (rg1P u)[i] y (List.getElem?_eq_getElem hlt) hi
  clear hpl
  apply Dr.ctx (m := 0) (t := t) pl
  · intro j k
    rfl
  · omega
  intro ps hps
  walk_at "pure"
  exact Dr.ret ⟨1 + v, 1 + w, ps, rfl, by omega, by omega, by rw [hps.1, rg1P_len]; omega, ⟨by omega, by omega, hps.2⟩⟩
end
end LP
end
section
set_option maxHeartbeats 4000000
local macro_rules | `(tactic| walk_at "pure") => `(tactic| conv => enter [1]; try simp (config := { maxSteps := 10000000 }) only [DI.kTup2, DI.kTup, DI.kLst2, DI.kLst, DI.kBin2, DI.kBin, DI.kNeg, DI.kBl, DI.kNot, DI.kCmp2, DI.kCmp, DI.kCh4, DI.kCh3, DI.kCh2, DI.kCh, DI.kAnd2, DI.kAnd, DI.kOr2, DI.kOr, DI.kNotE, DI.kIte2, DI.kIte, DI.kIx2, DI.kIx, DI.kSl3, DI.kSl2, DI.kSl, DI.kLr, DI.kIsi, DI.kCall2, DI.kCall, DI.kCons2, DI.kCons, DI.kOI, DI.kTru, DI.kKw4, DI.kKw3, DI.kKw2, DI.kKw1, DI.kKw, DI.kMt3, DI.kMt2, DI.kMt, DI.kT4, DI.kT3, DI.kT2, DI.kT1, DI.kTurn, DI.kLc2, DI.kLc, DI.kR1, DI.kR2b, DI.kR2, DI.kEn2, DI.kEn, DI.kSet2, DI.kSet, DI.kPop2, DI.kEnv, DI.kSetT3, DI.kSetT2, DI.kSetT, DI.kNx, DI.kSub4, DI.kSub3, DI.kSub2, DI.kSub, DI.kAug4, DI.kAug3, DI.kAug2, DI.kAug, DI.kRet2, DI.kRet, DI.kIf2, DI.kIf, DI.kFor2, DI.kFor, DI.kPar2, DI.kPar, DI.kSeq, DI.kIdx, DI.kApp3, DI.kApp, DI.kApp0, DI.kAp4, DI.kAp3, DI.kAp2, DI.kAp1, DI.kAp, DI.kMe4, DI.kMe3, DI.kMe2, DI.kMe, DI.kEx, DI.kZip4, DI.kZip3, DI.kZip2, DI.kZip, DI.kTest, DI.kPlc3, DI.kPlc2, DI.kMut2, DI.kMut, DI.kAppS, DI.kStS2, DI.kStS, DI.kPk, DI.newMdE, DI.ownL, DI.r_var, DI.r_cint, DI.r_cstr, DI.r_cbl, DI.r_cnon, DI.r_tup, DI.r_lst, DI.r_bin, DI.r_neg, DI.r_cmp, DI.r_chain, DI.r_and, DI.r_or, DI.r_not, DI.r_ite, DI.r_ix, DI.r_slice, DI.r_rev, DI.r_blt, DI.r_lr, DI.r_tr, DI.r_isi, DI.r_call, DI.r_nil, DI.r_cons, DI.r_onone, DI.r_osome, DI.r_cnone, DI.r_csome, DI.r_callK, DI.r_meth, DI.r_lc, DI.r_seq, DI.r_range1, DI.r_range2, DI.r_enum, DI.s_nil, DI.s_cons, DI.s_setT, DI.s_sub, DI.s_aug, DI.s_ite, DI.s_for, DI.s_par, DI.s_pass, DI.s_brk, DI.s_cont, DI.s_pop, DI.s_set_var, DI.s_ret_var, DI.s_set_cint, DI.s_ret_cint, DI.s_set_cstr, DI.s_ret_cstr, DI.s_set_cbl, DI.s_ret_cbl, DI.s_set_cnon, DI.s_ret_cnon, DI.s_set_tup, DI.s_ret_tup, DI.s_set_lst, DI.s_ret_lst, DI.s_set_bin, DI.s_ret_bin, DI.s_set_neg, DI.s_ret_neg, DI.s_set_cmp, DI.s_ret_cmp, DI.s_set_chain, DI.s_ret_chain, DI.s_set_and, DI.s_ret_and, DI.s_set_or, DI.s_ret_or, DI.s_set_not, DI.s_ret_not, DI.s_set_ite, DI.s_ret_ite, DI.s_set_ix, DI.s_ret_ix, DI.s_set_slice, DI.s_ret_slice, DI.s_set_rev, DI.s_ret_rev, DI.s_set_blt, DI.s_ret_blt, DI.s_set_lr, DI.s_ret_lr, DI.s_set_tr, DI.s_ret_tr, DI.s_set_isi, DI.s_ret_isi, DI.s_set_call, DI.s_ret_call, DI.s_set_callK, DI.s_ret_callK, DI.s_set_lc, DI.s_ret_lc, DI.s_set_upper, DI.s_ret_upper, DI.s_app, DI.s_app2, DI.s_insert, DI.s_popAt, DI.s_ex_call, DI.r_zip, DI.s_while, DI.r_plc, DI.fin_ret, DI.fin_next, DI.fin_exc, DI.frz1_n, DI.frz1_z, DI.frz1_s, DI.frz_n, DI.frz_c, DI.frzS_none, DI.frzS_fz, DI.frzS_b1, DI.frzS_b2, DI.frzS_o1t, DI.frzS_o1f, DI.frzS_o2t, DI.frzS_o2f, DI.varP_z, DI.varP_s, DI.set_z, DI.set_s, DI.atS_z, DI.atS_s, DI.ownB_e, DI.mutS_e, DI.appS_e, DI.setSubS_e, DI.e_var0, DI.e_var1, DI.e_var2, DI.e_tup, DI.e_lst, DI.e_bin, DI.e_neg, DI.e_cmp, DI.e_chain, DI.e_and, DI.e_or, DI.e_not, DI.e_ite, DI.e_ix0, DI.e_ix1, DI.e_ix2, DI.e_slice, DI.e_rev, DI.e_list, DI.e_tuple, DI.e_len, DI.e_all, DI.e_any, DI.e_abs, DI.e_int, DI.e_str, DI.e_repr, DI.e_min2, DI.e_max2, DI.e_lcm, DI.e_sorted, DI.e_lr, DI.e_tr, DI.e_isi, DI.e_call, DI.e_callK, DI.e_meth, DI.e_lc, DI.e_cint, DI.e_cstr, DI.e_cbl, DI.e_cnon, DI.e_nil, DI.e_cons, DI.e_onone, DI.e_osome, DI.e_seq, DI.e_range1, DI.e_range2, DI.e_enum, DI.e_zip, DI.wipe_n, DI.wipe_c, DI.lk_z, DI.lk_s, DI.pick_n, DI.pick_c, DI.mkS, DI.asTupP, DI.m_index, DI.newMd0, DI.movB0, DI.beqI, DI.bneI, DI.ownS, DI.binP, DI.itemsP, DI.cmpP, DI.truthP, DI.asBP, DI.itMd, DI.ixP, DI.sliceP, DI.revP, DI.tyP, DI.isiP, DI.rgP, DI.recvP, DI.augP, DI.stored, DI.litE, DI.allNew, DI.dispMd, DI.newE, DI.setEnvsP, DI.setEnvsM, DI.bindP, DI.rdMd, DI.stP, DI.seqP, DI.retMd, DI.Md.stB, DI.Md.cpB, DI.Md.own1, DI.Mth.listB, DI.flatP, DI.cf, DI.bI, DI.rgItemsP, DI.bltP, DI.bind_ret, DI.nox_ret, DI.resc_ret, DI.pif_true, DI.pif_false, DI.eqP_int, DI.eqP_bl, DI.eqP_bi, DI.eqP_non, DI.bind_stuck, DI.bind_draw, DI.nox_draw, DI.resc_draw, DI.resc_exc, DI.bind_exc, DI.popt_some, DI.popt_none, DI.plc_nil, DI.forP_nil, DI.enumP_nil, DI.enumP_cons, DI.zipP_nil, DI.zipP_cons, DI.len_q, DI.qlen_nil, DI.qlen_cons, DI.map_q, DI.qmap_nil, DI.qmap_cons, DI.app_q, DI.qapp_nil, DI.qapp_cons, DI.any_q, DI.qany_nil, DI.qany_cons, DI.all_q, DI.qall_nil, DI.qall_cons, DI.empty_q, DI.qempty_nil, DI.qempty_cons, DI.take_q, DI.drop_q, DI.rev_q, DI.blsP_nil, DI.blsP_cons, DI.intsP_nil, DI.intsP_cons, DI.at_q, DI.qat_0, DI.qat_1, DI.qat_2, DI.qat_3, DI.bls_true, DI.all_true, DI.imod_q, DI.idiv_q, DI.mut_append, DI.mut_insert, DI.qix_q, DI.ntI_q, DI.meth_upper, DI.repB_2_4, DI.repP_2, DI.repP_3, DI.fits_0, DI.fits_1, DI.fits_2, DI.fits_3, DI.fits_4, DI.fits_5, DI.fits_6, DI.fits_7, DI.fits_8, DI.fits_9, DI.fits_10, DI.fits_11, DI.fits_12, DI.fits_13, DI.fits_14, DI.fits_15, DI.fits_16, DI.fits_17, DI.fits_18, DI.fits_19, DI.fits_20, DI.fits_21, DI.fits_22, DI.fits_23, DI.fits_24, DI.fits_25, DI.fits_26, DI.fits_27, DI.fits_28, DI.fits_29, DI.fits_30, DI.fits_31, DI.fits_32, DI.fits_33, DI.fits_34, DI.fits_35, DI.fits_36, DI.fits_37, DI.fits_38, DI.fits_39, DI.fits_40, DI.fits_41, DI.fits_42, DI.fits_43, DI.fits_44, DI.fits_45, DI.fits_46, DI.fits_47, DI.fits_48, DI.fits_49, DI.fits_50, DI.fits_51, DI.fits_52, DI.fits_53, DI.fits_54, DI.fits_55, DI.fits_56, DI.fits_57, DI.fits_58, DI.fits_59, DI.fits_60, DI.fits_61, DI.fits_62, DI.fits_63, DI.fits_64, DI.nI_l, DI.ltI_t, DI.ltI_f, DI.leI_t, DI.leI_f, DI.nzI_t, DI.smI_t, DI.rgB_t, DI.rg1B_t, DI.rg2B_t, not_false_eq_true, not_true_eq_false, ne_eq, DI.ty_NoneType_bool, DI.ty_NoneType_int, DI.ty_NoneType_str, DI.ty_NoneType_tuple, DI.ty_NoneType_list, DI.ty_bool_bool, DI.ty_bool_int, DI.ty_bool_str, DI.ty_bool_tuple, DI.ty_bool_list, DI.ty_int_bool, DI.ty_int_int, DI.ty_int_str, DI.ty_int_tuple, DI.ty_int_list, DI.ty_str_bool, DI.ty_str_int, DI.ty_str_str, DI.ty_str_tuple, DI.ty_str_list, DI.ty_tuple_bool, DI.ty_tuple_int, DI.ty_tuple_str, DI.ty_tuple_tuple, DI.ty_tuple_list, DI.ty_list_bool, DI.ty_list_int, DI.ty_list_str, DI.ty_list_tuple, DI.ty_list_list, Nat.reduceAdd, Nat.reduceLT, Nat.reduceLeDiff, Nat.reduceEqDiff, Int.reduceAdd, Int.reduceSub, Int.reduceMul, Int.reduceNeg, Int.reduceEq, Int.reduceLT, Int.reduceLE, Nat.reducePow, decide_true, decide_false, Bool.not_true, Bool.not_false, Bool.and_true, Bool.true_and, Bool.and_false, Bool.false_and, Bool.or_true, Bool.true_or, Bool.or_false, Bool.false_or, Bool.cond_true, Bool.cond_false, Option.map_some, Option.map_none, id_eq, reduceCtorEq, Bool.true_beq, Bool.false_beq, Bool.not_not, LP.eq_s_backward_s_backward, LP.eq_s_backward_s_end, LP.eq_s_backward_s_x20, LP.eq_s_backward_s_start, LP.eq_s_backward_s_forward, LP.eq_s_backward_s_x, LP.eq_s_end_s_backward, LP.eq_s_end_s_end, LP.eq_s_end_s_x20, LP.eq_s_end_s_start, LP.eq_s_end_s_forward, LP.eq_s_end_s_x, LP.eq_s_x20_s_backward, LP.eq_s_x20_s_end, LP.eq_s_x20_s_x20, LP.eq_s_x20_s_start, LP.eq_s_x20_s_forward, LP.eq_s_x20_s_x, LP.eq_s_start_s_backward, LP.eq_s_start_s_end, LP.eq_s_start_s_x20, LP.eq_s_start_s_start, LP.eq_s_start_s_forward, LP.eq_s_start_s_x, LP.eq_s_forward_s_backward, LP.eq_s_forward_s_end, LP.eq_s_forward_s_x20, LP.eq_s_forward_s_start, LP.eq_s_forward_s_forward, LP.eq_s_forward_s_x, LP.eq_s_x_s_backward, LP.eq_s_x_s_end, LP.eq_s_x_s_x20, LP.eq_s_x_s_start, LP.eq_s_x_s_forward, LP.eq_s_x_s_x, LP.b_is_plain_int, LP.b_is_permutation, LP.b_law_pick, LP.b_law_same, LP.b_law_shuffle, LP.b_law_replaced, LP.b_law_mutate, LP.b_law_integer, LP.b_law_is_permutation, LP.b_is_number_below, LP.b_is_fitting_passage, LP.b_is_house, LP.b_law_permutation, LP.b_law_passage, LP.b_law_house, LP.b_law_is_passage, LP.b_law_is_house, LP.b_inverse, LP.b_crossing, LP.b_end_room, LP.b_is_slide, LP.b_law_listed, LP.b_law_inverse, LP.b_law_ends, LP.b_law_is_slide, LP.b_law_slides])
/-! # passages and their ends -/
namespace DI
open PySem L2
/-- no draw: an answer -/
theorem Dr.ret_of {α : Type} {t : PT α} {P : α → Prop} (h : Dr t 0 P) : ∃ a, t = .ret a ∧ P a := by
  have := h 0 (Nat.le_refl 0)
  cases t with
  | ret a => exact ⟨a, rfl, this.2⟩
  | draw n k => obtain ⟨b, e, _⟩ := this; omega
  | exc x => exact this.elim
  | stuck => exact this.elim
/-- a passage, told -/
structure Pg where
  a : Int
  b : Int
  ys : List PV
def Pg.pv (w : Bool) (p : Pg) : PV := mkS w [.int p.a, .int p.b, mkS w p.ys]
def netV (w : Bool) (r s : Int) (ps : List Pg) : PV := mkS w [.int r, .int s, mkS w (ps.map (Pg.pv w))]
/-- it fits -/
structure Pg.Ok (r s : Int) (p : Pg) : Prop where
  a0 : 0 ≤ p.a
  a1 : p.a < r
  b0 : 0 ≤ p.b
  b1 : p.b < r
  pm : p.ys.Perm (rg1P s)
theorem pm_perm {n : Int} {ys : List PV} (h : isPm n (.tup ys) = true) : ys.Perm (rg1P n) := by
  have h : (decide (1 ≤ n) && (decide ((ys.length : Int) = n) && (ys.all isI && (List.range n.toNat).all fun i => hasI ys i))) = true := h
  obtain ⟨h1, h⟩ := Bool.and_eq_true_iff.mp h
  obtain ⟨h2, h⟩ := Bool.and_eq_true_iff.mp h
  obtain ⟨h3, h4⟩ := Bool.and_eq_true_iff.mp h
  have h1 := of_decide_eq_true h1
  have h2 := of_decide_eq_true h2
  obtain ⟨ns, rfl⟩ := pv_ints h3
  rw [rg1P_I]
  refine List.Perm.map _ ?_
  rw [List.length_map] at h2
  have hR : (rgI n.toNat).Pairwise (· < ·) := List.pairwise_map.mpr (List.pairwise_lt_range.imp fun h => by omega)
  refine (perm_of_sub (hR.imp fun h => by omega) (fun a ha => ?_) (by unfold rgI; rw [List.length_map, List.length_range]; omega)).symm
  obtain ⟨i, hi, rfl⟩ := List.mem_map.mp ha
  exact hasI_map.mp (List.all_eq_true.mp h4 i hi)
theorem isN_of {n : Int} {v : PV} (h : isN n v = true) : ∃ i, v = .int i ∧ 0 ≤ i ∧ i < n := by
  cases v with
  | int i =>
    obtain ⟨h1, h2⟩ := Bool.and_eq_true_iff.mp (show (leI 0 i && ltI i n) = true from h)
    exact ⟨i, rfl, of_decide_eq_true h1, of_decide_eq_true h2⟩
  | _ => cases h
theorem fit_of {r s : Int} {v : PV} (h : isFit r s v = true) : ∃ p : Pg, v = p.pv true ∧ p.Ok r s := by
  cases v with
  | tup xs =>
    by_cases h3 : xs.length = 3
    · obtain ⟨a, b, c, rfl⟩ := three h3
      obtain ⟨h1, h4⟩ := Bool.and_eq_true_iff.mp (show (isN r a && (isN r b && isPm s c)) = true from h)
      obtain ⟨h2, h5⟩ := Bool.and_eq_true_iff.mp h4
      clear h h4
      obtain ⟨i, rfl, i0, i1⟩ := isN_of h1
      obtain ⟨j, rfl, j0, j1⟩ := isN_of h2
      cases c with
      | tup ys => exact ⟨⟨i, j, ys⟩, rfl, i0, i1, j0, j1, pm_perm h5⟩
      | _ => cases h5
    · rw [isFit_ne h3] at h
      cases h
  | _ => cases h
theorem hs_pgs {r s : Int} : ∀ {ps : List PV}, (∀ p ∈ ps, LP.FitN r s p) → ∃ qs : List Pg, ps = qs.map (Pg.pv true) ∧ ∀ q ∈ qs, q.Ok r s
  | [], _ => ⟨[], rfl, fun q h => by cases h⟩
  | p :: ps, h => by
    obtain ⟨q, rfl, hq⟩ := fit_of (h p List.mem_cons_self).1
    obtain ⟨qs, rfl, hqs⟩ := hs_pgs fun x hx => h x (List.mem_cons_of_mem _ hx)
    exact ⟨q :: qs, rfl, fun x hx => (List.mem_cons.mp hx).elim (fun e => e ▸ hq) (hqs x)⟩
theorem pm_ints {s : Int} {ys : List PV} (h : ys.Perm (rg1P s)) {v : PV} (hv : v ∈ ys) : ∃ i : Nat, v = .int i ∧ (i : Int) < s := by
  obtain ⟨i, hi, rfl⟩ := List.mem_map.mp (h.mem_iff.mp hv)
  have := List.mem_range.mp hi
  exact ⟨i, rfl, by omega⟩
theorem pm_len {s : Int} {ys : List PV} (h : ys.Perm (rg1P s)) : ys.length = s.toNat := by rw [h.length_eq, rg1P_len]
/-- every int below stands somewhere -/
theorem pm_idx {s : Int} {ys : List PV} (h : ys.Perm (rg1P s)) {i : Nat} (hi : (i : Int) < s) : ∃ j, idxP ys (.int i) = some j := by
  have hm : PV.int i ∈ ys := h.mem_iff.mpr (List.mem_map.mpr ⟨i, List.mem_range.mpr (by omega), rfl⟩)
  cases e : idxP ys (.int i) with
  | some j => exact ⟨j, rfl⟩
  | none =>
    have := List.findIdx?_eq_none_iff.mp e _ hm
    have q : eqV (toVP (.int i)) (toVP (.int i)) = true := by
      show ((i : Int) == (i : Int)) = true
      exact beq_self_eq_true _
    rw [q] at this
    cases this
theorem pm_flat {s : Int} {ys : List PV} (h : ys.Perm (rg1P s)) : qall ys flatP = true := List.all_eq_true.mpr fun v hv => by
  obtain ⟨i, rfl, _⟩ := pm_ints h hv
  rfl
end DI
namespace LP
open PySem L2 DI
section
variable {F : Tab} {k : Nat}
theorem run_inverse [h : HasFn F n_inverse f_inverse] (a : PV) : prun F Hn0 (k + 1) n_inverse [a] = (pexs (cf F k) b_inverse [some (.fz, a), none, none, none]).nox.bind fin := run_code0 h rfl rfl rfl
theorem run_crossing [h : HasFn F n_crossing f_crossing] (a b : PV) : prun F Hn0 (k + 1) n_crossing [a, b] = (pexs (cf F k) b_crossing [some (.fz, a), some (.fz, b), none, none, none]).nox.bind fin := run_code0 h rfl rfl rfl
theorem run_end_room [h : HasFn F n_end_room f_end_room] (a b : PV) : prun F Hn0 (k + 1) n_end_room [a, b] = (pexs (cf F k) b_end_room [some (.fz, a), some (.fz, b)]).nox.bind fin := run_code0 h rfl rfl rfl
theorem run_linverse [h : HasFn F n__law_inverse f_law_inverse] (a : PV) : prun F Hn0 (k + 1) n__law_inverse [a] = (pexs (cf F k) b_law_inverse [some (.fz, a), none]).nox.bind fin := run_code0 h rfl rfl rfl
theorem run_lends [h : HasFn F n__law_ends f_law_ends] (a b : PV) : prun F Hn0 (k + 1) n__law_ends [a, b] = (pexs (cf F k) b_law_ends [some (.fz, a), some (.fz, b), none, none, none]).nox.bind fin := run_code0 h rfl rfl rfl
theorem linverse_eq [HasFn F n__law_inverse f_law_inverse] (hk : 1 ≤ k) {s : Int} {ys : List PV} (hs : s ≤ 100) (h : ys.Perm (rg1P s)) : ∃ q, prun F Hn0 k n__law_inverse [.tup ys] = .ret (.fz, .tup q) := by
  obtain ⟨k, rfl, _⟩ := up hk
  have hl := pm_len h
  refine ⟨qmap (fun y => .int (nI ((idxP ys y).getD 0))) (rg1P (nI (qlen ys))), ?_⟩
  rw [run_linverse]
  walk_at "pure"
  have e : nI (qlen ys) = ((ys.length : Nat) : Int) := rfl
  rw [rg1B_ok (by rw [e]; omega) (by rw [e]; omega)]
  walk_at "pure"
  rw [fits_le' (n := qlen (rg1P (nI (qlen ys)))) (by show (rg1P _).length ≤ _; rw [rg1P_len, e]; omega)]
  walk_at "pure"
  rw [plc_q (fun y => .int (nI ((idxP ys y).getD 0))) (by
    intro y hy
    obtain ⟨i, hi, rfl⟩ := List.mem_map.mp hy
    have hi2 : (i : Int) < s := by
      have := List.mem_range.mp hi
      rw [e] at this
      omega
    obtain ⟨j, hj⟩ := pm_idx h hi2
    show _ = PT.ret (some (PV.int (nI ((idxP ys (.int i)).getD 0))))
    walk_at "pure"
    rw [show qall ys flatP = true from pm_flat h, hj]
    (walk_at "pure") <;> rfl)]
  (walk_at "pure") <;> rfl
theorem inverse_eq [HasFn F n_inverse f_inverse] (hk : 1 ≤ k) {s : Int} {ys : List PV} (hs : s ≤ 100) (h : ys.Perm (rg1P s)) (w : Bool) : ∃ q, prun F Hn0 k n_inverse [mkS w ys] = .ret (.fz, .tup q) := by
  obtain ⟨k, rfl, _⟩ := up hk
  have hl := pm_len h
  have hn : (ys.length : Int) ≤ 100 := by omega
  have rep : repB (nI (qlen ys)) 1 = true := by
    unfold repB
    show (decide (0 ≤ ((ys.length : Nat) : Int)) && decide (((ys.length : Nat) : Int) < 100000) && fits (1 * (((ys.length : Nat) : Int)).toNat)) = true
    rw [decide_eq_true (by omega), decide_eq_true (by omega), fits_le' (by omega)]
    rfl
  have hrep : (repP (nI (qlen ys)) [PV.int 0]).length = ys.length := by
    show (List.replicate (((ys.length : Nat) : Int)).toNat [PV.int 0]).flatten.length = _
    rw [PyProof.Rows.lm_len_rep_flat]
    show (((ys.length : Nat) : Int)).toNat * 1 = _
    omega
  have loop : ∀ hv os, os.length = ys.length → Dr (forP (pexs (cf F k) l1_inverse) (.tup [2, 3]) (enumP 0 ys) [some (Md.fz, hv), some (Md.o1, PV.lst os), none, none]) 0 fun p => p.1 = .next ∧ ∃ os x2 x3, p.2 = [some (Md.fz, hv), some (Md.o1, PV.lst os), x2, x3] := by
    intro hv os hos
    refine Dr.mono (Dr.for (n := 0) (i := 0) (fun i env => ∃ os x2 x3, env = [some (Md.fz, hv), some (Md.o1, PV.lst os), x2, x3] ∧ os.length = ys.length) ⟨os, none, none, rfl, hos⟩ fun j x env hx hI => ?_) (by omega) fun p hp => ⟨hp.1, ?_⟩
    · obtain ⟨os, x2, x3, rfl, ho⟩ := hI
      rw [enumP_get] at hx
      cases ey : ys[j]? with
      | none => rw [ey] at hx; cases hx
      | some y =>
        rw [ey] at hx
        cases hx
        obtain ⟨i, rfl, hi⟩ := pm_ints h (List.mem_of_getElem? ey)
        refine ⟨_, rfl, ?_⟩
        conv => enter [1]; rw [l1_inverse]
        walk_at "pure"
        rw [show qix (qlen os) ((i : Nat) : Int) = some i from qix_nat (by show i < os.length; omega)]
        walk_at "pure"
        exact Dr.ret ⟨rfl, _, _, _, rfl, by rw [List.length_set]; exact ho⟩
    · obtain ⟨_, os, x2, x3, e, _⟩ := hp
      exact ⟨os, x2, x3, e⟩
  refine Exists.elim (Dr.ret_of (t := prun F Hn0 (k + 1) n_inverse [mkS w ys]) (P := fun r => ∃ q, r = (Md.fz, PV.tup q)) ?_) fun a ha => ?_
  · rw [run_inverse]
    cases w
    · walk_at "pure"
      rw [rep]
      walk_at "pure"
      have lp := loop (.lst ys) _ hrep
      generalize forP _ _ _ _ = t at lp ⊢
      apply Dr.ctx (m := 0) (t := t) lp
      · intro j k
        rfl
      · omega
      intro a ha
      obtain ⟨fl, env⟩ := a
      obtain ⟨rfl, os, x2, x3, rfl⟩ := ha
      walk_at "pure"
      exact Dr.ret ⟨_, rfl⟩
    · walk_at "pure"
      rw [rep]
      walk_at "pure"
      have lp := loop (.tup ys) _ hrep
      generalize forP _ _ _ _ = t at lp ⊢
      apply Dr.ctx (m := 0) (t := t) lp
      · intro j k
        rfl
      · omega
      intro a ha
      obtain ⟨fl, env⟩ := a
      obtain ⟨rfl, os, x2, x3, rfl⟩ := ha
      walk_at "pure"
      exact Dr.ret ⟨_, rfl⟩
  · obtain ⟨e, q, rfl⟩ := ha
    exact ⟨q, e⟩
end
end LP
end
section
set_option maxHeartbeats 4000000
/-! # slides, tested -/
namespace DI
open PySem L2
/-- a loop over items that are written out: one turn -/
def kForN (b : PEnv → PT PS) (tg : ITg) (xs : List PV) : PS → PT PS
  | (.next, env) => forP b tg xs env
  | (.cont, env) => forP b tg xs env
  | (.brk, env) => .ret (.next, env)
  | (.ret v, env) => .ret (.ret v, env)
  | (.exc x, env) => .ret (.exc x, env)
def kForB (b : PEnv → PT PS) (tg : ITg) (xs : List PV) : Option PEnv → PT PS
  | none => .stuck
  | some env => (b env).bind (kForN b tg xs)
theorem r_forc {b : PEnv → PT PS} {tg : ITg} {x : PV} {xs : List PV} {env : PEnv} : forP b tg (x :: xs) env = kForB b tg xs (bindP tg x env) := by
  rw [forP]
  cases bindP tg x env with
  | none => rfl
  | some env =>
    refine bcongr fun p => ?_
    obtain ⟨fl, e⟩ := p
    cases fl <;> rfl
end DI
namespace DI
open PySem L2
def lsMd : PV → Md
  | .tup _ => .o1
  | .lst _ => .o1
  | _ => .fz
/-- one of two texts -/
def isD (a b : Str) : PV → Bool
  | .str z => decide (z = a) || decide (z = b)
  | _ => false
theorem eqV_str (a b : Str) : eqV (.str a) (.str b) = decide (a = b) := rfl
theorem in_two {a b : Str} {v : PV} (ha : strOkB a = true) (hb : strOkB b = true) (ho : okV v = true) (hd : dep v < 24) : inAnyP v (.tup [.str a, .str b]) [.str a, .str b] = some (isD a b v) := by
  have deepCase : ∀ xs ys : List PV, ∀ w : PV, okV w = true → dep w < 24 → (∀ s, PyData.eqv (.str s) (toPy w) = false) → inPP w (.tup [.str a, .str b]) = some false := by
    intro xs ys w ho hd hne
    unfold inPP
    rw [pyP_ok deep w ho hd, pyP_ok deep (.tup [.str a, .str b]) (by show (strOkB a && (strOkB b && true)) = true; rw [ha, hb]; rfl) (by show 0 + 1 < 24; decide)]
    show some (PyData.eqv (.str a) (toPy w) || (PyData.eqv (.str b) (toPy w) || false)) = _
    rw [hne, hne]
    rfl
  cases v with
  | str z =>
    show some (eqV (.str a) (.str z) || (eqV (.str b) (.str z) || false)) = some (decide (z = a) || decide (z = b))
    rw [eqV_str, eqV_str, Bool.or_false, decide_eq_decide.mpr (eq_comm (a := a) (b := z)), decide_eq_decide.mpr (eq_comm (a := b) (b := z))]
  | non => rfl
  | bl _ => rfl
  | int _ => rfl
  | tup xs => exact deepCase xs xs (.tup xs) ho hd fun s => rfl
  | lst xs => exact deepCase xs xs (.lst xs) ho hd fun s => rfl
  | scr _ => cases ho
  | rng => cases ho
  | pr _ _ => cases ho
/-- where a passage begins, walked that way -/
def Pg.way (p : Pg) (d : Str) : Int := if d = LP.s_forward then p.a else p.b
/-- the room of an end -/
def Pg.side (p : Pg) (s : Str) : Int := if s = LP.s_start then p.a else p.b
/-- the listed value -/
def lstd : Nat → PV → PV
  | 0, v => v
  | n + 1, .tup xs => .lst (xs.map (lstd n))
  | n + 1, .lst xs => .lst (xs.map (lstd n))
  | _ + 1, v => v
theorem lstd_flat {v : PV} (h : flatP v = true) (n : Nat) : lstd n v = v := by
  cases n with
  | zero => rfl
  | succ n => cases v <;> first | rfl | cases h
end DI
local macro_rules | `(tactic| walk_at "pure") => `(tactic| conv => enter [1]; try simp (config := { maxSteps := 10000000 }) only [DI.kTup2, DI.kTup, DI.kLst2, DI.kLst, DI.kBin2, DI.kBin, DI.kNeg, DI.kBl, DI.kNot, DI.kCmp2, DI.kCmp, DI.kCh4, DI.kCh3, DI.kCh2, DI.kCh, DI.kAnd2, DI.kAnd, DI.kOr2, DI.kOr, DI.kNotE, DI.kIte2, DI.kIte, DI.kIx2, DI.kIx, DI.kSl3, DI.kSl2, DI.kSl, DI.kLr, DI.kIsi, DI.kCall2, DI.kCall, DI.kCons2, DI.kCons, DI.kOI, DI.kTru, DI.kKw4, DI.kKw3, DI.kKw2, DI.kKw1, DI.kKw, DI.kMt3, DI.kMt2, DI.kMt, DI.kT4, DI.kT3, DI.kT2, DI.kT1, DI.kTurn, DI.kLc2, DI.kLc, DI.kR1, DI.kR2b, DI.kR2, DI.kEn2, DI.kEn, DI.kSet2, DI.kSet, DI.kPop2, DI.kEnv, DI.kSetT3, DI.kSetT2, DI.kSetT, DI.kNx, DI.kSub4, DI.kSub3, DI.kSub2, DI.kSub, DI.kAug4, DI.kAug3, DI.kAug2, DI.kAug, DI.kRet2, DI.kRet, DI.kIf2, DI.kIf, DI.kFor2, DI.kFor, DI.kPar2, DI.kPar, DI.kSeq, DI.kIdx, DI.kApp3, DI.kApp, DI.kApp0, DI.kAp4, DI.kAp3, DI.kAp2, DI.kAp1, DI.kAp, DI.kMe4, DI.kMe3, DI.kMe2, DI.kMe, DI.kEx, DI.kZip4, DI.kZip3, DI.kZip2, DI.kZip, DI.kTest, DI.kPlc3, DI.kPlc2, DI.kMut2, DI.kMut, DI.kAppS, DI.kStS2, DI.kStS, DI.kPk, DI.newMdE, DI.ownL, DI.r_var, DI.r_cint, DI.r_cstr, DI.r_cbl, DI.r_cnon, DI.r_tup, DI.r_lst, DI.r_bin, DI.r_neg, DI.r_cmp, DI.r_chain, DI.r_and, DI.r_or, DI.r_not, DI.r_ite, DI.r_ix, DI.r_slice, DI.r_rev, DI.r_blt, DI.r_lr, DI.r_tr, DI.r_isi, DI.r_call, DI.r_nil, DI.r_cons, DI.r_onone, DI.r_osome, DI.r_cnone, DI.r_csome, DI.r_callK, DI.r_meth, DI.r_lc, DI.r_seq, DI.r_range1, DI.r_range2, DI.r_enum, DI.s_nil, DI.s_cons, DI.s_setT, DI.s_sub, DI.s_aug, DI.s_ite, DI.s_for, DI.s_par, DI.s_pass, DI.s_brk, DI.s_cont, DI.s_pop, DI.s_set_var, DI.s_ret_var, DI.s_set_cint, DI.s_ret_cint, DI.s_set_cstr, DI.s_ret_cstr, DI.s_set_cbl, DI.s_ret_cbl, DI.s_set_cnon, DI.s_ret_cnon, DI.s_set_tup, DI.s_ret_tup, DI.s_set_lst, DI.s_ret_lst, DI.s_set_bin, DI.s_ret_bin, DI.s_set_neg, DI.s_ret_neg, DI.s_set_cmp, DI.s_ret_cmp, DI.s_set_chain, DI.s_ret_chain, DI.s_set_and, DI.s_ret_and, DI.s_set_or, DI.s_ret_or, DI.s_set_not, DI.s_ret_not, DI.s_set_ite, DI.s_ret_ite, DI.s_set_ix, DI.s_ret_ix, DI.s_set_slice, DI.s_ret_slice, DI.s_set_rev, DI.s_ret_rev, DI.s_set_blt, DI.s_ret_blt, DI.s_set_lr, DI.s_ret_lr, DI.s_set_tr, DI.s_ret_tr, DI.s_set_isi, DI.s_ret_isi, DI.s_set_call, DI.s_ret_call, DI.s_set_callK, DI.s_ret_callK, DI.s_set_lc, DI.s_ret_lc, DI.s_set_upper, DI.s_ret_upper, DI.s_app, DI.s_app2, DI.s_insert, DI.s_popAt, DI.s_ex_call, DI.r_zip, DI.s_while, DI.r_plc, DI.fin_ret, DI.fin_next, DI.fin_exc, DI.frz1_n, DI.frz1_z, DI.frz1_s, DI.frz_n, DI.frz_c, DI.frzS_none, DI.frzS_fz, DI.frzS_b1, DI.frzS_b2, DI.frzS_o1t, DI.frzS_o1f, DI.frzS_o2t, DI.frzS_o2f, DI.varP_z, DI.varP_s, DI.set_z, DI.set_s, DI.atS_z, DI.atS_s, DI.ownB_e, DI.mutS_e, DI.appS_e, DI.setSubS_e, DI.e_var0, DI.e_var1, DI.e_var2, DI.e_tup, DI.e_lst, DI.e_bin, DI.e_neg, DI.e_cmp, DI.e_chain, DI.e_and, DI.e_or, DI.e_not, DI.e_ite, DI.e_ix0, DI.e_ix1, DI.e_ix2, DI.e_slice, DI.e_rev, DI.e_list, DI.e_tuple, DI.e_len, DI.e_all, DI.e_any, DI.e_abs, DI.e_int, DI.e_str, DI.e_repr, DI.e_min2, DI.e_max2, DI.e_lcm, DI.e_sorted, DI.e_lr, DI.e_tr, DI.e_isi, DI.e_call, DI.e_callK, DI.e_meth, DI.e_lc, DI.e_cint, DI.e_cstr, DI.e_cbl, DI.e_cnon, DI.e_nil, DI.e_cons, DI.e_onone, DI.e_osome, DI.e_seq, DI.e_range1, DI.e_range2, DI.e_enum, DI.e_zip, DI.wipe_n, DI.wipe_c, DI.lk_z, DI.lk_s, DI.pick_n, DI.pick_c, DI.mkS, DI.asTupP, DI.m_index, DI.newMd0, DI.movB0, DI.beqI, DI.bneI, DI.ownS, DI.binP, DI.itemsP, DI.cmpP, DI.truthP, DI.asBP, DI.itMd, DI.ixP, DI.sliceP, DI.revP, DI.tyP, DI.isiP, DI.rgP, DI.recvP, DI.augP, DI.stored, DI.litE, DI.allNew, DI.dispMd, DI.newE, DI.setEnvsP, DI.setEnvsM, DI.bindP, DI.rdMd, DI.stP, DI.seqP, DI.retMd, DI.Md.stB, DI.Md.cpB, DI.Md.own1, DI.Mth.listB, DI.flatP, DI.cf, DI.bI, DI.rgItemsP, DI.bltP, DI.bind_ret, DI.nox_ret, DI.resc_ret, DI.pif_true, DI.pif_false, DI.eqP_int, DI.eqP_bl, DI.eqP_bi, DI.eqP_non, DI.bind_stuck, DI.bind_draw, DI.nox_draw, DI.resc_draw, DI.resc_exc, DI.bind_exc, DI.popt_some, DI.popt_none, DI.plc_nil, DI.forP_nil, DI.enumP_nil, DI.enumP_cons, DI.zipP_nil, DI.zipP_cons, DI.len_q, DI.qlen_nil, DI.qlen_cons, DI.map_q, DI.qmap_nil, DI.qmap_cons, DI.app_q, DI.qapp_nil, DI.qapp_cons, DI.any_q, DI.qany_nil, DI.qany_cons, DI.all_q, DI.qall_nil, DI.qall_cons, DI.empty_q, DI.qempty_nil, DI.qempty_cons, DI.take_q, DI.drop_q, DI.rev_q, DI.blsP_nil, DI.blsP_cons, DI.intsP_nil, DI.intsP_cons, DI.at_q, DI.qat_0, DI.qat_1, DI.qat_2, DI.qat_3, DI.bls_true, DI.all_true, DI.imod_q, DI.idiv_q, DI.mut_append, DI.mut_insert, DI.qix_q, DI.ntI_q, DI.meth_upper, DI.repB_2_4, DI.repP_2, DI.repP_3, DI.fits_0, DI.fits_1, DI.fits_2, DI.fits_3, DI.fits_4, DI.fits_5, DI.fits_6, DI.fits_7, DI.fits_8, DI.fits_9, DI.fits_10, DI.fits_11, DI.fits_12, DI.fits_13, DI.fits_14, DI.fits_15, DI.fits_16, DI.fits_17, DI.fits_18, DI.fits_19, DI.fits_20, DI.fits_21, DI.fits_22, DI.fits_23, DI.fits_24, DI.fits_25, DI.fits_26, DI.fits_27, DI.fits_28, DI.fits_29, DI.fits_30, DI.fits_31, DI.fits_32, DI.fits_33, DI.fits_34, DI.fits_35, DI.fits_36, DI.fits_37, DI.fits_38, DI.fits_39, DI.fits_40, DI.fits_41, DI.fits_42, DI.fits_43, DI.fits_44, DI.fits_45, DI.fits_46, DI.fits_47, DI.fits_48, DI.fits_49, DI.fits_50, DI.fits_51, DI.fits_52, DI.fits_53, DI.fits_54, DI.fits_55, DI.fits_56, DI.fits_57, DI.fits_58, DI.fits_59, DI.fits_60, DI.fits_61, DI.fits_62, DI.fits_63, DI.fits_64, DI.nI_l, DI.ltI_t, DI.ltI_f, DI.leI_t, DI.leI_f, DI.nzI_t, DI.smI_t, DI.rgB_t, DI.rg1B_t, DI.rg2B_t, not_false_eq_true, not_true_eq_false, ne_eq, DI.ty_NoneType_bool, DI.ty_NoneType_int, DI.ty_NoneType_str, DI.ty_NoneType_tuple, DI.ty_NoneType_list, DI.ty_bool_bool, DI.ty_bool_int, DI.ty_bool_str, DI.ty_bool_tuple, DI.ty_bool_list, DI.ty_int_bool, DI.ty_int_int, DI.ty_int_str, DI.ty_int_tuple, DI.ty_int_list, DI.ty_str_bool, DI.ty_str_int, DI.ty_str_str, DI.ty_str_tuple, DI.ty_str_list, DI.ty_tuple_bool, DI.ty_tuple_int, DI.ty_tuple_str, DI.ty_tuple_tuple, DI.ty_tuple_list, DI.ty_list_bool, DI.ty_list_int, DI.ty_list_str, DI.ty_list_tuple, DI.ty_list_list, Nat.reduceAdd, Nat.reduceLT, Nat.reduceLeDiff, Nat.reduceEqDiff, Int.reduceAdd, Int.reduceSub, Int.reduceMul, Int.reduceNeg, Int.reduceEq, Int.reduceLT, Int.reduceLE, Nat.reducePow, decide_true, decide_false, Bool.not_true, Bool.not_false, Bool.and_true, Bool.true_and, Bool.and_false, Bool.false_and, Bool.or_true, Bool.true_or, Bool.or_false, Bool.false_or, Bool.cond_true, Bool.cond_false, Option.map_some, Option.map_none, id_eq, reduceCtorEq, Bool.true_beq, Bool.false_beq, Bool.not_not, LP.eq_s_backward_s_backward, LP.eq_s_backward_s_end, LP.eq_s_backward_s_x20, LP.eq_s_backward_s_start, LP.eq_s_backward_s_forward, LP.eq_s_backward_s_x, LP.eq_s_end_s_backward, LP.eq_s_end_s_end, LP.eq_s_end_s_x20, LP.eq_s_end_s_start, LP.eq_s_end_s_forward, LP.eq_s_end_s_x, LP.eq_s_x20_s_backward, LP.eq_s_x20_s_end, LP.eq_s_x20_s_x20, LP.eq_s_x20_s_start, LP.eq_s_x20_s_forward, LP.eq_s_x20_s_x, LP.eq_s_start_s_backward, LP.eq_s_start_s_end, LP.eq_s_start_s_x20, LP.eq_s_start_s_start, LP.eq_s_start_s_forward, LP.eq_s_start_s_x, LP.eq_s_forward_s_backward, LP.eq_s_forward_s_end, LP.eq_s_forward_s_x20, LP.eq_s_forward_s_start, LP.eq_s_forward_s_forward, LP.eq_s_forward_s_x, LP.eq_s_x_s_backward, LP.eq_s_x_s_end, LP.eq_s_x_s_x20, LP.eq_s_x_s_start, LP.eq_s_x_s_forward, LP.eq_s_x_s_x, LP.b_is_plain_int, LP.b_is_permutation, LP.b_law_pick, LP.b_law_same, LP.b_law_shuffle, LP.b_law_replaced, LP.b_law_mutate, LP.b_law_integer, LP.b_law_is_permutation, LP.b_is_number_below, LP.b_is_fitting_passage, LP.b_is_house, LP.b_law_permutation, LP.b_law_passage, LP.b_law_house, LP.b_law_is_passage, LP.b_law_is_house, LP.b_inverse, LP.b_crossing, LP.b_end_room, LP.b_is_slide, LP.b_law_listed, LP.b_law_inverse, LP.b_law_ends, LP.b_law_is_slide, LP.b_law_slides, DI.kForN, DI.kForB, DI.lsMd])
namespace LP
open PySem L2 DI
section
variable {F : Tab} {k : Nat}
theorem eq_str {a b : Str} (ha : strOkB a = true) (hb : strOkB b = true) : eqP (.str a) (.str b) = some (decide (a = b)) := by
  rw [eq_ok (v := .str a) (u := .str b) ha (by show 0 < 24; decide) hb (by show 0 < 24; decide)]
  show some (a == b) = _
  rw [Bool.eq_iff_iff.mpr (show (a == b) = true ↔ decide (a = b) = true by rw [beq_iff_eq, decide_eq_true_iff])]
theorem crossing_eq [HasFn F n_inverse f_inverse] [HasFn F n_crossing f_crossing] (hk : 2 ≤ k) {r s : Int} {p : Pg} (hs : s ≤ 100) (hp : p.Ok r s) {d : Str} (hd : strOkB d = true) (w : Bool) : ∃ u q, prun F Hn0 k n_crossing [p.pv w, .str d] = .ret (.fz, .tup [.int (p.way d), u, q]) := by
  obtain ⟨k, rfl, hk1⟩ := up hk
  obtain ⟨q, hq⟩ := inverse_eq (F := F) hk1 hs hp.pm w
  rw [run_crossing]
  by_cases e : d = s_forward
  · refine ⟨.int p.b, mkS w p.ys, ?_⟩
    unfold Pg.pv Pg.way
    rw [if_pos e]
    cases w <;> (walk_at "pure") <;> rw [eq_str hd (by decide +kernel), decide_eq_true e] <;> (walk_at "pure") <;> rfl
  · refine ⟨.int p.a, .tup q, ?_⟩
    unfold Pg.pv Pg.way
    rw [if_neg e]
    cases w <;> (walk_at "pure") <;> rw [eq_str hd (by decide +kernel), decide_eq_false e] <;> (walk_at "pure")
    · have hq : prun F Hn0 k n_inverse [.lst p.ys] = _ := hq
      rw [hq]
      (walk_at "pure") <;> rfl
    · have hq : prun F Hn0 k n_inverse [.tup p.ys] = _ := hq
      rw [hq]
      (walk_at "pure") <;> rfl
theorem lends_eq [HasFn F n__law_inverse f_law_inverse] [HasFn F n__law_ends f_law_ends] (hk : 2 ≤ k) {r s : Int} {p : Pg} (hs : s ≤ 100) (hp : p.Ok r s) {d : Str} (hd : strOkB d = true) : ∃ u q, prun F Hn0 k n__law_ends [p.pv true, .str d] = .ret (.fz, .tup [.int (p.way d), u, q]) := by
  obtain ⟨k, rfl, hk1⟩ := up hk
  obtain ⟨q, hq⟩ := linverse_eq (F := F) hk1 hs hp.pm
  rw [run_lends]
  by_cases e : d = s_forward
  · refine ⟨.int p.b, .tup p.ys, ?_⟩
    unfold Pg.pv Pg.way
    rw [if_pos e]
    walk_at "pure"
    rw [eq_str hd (by decide +kernel), decide_eq_true e]
    (walk_at "pure") <;> rfl
  · refine ⟨.int p.a, .tup q, ?_⟩
    unfold Pg.pv Pg.way
    rw [if_neg e]
    walk_at "pure"
    rw [eq_str hd (by decide +kernel), decide_eq_false e]
    walk_at "pure"
    rw [hq]
    (walk_at "pure") <;> rfl
theorem end_room_eq [HasFn F n_end_room f_end_room] (hk : 1 ≤ k) {p : Pg} {d : Str} (hd : strOkB d = true) (w : Bool) : prun F Hn0 k n_end_room [p.pv w, .str d] = .ret (.fz, .int (p.side d)) := by
  obtain ⟨k, rfl, hk1⟩ := up hk
  rw [run_end_room]
  unfold Pg.pv Pg.side
  by_cases e : d = s_start
  · rw [if_pos e]
    cases w <;> (walk_at "pure") <;> rw [eq_str hd (by decide +kernel), decide_eq_true e] <;> (walk_at "pure") <;> rfl
  · rw [if_neg e]
    cases w <;> (walk_at "pure") <;> rw [eq_str hd (by decide +kernel), decide_eq_false e] <;> (walk_at "pure") <;> rfl
theorem run_listed [h : HasFn F n__law_listed f_law_listed] (a : PV) : prun F Hn0 (k + 1) n__law_listed [a] = (pexs (cf F k) b_law_listed [some (.fz, a), none]).nox.bind fin := run_code0 h rfl rfl rfl
theorem listed_eq [HasFn F n__law_listed f_law_listed] : ∀ (n k : Nat) (v : PV), okV v = true → dep v < n → dep v < k → costV v ≤ 100000 → prun F Hn0 k n__law_listed [v] = .ret (lsMd v, lstd n v)
  | 0, k, v, _, h, _, _ => by omega
  | n + 1, 0, v, _, _, h, _ => by omega
  | n + 1, k + 1, v, ho, hn, hk, hc => by
    have items : ∀ xs : List PV, okVs xs = true → deps xs < n → deps xs < k → costVs xs ≤ 100000 → ∀ x ∈ xs, prun F Hn0 k n__law_listed [x] = .ret (lsMd x, lstd n x) := fun xs h1 h2 h3 h4 x hx =>
      listed_eq n k x (okVs_iff.mp h1 x hx) (by have := mem_dep hx; omega) (by have := mem_dep hx; omega) (by have := mem_cost hx; omega)
    rw [run_listed]
    cases v with
    | tup xs =>
      have hl : xs.length ≤ costVs xs := len_cost
      have hc : costVs xs + 3 ≤ 100000 := hc
      have hn : deps xs + 1 < n + 1 := hn
      have hk : deps xs + 1 < k + 1 := hk
      have it := items xs ho (by omega) (by omega) (by omega)
      walk_at "pure"
      rw [fits_le' (n := qlen xs) (show xs.length ≤ _ by omega)]
      walk_at "pure"
      rw [plc_q (lstd n) (by
        intro x hx
        walk_at "pure"
        rw [it x hx]
        cases x <;> (walk_at "pure") <;> rfl)]
      (walk_at "pure") <;> rfl
    | lst xs =>
      have hl : xs.length ≤ costVs xs := len_cost
      have hc : costVs xs + 3 ≤ 100000 := hc
      have hn : deps xs + 1 < n + 1 := hn
      have hk : deps xs + 1 < k + 1 := hk
      have it := items xs ho (by omega) (by omega) (by omega)
      walk_at "pure"
      rw [fits_le' (n := qlen xs) (show xs.length ≤ _ by omega)]
      walk_at "pure"
      rw [plc_q (lstd n) (by
        intro x hx
        walk_at "pure"
        rw [it x hx]
        cases x <;> (walk_at "pure") <;> rfl)]
      (walk_at "pure") <;> rfl
    | scr _ => cases ho
    | rng => cases ho
    | pr _ _ => cases ho
    | _ => (walk_at "pure") <;> rfl
end
end LP
end
section
set_option maxHeartbeats 8000000
/-! # what a slide is -/
namespace DI
open PySem L2
def slOk (ps : List Pg) (a : Int) (b : Str) (c : Int) (d : Str) : Bool := match ps[a.toNat]?, ps[c.toNat]? with
  | some x, some y => decide (x.side b = y.way d)
  | _, _ => false
def isSl (ps : List Pg) : PV → Bool
  | .tup [.int a, .str b, .int c, .str d] => decide (0 ≤ c) && (decide (c < a) && (decide (a < (ps.length : Int)) && (isD LP.s_end LP.s_start (.str b) && (isD LP.s_backward LP.s_forward (.str d) && slOk ps a b c d))))
  | _ => false
theorem isSl_true {ps : List Pg} {v : PV} (h : isSl ps v = true) : ∃ a b c d, v = .tup [.int a, .str b, .int c, .str d] ∧ 0 ≤ c ∧ c < a ∧ a < (ps.length : Int) ∧ isD LP.s_end LP.s_start (.str b) = true ∧ isD LP.s_backward LP.s_forward (.str d) = true := by
  unfold isSl at h
  split at h
  · rename_i a b c d
    obtain ⟨h1, h⟩ := Bool.and_eq_true_iff.mp h
    obtain ⟨h2, h⟩ := Bool.and_eq_true_iff.mp h
    obtain ⟨h3, h⟩ := Bool.and_eq_true_iff.mp h
    obtain ⟨h4, h⟩ := Bool.and_eq_true_iff.mp h
    obtain ⟨h5, h⟩ := Bool.and_eq_true_iff.mp h
    exact ⟨a, b, c, d, rfl, of_decide_eq_true h1, of_decide_eq_true h2, of_decide_eq_true h3, h4, h5⟩
  · cases h
theorem isSl_no {ps : List Pg} {v : PV} (h : ∀ a b c d, v = .tup [.int a, .str b, .int c, .str d] → 0 ≤ c → c < a → a < (ps.length : Int) → isD LP.s_end LP.s_start (.str b) = true → isD LP.s_backward LP.s_forward (.str d) = true → False) : isSl ps v = false := by
  cases e : isSl ps v with
  | false => rfl
  | true =>
    obtain ⟨a, b, c, d, h1, h2, h3, h4, h5, h6⟩ := isSl_true e
    exact (h a b c d h1 h2 h3 h4 h5 h6).elim
theorem isD_comm (a b : Str) (v : PV) : isD a b v = isD b a v := by
  cases v <;> first | rfl | exact Bool.or_comm _ _
theorem isD_true {a b : Str} {v : PV} (h : isD a b v = true) : v = .str a ∨ v = .str b := by
  cases v with
  | str z =>
    rcases Bool.or_eq_true_iff.mp (show (decide (z = a) || decide (z = b)) = true from h) with h | h
    · exact .inl (congrArg PV.str (of_decide_eq_true h))
    · exact .inr (congrArg PV.str (of_decide_eq_true h))
  | _ => cases h
theorem four {xs : List PV} (h : xs.length = 4) : ∃ a b c d, xs = [a, b, c, d] := by
  match xs with
  | [a, b, c, d] => exact ⟨a, b, c, d, rfl⟩
theorem len4 {xs : List PV} (h : xs.length ≠ 4) : decide (nI (qlen xs) = 4) = false := decide_eq_false (by show ((xs.length : Nat) : Int) ≠ 4; omega)
theorem isSl_yes {ps : List Pg} {i j : Nat} {x y : Str} {p q : Pg} (hj : (j : Int) < i) (hp : ps[i]? = some p) (hq : ps[j]? = some q) (hx : isD LP.s_end LP.s_start (.str x) = true) (hy : isD LP.s_backward LP.s_forward (.str y) = true) :
    isSl ps (.tup [.int i, .str x, .int j, .str y]) = decide (p.side x = q.way y) := by
  have hl := (List.getElem?_eq_some_iff.mp hp).1
  show (decide (0 ≤ (j : Int)) && (decide ((j : Int) < i) && (decide ((i : Int) < (ps.length : Int)) && (isD LP.s_end LP.s_start (.str x) && (isD LP.s_backward LP.s_forward (.str y) && slOk ps i x j y))))) = _
  rw [decide_eq_true (by omega), decide_eq_true hj, decide_eq_true (by omega), hx, hy]
  show slOk ps i x j y = _
  unfold slOk
  rw [show ((i : Nat) : Int).toNat = i from rfl, show ((j : Nat) : Int).toNat = j from rfl, hp, hq]
theorem at_pg {ps : List Pg} {i : Nat} (h : i < ps.length) (w : Bool) : ∃ p, ps[i]? = some p ∧ qat (qmap (Pg.pv w) ps) ((i : Nat) : Int) = some (p.pv w) := by
  refine ⟨ps[i], List.getElem?_eq_getElem h, ?_⟩
  rw [qat_nat]
  show (ps.map (Pg.pv w))[i]? = _
  rw [List.getElem?_map, List.getElem?_eq_getElem h]
  rfl
end DI
local macro_rules | `(tactic| walk_at "pure") => `(tactic| conv => enter [1]; try simp (config := { maxSteps := 10000000 }) only [DI.kTup2, DI.kTup, DI.kLst2, DI.kLst, DI.kBin2, DI.kBin, DI.kNeg, DI.kBl, DI.kNot, DI.kCmp2, DI.kCmp, DI.kCh4, DI.kCh3, DI.kCh2, DI.kCh, DI.kAnd2, DI.kAnd, DI.kOr2, DI.kOr, DI.kNotE, DI.kIte2, DI.kIte, DI.kIx2, DI.kIx, DI.kSl3, DI.kSl2, DI.kSl, DI.kLr, DI.kIsi, DI.kCall2, DI.kCall, DI.kCons2, DI.kCons, DI.kOI, DI.kTru, DI.kKw4, DI.kKw3, DI.kKw2, DI.kKw1, DI.kKw, DI.kMt3, DI.kMt2, DI.kMt, DI.kT4, DI.kT3, DI.kT2, DI.kT1, DI.kTurn, DI.kLc2, DI.kLc, DI.kR1, DI.kR2b, DI.kR2, DI.kEn2, DI.kEn, DI.kSet2, DI.kSet, DI.kPop2, DI.kEnv, DI.kSetT3, DI.kSetT2, DI.kSetT, DI.kNx, DI.kSub4, DI.kSub3, DI.kSub2, DI.kSub, DI.kAug4, DI.kAug3, DI.kAug2, DI.kAug, DI.kRet2, DI.kRet, DI.kIf2, DI.kIf, DI.kFor2, DI.kFor, DI.kPar2, DI.kPar, DI.kSeq, DI.kIdx, DI.kApp3, DI.kApp, DI.kApp0, DI.kAp4, DI.kAp3, DI.kAp2, DI.kAp1, DI.kAp, DI.kMe4, DI.kMe3, DI.kMe2, DI.kMe, DI.kEx, DI.kZip4, DI.kZip3, DI.kZip2, DI.kZip, DI.kTest, DI.kPlc3, DI.kPlc2, DI.kMut2, DI.kMut, DI.kAppS, DI.kStS2, DI.kStS, DI.kPk, DI.newMdE, DI.ownL, DI.r_var, DI.r_cint, DI.r_cstr, DI.r_cbl, DI.r_cnon, DI.r_tup, DI.r_lst, DI.r_bin, DI.r_neg, DI.r_cmp, DI.r_chain, DI.r_and, DI.r_or, DI.r_not, DI.r_ite, DI.r_ix, DI.r_slice, DI.r_rev, DI.r_blt, DI.r_lr, DI.r_tr, DI.r_isi, DI.r_call, DI.r_nil, DI.r_cons, DI.r_onone, DI.r_osome, DI.r_cnone, DI.r_csome, DI.r_callK, DI.r_meth, DI.r_lc, DI.r_seq, DI.r_range1, DI.r_range2, DI.r_enum, DI.s_nil, DI.s_cons, DI.s_setT, DI.s_sub, DI.s_aug, DI.s_ite, DI.s_for, DI.s_par, DI.s_pass, DI.s_brk, DI.s_cont, DI.s_pop, DI.s_set_var, DI.s_ret_var, DI.s_set_cint, DI.s_ret_cint, DI.s_set_cstr, DI.s_ret_cstr, DI.s_set_cbl, DI.s_ret_cbl, DI.s_set_cnon, DI.s_ret_cnon, DI.s_set_tup, DI.s_ret_tup, DI.s_set_lst, DI.s_ret_lst, DI.s_set_bin, DI.s_ret_bin, DI.s_set_neg, DI.s_ret_neg, DI.s_set_cmp, DI.s_ret_cmp, DI.s_set_chain, DI.s_ret_chain, DI.s_set_and, DI.s_ret_and, DI.s_set_or, DI.s_ret_or, DI.s_set_not, DI.s_ret_not, DI.s_set_ite, DI.s_ret_ite, DI.s_set_ix, DI.s_ret_ix, DI.s_set_slice, DI.s_ret_slice, DI.s_set_rev, DI.s_ret_rev, DI.s_set_blt, DI.s_ret_blt, DI.s_set_lr, DI.s_ret_lr, DI.s_set_tr, DI.s_ret_tr, DI.s_set_isi, DI.s_ret_isi, DI.s_set_call, DI.s_ret_call, DI.s_set_callK, DI.s_ret_callK, DI.s_set_lc, DI.s_ret_lc, DI.s_set_upper, DI.s_ret_upper, DI.s_app, DI.s_app2, DI.s_insert, DI.s_popAt, DI.s_ex_call, DI.r_zip, DI.s_while, DI.r_plc, DI.fin_ret, DI.fin_next, DI.fin_exc, DI.frz1_n, DI.frz1_z, DI.frz1_s, DI.frz_n, DI.frz_c, DI.frzS_none, DI.frzS_fz, DI.frzS_b1, DI.frzS_b2, DI.frzS_o1t, DI.frzS_o1f, DI.frzS_o2t, DI.frzS_o2f, DI.varP_z, DI.varP_s, DI.set_z, DI.set_s, DI.atS_z, DI.atS_s, DI.ownB_e, DI.mutS_e, DI.appS_e, DI.setSubS_e, DI.e_var0, DI.e_var1, DI.e_var2, DI.e_tup, DI.e_lst, DI.e_bin, DI.e_neg, DI.e_cmp, DI.e_chain, DI.e_and, DI.e_or, DI.e_not, DI.e_ite, DI.e_ix0, DI.e_ix1, DI.e_ix2, DI.e_slice, DI.e_rev, DI.e_list, DI.e_tuple, DI.e_len, DI.e_all, DI.e_any, DI.e_abs, DI.e_int, DI.e_str, DI.e_repr, DI.e_min2, DI.e_max2, DI.e_lcm, DI.e_sorted, DI.e_lr, DI.e_tr, DI.e_isi, DI.e_call, DI.e_callK, DI.e_meth, DI.e_lc, DI.e_cint, DI.e_cstr, DI.e_cbl, DI.e_cnon, DI.e_nil, DI.e_cons, DI.e_onone, DI.e_osome, DI.e_seq, DI.e_range1, DI.e_range2, DI.e_enum, DI.e_zip, DI.wipe_n, DI.wipe_c, DI.lk_z, DI.lk_s, DI.pick_n, DI.pick_c, DI.mkS, DI.asTupP, DI.m_index, DI.newMd0, DI.movB0, DI.beqI, DI.bneI, DI.ownS, DI.binP, DI.itemsP, DI.cmpP, DI.truthP, DI.asBP, DI.itMd, DI.ixP, DI.sliceP, DI.revP, DI.tyP, DI.isiP, DI.rgP, DI.recvP, DI.augP, DI.stored, DI.litE, DI.allNew, DI.dispMd, DI.newE, DI.setEnvsP, DI.setEnvsM, DI.bindP, DI.rdMd, DI.stP, DI.seqP, DI.retMd, DI.Md.stB, DI.Md.cpB, DI.Md.own1, DI.Mth.listB, DI.flatP, DI.cf, DI.bI, DI.rgItemsP, DI.bltP, DI.bind_ret, DI.nox_ret, DI.resc_ret, DI.pif_true, DI.pif_false, DI.eqP_int, DI.eqP_bl, DI.eqP_bi, DI.eqP_non, DI.bind_stuck, DI.bind_draw, DI.nox_draw, DI.resc_draw, DI.resc_exc, DI.bind_exc, DI.popt_some, DI.popt_none, DI.plc_nil, DI.forP_nil, DI.enumP_nil, DI.enumP_cons, DI.zipP_nil, DI.zipP_cons, DI.len_q, DI.qlen_nil, DI.qlen_cons, DI.map_q, DI.qmap_nil, DI.qmap_cons, DI.app_q, DI.qapp_nil, DI.qapp_cons, DI.any_q, DI.qany_nil, DI.qany_cons, DI.all_q, DI.qall_nil, DI.qall_cons, DI.empty_q, DI.qempty_nil, DI.qempty_cons, DI.take_q, DI.drop_q, DI.rev_q, DI.blsP_nil, DI.blsP_cons, DI.intsP_nil, DI.intsP_cons, DI.at_q, DI.qat_0, DI.qat_1, DI.qat_2, DI.qat_3, DI.bls_true, DI.all_true, DI.imod_q, DI.idiv_q, DI.mut_append, DI.mut_insert, DI.qix_q, DI.ntI_q, DI.meth_upper, DI.repB_2_4, DI.repP_2, DI.repP_3, DI.fits_0, DI.fits_1, DI.fits_2, DI.fits_3, DI.fits_4, DI.fits_5, DI.fits_6, DI.fits_7, DI.fits_8, DI.fits_9, DI.fits_10, DI.fits_11, DI.fits_12, DI.fits_13, DI.fits_14, DI.fits_15, DI.fits_16, DI.fits_17, DI.fits_18, DI.fits_19, DI.fits_20, DI.fits_21, DI.fits_22, DI.fits_23, DI.fits_24, DI.fits_25, DI.fits_26, DI.fits_27, DI.fits_28, DI.fits_29, DI.fits_30, DI.fits_31, DI.fits_32, DI.fits_33, DI.fits_34, DI.fits_35, DI.fits_36, DI.fits_37, DI.fits_38, DI.fits_39, DI.fits_40, DI.fits_41, DI.fits_42, DI.fits_43, DI.fits_44, DI.fits_45, DI.fits_46, DI.fits_47, DI.fits_48, DI.fits_49, DI.fits_50, DI.fits_51, DI.fits_52, DI.fits_53, DI.fits_54, DI.fits_55, DI.fits_56, DI.fits_57, DI.fits_58, DI.fits_59, DI.fits_60, DI.fits_61, DI.fits_62, DI.fits_63, DI.fits_64, DI.nI_l, DI.ltI_t, DI.ltI_f, DI.leI_t, DI.leI_f, DI.nzI_t, DI.smI_t, DI.rgB_t, DI.rg1B_t, DI.rg2B_t, if_true, if_false, not_false_eq_true, not_true_eq_false, ne_eq, DI.ty_NoneType_bool, DI.ty_NoneType_int, DI.ty_NoneType_str, DI.ty_NoneType_tuple, DI.ty_NoneType_list, DI.ty_bool_bool, DI.ty_bool_int, DI.ty_bool_str, DI.ty_bool_tuple, DI.ty_bool_list, DI.ty_int_bool, DI.ty_int_int, DI.ty_int_str, DI.ty_int_tuple, DI.ty_int_list, DI.ty_str_bool, DI.ty_str_int, DI.ty_str_str, DI.ty_str_tuple, DI.ty_str_list, DI.ty_tuple_bool, DI.ty_tuple_int, DI.ty_tuple_str, DI.ty_tuple_tuple, DI.ty_tuple_list, DI.ty_list_bool, DI.ty_list_int, DI.ty_list_str, DI.ty_list_tuple, DI.ty_list_list, Nat.reduceAdd, Nat.reduceLT, Nat.reduceLeDiff, Nat.reduceEqDiff, Int.reduceAdd, Int.reduceSub, Int.reduceMul, Int.reduceNeg, Int.reduceEq, Int.reduceLT, Int.reduceLE, Nat.reducePow, decide_true, decide_false, Bool.not_true, Bool.not_false, Bool.and_true, Bool.true_and, Bool.and_false, Bool.false_and, Bool.or_true, Bool.true_or, Bool.or_false, Bool.false_or, Bool.cond_true, Bool.cond_false, Option.map_some, Option.map_none, id_eq, reduceCtorEq, Bool.true_beq, Bool.false_beq, Bool.not_not, LP.eq_s_backward_s_backward, LP.eq_s_backward_s_end, LP.eq_s_backward_s_x20, LP.eq_s_backward_s_start, LP.eq_s_backward_s_forward, LP.eq_s_backward_s_x, LP.eq_s_end_s_backward, LP.eq_s_end_s_end, LP.eq_s_end_s_x20, LP.eq_s_end_s_start, LP.eq_s_end_s_forward, LP.eq_s_end_s_x, LP.eq_s_x20_s_backward, LP.eq_s_x20_s_end, LP.eq_s_x20_s_x20, LP.eq_s_x20_s_start, LP.eq_s_x20_s_forward, LP.eq_s_x20_s_x, LP.eq_s_start_s_backward, LP.eq_s_start_s_end, LP.eq_s_start_s_x20, LP.eq_s_start_s_start, LP.eq_s_start_s_forward, LP.eq_s_start_s_x, LP.eq_s_forward_s_backward, LP.eq_s_forward_s_end, LP.eq_s_forward_s_x20, LP.eq_s_forward_s_start, LP.eq_s_forward_s_forward, LP.eq_s_forward_s_x, LP.eq_s_x_s_backward, LP.eq_s_x_s_end, LP.eq_s_x_s_x20, LP.eq_s_x_s_start, LP.eq_s_x_s_forward, LP.eq_s_x_s_x, LP.b_is_plain_int, LP.b_is_permutation, LP.b_law_pick, LP.b_law_same, LP.b_law_shuffle, LP.b_law_replaced, LP.b_law_mutate, LP.b_law_integer, LP.b_law_is_permutation, LP.b_is_number_below, LP.b_is_fitting_passage, LP.b_is_house, LP.b_law_permutation, LP.b_law_passage, LP.b_law_house, LP.b_law_is_passage, LP.b_law_is_house, LP.b_inverse, LP.b_crossing, LP.b_end_room, LP.b_is_slide, LP.b_law_listed, LP.b_law_inverse, LP.b_law_ends, LP.b_law_is_slide, LP.b_law_slides, DI.kForN, DI.kForB, DI.lsMd])
namespace LP
open PySem L2 DI
section
variable {F : Tab} {k : Nat}
theorem run_lis_slide [h : HasFn F n__law_is_slide f_law_is_slide] (a b : PV) : prun F Hn0 (k + 1) n__law_is_slide [a, b] = (pexs (cf F k) b_law_is_slide [some (.fz, a), some (.fz, b), none, none, none, none, none]).nox.bind fin := run_code0 h rfl rfl rfl
theorem run_is_slide [h : HasFn F n_is_slide f_is_slide] (a b : PV) : prun F Hn0 (k + 1) n_is_slide [a, b] = (pexs (cf F k) b_is_slide [some (.fz, a), some (.fz, b), none, none, none, none, none]).nox.bind fin := run_code0 h rfl rfl rfl
theorem lis_slide_eq [HasFn F n__law_inverse f_law_inverse] [HasFn F n__law_ends f_law_ends] [HasFn F n__law_is_slide f_law_is_slide] (hk : 3 ≤ k) {r s : Int} {ps : List Pg} (hs : s ≤ 100) (hps : ∀ p ∈ ps, p.Ok r s) {v : PV} (ho : okV v = true) (hd : dep v < 20) :
    prun F Hn0 k n__law_is_slide [netV true r s ps, v] = .ret (.fz, .bl (isSl ps v)) := by
  obtain ⟨k, rfl, hk1⟩ := up hk
  rw [run_lis_slide]
  unfold netV
  have lq : nI (qlen (qmap (Pg.pv true) ps)) = ((ps.length : Nat) : Int) := congrArg nI (qlen_qmap _ _)
  cases v with
  | tup xs =>
    by_cases h4 : xs.length = 4
    · obtain ⟨a, b, c, d, rfl⟩ := four h4
      have oa : okV a = true := okVs_iff.mp ho a (by simp)
      have ob : okV b = true := okVs_iff.mp ho b (by simp)
      have oc : okV c = true := okVs_iff.mp ho c (by simp)
      have od : okV d = true := okVs_iff.mp ho d (by simp)
      walk_at "pure"
      rw [r_forc, l1_law_is_slide]
      walk_at "pure"
      cases a with
      | int i =>
        walk_at "pure"
        by_cases i0 : 0 ≤ i
        rotate_left
        · rw [leI_f i0, isSl_no fun a b c d e h1 h2 h3 h5 h6 => by cases e; omega]
          (walk_at "pure") <;> rfl
        rw [leI_t i0]
        walk_at "pure"
        rw [lq]
        by_cases i1 : i < (ps.length : Int)
        rotate_left
        · rw [ltI_f i1, isSl_no fun a b c d e h1 h2 h3 h5 h6 => by cases e; omega]
          (walk_at "pure") <;> rfl
        rw [ltI_t i1]
        walk_at "pure"
        rw [r_forc]
        walk_at "pure"
        cases c with
        | int j =>
          walk_at "pure"
          by_cases j0 : 0 ≤ j
          rotate_left
          · rw [leI_f j0, isSl_no fun a b c d e h1 h2 h3 h5 h6 => by cases e; omega]
            (walk_at "pure") <;> rfl
          rw [leI_t j0]
          walk_at "pure"
          try rw [lq]
          by_cases j1 : j < (ps.length : Int)
          rotate_left
          · rw [ltI_f j1, isSl_no fun a b c d e h1 h2 h3 h5 h6 => by cases e; omega]
            (walk_at "pure") <;> rfl
          rw [ltI_t j1]
          walk_at "pure"
          by_cases ij : i ≤ j
          · rw [leI_t ij, isSl_no fun a b c d e h1 h2 h3 h5 h6 => by cases e; omega]
            (walk_at "pure") <;> rfl
          rw [leI_f ij]
          walk_at "pure"
          cases b with
          | str x =>
            walk_at "pure"
            cases d with
            | str y =>
              walk_at "pure"
              have ox : strOkB x = true := (okVs_iff.mp ho (.str x) (by simp) : okV (.str x) = true)
              have oy : strOkB y = true := (okVs_iff.mp ho (.str y) (by simp) : okV (.str y) = true)
              rw [in_two (by decide +kernel) (by decide +kernel) (show okV (.str x) = true from ox) (show 0 < 24 by decide), isD_comm]
              walk_at "pure"
              cases hx : isD s_end s_start (.str x) with
              | false =>
                rw [isSl_no fun a b c d e h1 h2 h3 h5 h6 => by cases e; rw [hx] at h5; cases h5]
                (walk_at "pure") <;> rfl
              | true =>
                walk_at "pure"
                rw [in_two (by decide +kernel) (by decide +kernel) (show okV (.str y) = true from oy) (show 0 < 24 by decide), isD_comm]
                walk_at "pure"
                cases hy : isD s_backward s_forward (.str y) with
                | false =>
                  rw [isSl_no fun a b c d e h1 h2 h3 h5 h6 => by cases e; rw [hy] at h6; cases h6]
                  (walk_at "pure") <;> rfl
                | true =>
                  obtain ⟨i, rfl⟩ : ∃ n : Nat, i = n := ⟨i.toNat, by omega⟩
                  obtain ⟨j, rfl⟩ : ∃ n : Nat, j = n := ⟨j.toNat, by omega⟩
                  obtain ⟨p, hp, qp⟩ := at_pg (ps := ps) (i := i) (by omega) true
                  obtain ⟨q, hq, qq⟩ := at_pg (ps := ps) (i := j) (by omega) true
                  obtain ⟨u, z, le⟩ := lends_eq (F := F) (k := k) (by omega) hs (hps q (List.mem_of_getElem? hq)) oy
                  rw [isSl_yes (by omega) hp hq hx hy]
                  walk_at "pure"
                  rw [qp]
                  walk_at "pure"
                  rcases isD_true hx with e | e
                  · cases e
                    rw [show p.side s_end = p.b from rfl]
                    walk_at "pure"
                    rw [show p.pv true = .tup [.int p.a, .int p.b, .tup p.ys] from rfl]
                    walk_at "pure"
                    rw [qq]
                    walk_at "pure"
                    rw [le]
                    (walk_at "pure") <;> rfl
                  · cases e
                    rw [show p.side s_start = p.a from rfl]
                    walk_at "pure"
                    rw [show p.pv true = .tup [.int p.a, .int p.b, .tup p.ys] from rfl]
                    walk_at "pure"
                    rw [qq]
                    walk_at "pure"
                    rw [le]
                    (walk_at "pure") <;> rfl
            | rng => cases od
            | pr _ _ => cases od
            | _ =>
              rw [isSl_no fun a b c d e h1 h2 h3 h5 h6 => by cases e]
              (walk_at "pure") <;> rfl
          | rng => cases ob
          | pr _ _ => cases ob
          | _ =>
            rw [isSl_no fun a b c d e h1 h2 h3 h5 h6 => by cases e]
            (walk_at "pure") <;> rfl
        | scr _ => cases oc
        | rng => cases oc
        | pr _ _ => cases oc
        | _ =>
          rw [isSl_no fun a b c d e h1 h2 h3 h5 h6 => by cases e]
          (walk_at "pure") <;> rfl
      | scr _ => cases oa
      | rng => cases oa
      | pr _ _ => cases oa
      | _ =>
        rw [isSl_no fun a b c d e h1 h2 h3 h5 h6 => by cases e]
        (walk_at "pure") <;> rfl
    · rw [isSl_no fun a b c d e _ _ _ _ _ => by cases e; exact h4 rfl]
      walk_at "pure"
      rw [len4 h4]
      (walk_at "pure") <;> rfl
  | scr _ => cases ho
  | rng => cases ho
  | pr _ _ => cases ho
  | _ => (walk_at "pure") <;> rfl
theorem is_slide_eq [HasFn F n_is_plain_int f_is_plain_int] [HasFn F n_is_number_below f_is_number_below] [HasFn F n_inverse f_inverse] [HasFn F n_crossing f_crossing] [HasFn F n_end_room f_end_room] [HasFn F n_is_slide f_is_slide] (hk : 3 ≤ k) {r s : Int} {ps : List Pg} (hs : s ≤ 100) (hps : ∀ p ∈ ps, p.Ok r s) {v : PV} (ho : okV v = true) (hd : dep v < 20) (w : Bool) :
    prun F Hn0 k n_is_slide [netV w r s ps, v] = .ret (.fz, .bl (isSl ps v)) := by
  obtain ⟨k, rfl, hk1⟩ := up hk
  rw [run_is_slide]
  unfold netV
  have lq : nI (qlen (qmap (Pg.pv w) ps)) = ((ps.length : Nat) : Int) := congrArg nI (qlen_qmap _ _)
  cases v with
  | tup xs =>
    by_cases h4 : xs.length = 4
    · obtain ⟨a, b, c, d, rfl⟩ := four h4
      have oa : okV a = true := okVs_iff.mp ho a (by simp)
      have ob : okV b = true := okVs_iff.mp ho b (by simp)
      have oc : okV c = true := okVs_iff.mp ho c (by simp)
      have od : okV d = true := okVs_iff.mp ho d (by simp)
      have dd : deps [a, b, c, d] + 1 < 20 := hd
      have db : dep b < 24 := by have := mem_dep (xs := [a, b, c, d]) (x := b) (by simp); omega
      have dd2 : dep d < 24 := by have := mem_dep (xs := [a, b, c, d]) (x := d) (by simp); omega
      have pa := plain_eq (F := F) (k := k) (by omega) oa
      walk_at "pure"
      rw [in_two (by decide +kernel) (by decide +kernel) ob db]
      walk_at "pure"
      cases hx : isD s_end s_start b with
      | false =>
        rw [isSl_no fun a b c d e h1 h2 h3 h5 h6 => by cases e; rw [hx] at h5; cases h5]
        (walk_at "pure") <;> rfl
      | true =>
        walk_at "pure"
        rw [in_two (by decide +kernel) (by decide +kernel) od dd2]
        walk_at "pure"
        cases hy : isD s_backward s_forward d with
        | false =>
          rw [isSl_no fun a b c d e h1 h2 h3 h5 h6 => by cases e; rw [hy] at h6; cases h6]
          (walk_at "pure") <;> rfl
        | true =>
          walk_at "pure"
          rw [pa]
          cases ha : isI a with
          | false =>
            rw [isSl_no fun a b c d e h1 h2 h3 h5 h6 => by cases e; cases ha]
            (walk_at "pure") <;> rfl
          | true =>
            cases a with
            | int i =>
              walk_at "pure"
              rw [number_eq (k := k) (by omega) oc]
              cases hc : isN i c with
              | false =>
                rw [isSl_no fun a b c d e h1 h2 h3 h5 h6 => by cases e; rw [isN_ok h1 h2] at hc; cases hc]
                (walk_at "pure") <;> rfl
              | true =>
                obtain ⟨j, rfl, j0, j1⟩ := isN_of hc
                obtain ⟨i, rfl⟩ : ∃ n : Nat, i = n := ⟨i.toNat, by omega⟩
                obtain ⟨j, rfl⟩ : ∃ n : Nat, j = n := ⟨j.toNat, by omega⟩
                have dx : ∃ x, b = .str x := by rcases isD_true hx with e | e <;> exact ⟨_, e⟩
                have dy : ∃ y, d = .str y := by rcases isD_true hy with e | e <;> exact ⟨_, e⟩
                obtain ⟨x, rfl⟩ := dx
                obtain ⟨y, rfl⟩ := dy
                by_cases il : (ps.length : Int) ≤ (i : Int)
                · rw [isSl_no fun a b c d e h1 h2 h3 h5 h6 => by cases e; omega]
                  cases w <;> (walk_at "pure") <;> rw [lq, leI_t il] <;> (walk_at "pure") <;> rfl
                · obtain ⟨p, hp, qp⟩ := at_pg (ps := ps) (i := i) (by omega) w
                  obtain ⟨q, hq, qq⟩ := at_pg (ps := ps) (i := j) (by omega) w
                  obtain ⟨u, z, cr⟩ := crossing_eq (F := F) (k := k) (by omega) hs (hps q (List.mem_of_getElem? hq)) od w
                  have er := end_room_eq (F := F) (k := k) (by omega) (p := p) (d := x) ob w
                  rw [isSl_yes (by omega) hp hq hx hy]
                  cases w <;> (walk_at "pure") <;> rw [lq, leI_f il] <;> (walk_at "pure") <;> rw [qq] <;> (walk_at "pure") <;> rw [cr] <;> (walk_at "pure") <;> rw [qp] <;> (walk_at "pure") <;> rw [er] <;> (walk_at "pure") <;> rfl
            | _ => cases ha
    · rw [isSl_no fun a b c d e _ _ _ _ _ => by cases e; exact h4 rfl]
      walk_at "pure"
      rw [len4 h4]
      (walk_at "pure") <;> rfl
  | scr _ => cases ho
  | rng => cases ho
  | pr _ _ => cases ho
  | _ => (walk_at "pure") <;> rfl
end
end LP
end
section
set_option maxHeartbeats 8000000
local macro_rules | `(tactic| walk_at "pure") => `(tactic| conv => enter [1]; try simp (config := { maxSteps := 10000000 }) only [DI.kTup2, DI.kTup, DI.kLst2, DI.kLst, DI.kBin2, DI.kBin, DI.kNeg, DI.kBl, DI.kNot, DI.kCmp2, DI.kCmp, DI.kCh4, DI.kCh3, DI.kCh2, DI.kCh, DI.kAnd2, DI.kAnd, DI.kOr2, DI.kOr, DI.kNotE, DI.kIte2, DI.kIte, DI.kIx2, DI.kIx, DI.kSl3, DI.kSl2, DI.kSl, DI.kLr, DI.kIsi, DI.kCall2, DI.kCall, DI.kCons2, DI.kCons, DI.kOI, DI.kTru, DI.kKw4, DI.kKw3, DI.kKw2, DI.kKw1, DI.kKw, DI.kMt3, DI.kMt2, DI.kMt, DI.kT4, DI.kT3, DI.kT2, DI.kT1, DI.kTurn, DI.kLc2, DI.kLc, DI.kR1, DI.kR2b, DI.kR2, DI.kEn2, DI.kEn, DI.kSet2, DI.kSet, DI.kPop2, DI.kEnv, DI.kSetT3, DI.kSetT2, DI.kSetT, DI.kNx, DI.kSub4, DI.kSub3, DI.kSub2, DI.kSub, DI.kAug4, DI.kAug3, DI.kAug2, DI.kAug, DI.kRet2, DI.kRet, DI.kIf2, DI.kIf, DI.kFor2, DI.kFor, DI.kPar2, DI.kPar, DI.kSeq, DI.kIdx, DI.kApp3, DI.kApp, DI.kApp0, DI.kAp4, DI.kAp3, DI.kAp2, DI.kAp1, DI.kAp, DI.kMe4, DI.kMe3, DI.kMe2, DI.kMe, DI.kEx, DI.kZip4, DI.kZip3, DI.kZip2, DI.kZip, DI.kTest, DI.kPlc3, DI.kPlc2, DI.kMut2, DI.kMut, DI.kAppS, DI.kStS2, DI.kStS, DI.kPk, DI.newMdE, DI.ownL, DI.r_var, DI.r_cint, DI.r_cstr, DI.r_cbl, DI.r_cnon, DI.r_tup, DI.r_lst, DI.r_bin, DI.r_neg, DI.r_cmp, DI.r_chain, DI.r_and, DI.r_or, DI.r_not, DI.r_ite, DI.r_ix, DI.r_slice, DI.r_rev, DI.r_blt, DI.r_lr, DI.r_tr, DI.r_isi, DI.r_call, DI.r_nil, DI.r_cons, DI.r_onone, DI.r_osome, DI.r_cnone, DI.r_csome, DI.r_callK, DI.r_meth, DI.r_lc, DI.r_seq, DI.r_range1, DI.r_range2, DI.r_enum, DI.s_nil, DI.s_cons, DI.s_setT, DI.s_sub, DI.s_aug, DI.s_ite, DI.s_for, DI.s_par, DI.s_pass, DI.s_brk, DI.s_cont, DI.s_pop, DI.s_set_var, DI.s_ret_var, DI.s_set_cint, DI.s_ret_cint, DI.s_set_cstr, DI.s_ret_cstr, DI.s_set_cbl, DI.s_ret_cbl, DI.s_set_cnon, DI.s_ret_cnon, DI.s_set_tup, DI.s_ret_tup, DI.s_set_lst, DI.s_ret_lst, DI.s_set_bin, DI.s_ret_bin, DI.s_set_neg, DI.s_ret_neg, DI.s_set_cmp, DI.s_ret_cmp, DI.s_set_chain, DI.s_ret_chain, DI.s_set_and, DI.s_ret_and, DI.s_set_or, DI.s_ret_or, DI.s_set_not, DI.s_ret_not, DI.s_set_ite, DI.s_ret_ite, DI.s_set_ix, DI.s_ret_ix, DI.s_set_slice, DI.s_ret_slice, DI.s_set_rev, DI.s_ret_rev, DI.s_set_blt, DI.s_ret_blt, DI.s_set_lr, DI.s_ret_lr, DI.s_set_tr, DI.s_ret_tr, DI.s_set_isi, DI.s_ret_isi, DI.s_set_call, DI.s_ret_call, DI.s_set_callK, DI.s_ret_callK, DI.s_set_lc, DI.s_ret_lc, DI.s_set_upper, DI.s_ret_upper, DI.s_app, DI.s_app2, DI.s_insert, DI.s_popAt, DI.s_ex_call, DI.r_zip, DI.s_while, DI.r_plc, DI.fin_ret, DI.fin_next, DI.fin_exc, DI.frz1_n, DI.frz1_z, DI.frz1_s, DI.frz_n, DI.frz_c, DI.frzS_none, DI.frzS_fz, DI.frzS_b1, DI.frzS_b2, DI.frzS_o1t, DI.frzS_o1f, DI.frzS_o2t, DI.frzS_o2f, DI.varP_z, DI.varP_s, DI.set_z, DI.set_s, DI.atS_z, DI.atS_s, DI.ownB_e, DI.mutS_e, DI.appS_e, DI.setSubS_e, DI.e_var0, DI.e_var1, DI.e_var2, DI.e_tup, DI.e_lst, DI.e_bin, DI.e_neg, DI.e_cmp, DI.e_chain, DI.e_and, DI.e_or, DI.e_not, DI.e_ite, DI.e_ix0, DI.e_ix1, DI.e_ix2, DI.e_slice, DI.e_rev, DI.e_list, DI.e_tuple, DI.e_len, DI.e_all, DI.e_any, DI.e_abs, DI.e_int, DI.e_str, DI.e_repr, DI.e_min2, DI.e_max2, DI.e_lcm, DI.e_sorted, DI.e_lr, DI.e_tr, DI.e_isi, DI.e_call, DI.e_callK, DI.e_meth, DI.e_lc, DI.e_cint, DI.e_cstr, DI.e_cbl, DI.e_cnon, DI.e_nil, DI.e_cons, DI.e_onone, DI.e_osome, DI.e_seq, DI.e_range1, DI.e_range2, DI.e_enum, DI.e_zip, DI.wipe_n, DI.wipe_c, DI.lk_z, DI.lk_s, DI.pick_n, DI.pick_c, DI.mkS, DI.asTupP, DI.m_index, DI.newMd0, DI.movB0, DI.beqI, DI.bneI, DI.ownS, DI.binP, DI.itemsP, DI.cmpP, DI.truthP, DI.asBP, DI.itMd, DI.ixP, DI.sliceP, DI.revP, DI.tyP, DI.isiP, DI.rgP, DI.recvP, DI.augP, DI.stored, DI.litE, DI.allNew, DI.dispMd, DI.newE, DI.setEnvsP, DI.setEnvsM, DI.bindP, DI.rdMd, DI.stP, DI.seqP, DI.retMd, DI.Md.stB, DI.Md.cpB, DI.Md.own1, DI.Mth.listB, DI.flatP, DI.cf, DI.bI, DI.rgItemsP, DI.bltP, DI.bind_ret, DI.nox_ret, DI.resc_ret, DI.pif_true, DI.pif_false, DI.eqP_int, DI.eqP_bl, DI.eqP_bi, DI.eqP_non, DI.bind_stuck, DI.bind_draw, DI.nox_draw, DI.resc_draw, DI.resc_exc, DI.bind_exc, DI.popt_some, DI.popt_none, DI.plc_nil, DI.forP_nil, DI.enumP_nil, DI.enumP_cons, DI.zipP_nil, DI.zipP_cons, DI.len_q, DI.qlen_nil, DI.qlen_cons, DI.map_q, DI.qmap_nil, DI.qmap_cons, DI.app_q, DI.qapp_nil, DI.qapp_cons, DI.any_q, DI.qany_nil, DI.qany_cons, DI.all_q, DI.qall_nil, DI.qall_cons, DI.empty_q, DI.qempty_nil, DI.qempty_cons, DI.take_q, DI.drop_q, DI.rev_q, DI.blsP_nil, DI.blsP_cons, DI.intsP_nil, DI.intsP_cons, DI.at_q, DI.qat_0, DI.qat_1, DI.qat_2, DI.qat_3, DI.bls_true, DI.all_true, DI.imod_q, DI.idiv_q, DI.mut_append, DI.mut_insert, DI.qix_q, DI.ntI_q, DI.meth_upper, DI.repB_2_4, DI.repP_2, DI.repP_3, DI.fits_0, DI.fits_1, DI.fits_2, DI.fits_3, DI.fits_4, DI.fits_5, DI.fits_6, DI.fits_7, DI.fits_8, DI.fits_9, DI.fits_10, DI.fits_11, DI.fits_12, DI.fits_13, DI.fits_14, DI.fits_15, DI.fits_16, DI.fits_17, DI.fits_18, DI.fits_19, DI.fits_20, DI.fits_21, DI.fits_22, DI.fits_23, DI.fits_24, DI.fits_25, DI.fits_26, DI.fits_27, DI.fits_28, DI.fits_29, DI.fits_30, DI.fits_31, DI.fits_32, DI.fits_33, DI.fits_34, DI.fits_35, DI.fits_36, DI.fits_37, DI.fits_38, DI.fits_39, DI.fits_40, DI.fits_41, DI.fits_42, DI.fits_43, DI.fits_44, DI.fits_45, DI.fits_46, DI.fits_47, DI.fits_48, DI.fits_49, DI.fits_50, DI.fits_51, DI.fits_52, DI.fits_53, DI.fits_54, DI.fits_55, DI.fits_56, DI.fits_57, DI.fits_58, DI.fits_59, DI.fits_60, DI.fits_61, DI.fits_62, DI.fits_63, DI.fits_64, DI.nI_l, DI.ltI_t, DI.ltI_f, DI.leI_t, DI.leI_f, DI.nzI_t, DI.smI_t, DI.rgB_t, DI.rg1B_t, DI.rg2B_t, if_true, if_false, not_false_eq_true, not_true_eq_false, ne_eq, DI.ty_NoneType_bool, DI.ty_NoneType_int, DI.ty_NoneType_str, DI.ty_NoneType_tuple, DI.ty_NoneType_list, DI.ty_bool_bool, DI.ty_bool_int, DI.ty_bool_str, DI.ty_bool_tuple, DI.ty_bool_list, DI.ty_int_bool, DI.ty_int_int, DI.ty_int_str, DI.ty_int_tuple, DI.ty_int_list, DI.ty_str_bool, DI.ty_str_int, DI.ty_str_str, DI.ty_str_tuple, DI.ty_str_list, DI.ty_tuple_bool, DI.ty_tuple_int, DI.ty_tuple_str, DI.ty_tuple_tuple, DI.ty_tuple_list, DI.ty_list_bool, DI.ty_list_int, DI.ty_list_str, DI.ty_list_tuple, DI.ty_list_list, Nat.reduceAdd, Nat.reduceLT, Nat.reduceLeDiff, Nat.reduceEqDiff, Int.reduceAdd, Int.reduceSub, Int.reduceMul, Int.reduceNeg, Int.reduceEq, Int.reduceLT, Int.reduceLE, Nat.reducePow, decide_true, decide_false, Bool.not_true, Bool.not_false, Bool.and_true, Bool.true_and, Bool.and_false, Bool.false_and, Bool.or_true, Bool.true_or, Bool.or_false, Bool.false_or, Bool.cond_true, Bool.cond_false, Option.map_some, Option.map_none, id_eq, reduceCtorEq, Bool.true_beq, Bool.false_beq, Bool.not_not, LP.eq_s_backward_s_backward, LP.eq_s_backward_s_end, LP.eq_s_backward_s_x20, LP.eq_s_backward_s_start, LP.eq_s_backward_s_forward, LP.eq_s_backward_s_x, LP.eq_s_end_s_backward, LP.eq_s_end_s_end, LP.eq_s_end_s_x20, LP.eq_s_end_s_start, LP.eq_s_end_s_forward, LP.eq_s_end_s_x, LP.eq_s_x20_s_backward, LP.eq_s_x20_s_end, LP.eq_s_x20_s_x20, LP.eq_s_x20_s_start, LP.eq_s_x20_s_forward, LP.eq_s_x20_s_x, LP.eq_s_start_s_backward, LP.eq_s_start_s_end, LP.eq_s_start_s_x20, LP.eq_s_start_s_start, LP.eq_s_start_s_forward, LP.eq_s_start_s_x, LP.eq_s_forward_s_backward, LP.eq_s_forward_s_end, LP.eq_s_forward_s_x20, LP.eq_s_forward_s_start, LP.eq_s_forward_s_forward, LP.eq_s_forward_s_x, LP.eq_s_x_s_backward, LP.eq_s_x_s_end, LP.eq_s_x_s_x20, LP.eq_s_x_s_start, LP.eq_s_x_s_forward, LP.eq_s_x_s_x, LP.b_is_plain_int, LP.b_is_permutation, LP.b_law_pick, LP.b_law_same, LP.b_law_shuffle, LP.b_law_replaced, LP.b_law_mutate, LP.b_law_integer, LP.b_law_is_permutation, LP.b_is_number_below, LP.b_is_fitting_passage, LP.b_is_house, LP.b_law_permutation, LP.b_law_passage, LP.b_law_house, LP.b_law_is_passage, LP.b_law_is_house, LP.b_inverse, LP.b_crossing, LP.b_end_room, LP.b_is_slide, LP.b_law_listed, LP.b_law_inverse, LP.b_law_ends, LP.b_law_is_slide, LP.b_law_slides, DI.kForN, DI.kForB, DI.lsMd])
/-! # all slides, as the law lists them -/
namespace LP
open PySem L2 DI
section
variable {F : Tab} {k : Nat}
theorem run_lslides [h : HasFn F n__law_slides f_law_slides] (a b : PV) : prun F Hn0 (k + 1) n__law_slides [a, b] = (pexs (cf F k) b_law_slides [some (.fz, a), some (.fz, b), none, none, none, none]).nox.bind fin := run_code0 h rfl rfl rfl
/-- a slide of the list -/
def SlN (v : PV) : Prop := Nc 9 8 1 160 v ∧ ∃ xs, v = .tup xs
theorem slN {m j : Nat} {x y : Str} (hm : m ≤ 9) (hj : j ≤ 9) (hx : x = s_end ∨ x = s_start) (hy : y = s_backward ∨ y = s_forward) : SlN (.tup [.int m, .str x, .int j, .str y]) := by
  have sx : Nc 9 8 0 52 (.str x) := by
    rcases hx with rfl | rfl <;> exact ⟨by decide +kernel, by decide, by decide +kernel⟩
  have sy : Nc 9 8 0 82 (.str y) := by
    rcases hy with rfl | rfl <;> exact ⟨by decide +kernel, by decide, by decide +kernel⟩
  refine ⟨?_, _, rfl⟩
  exact (Ncs.tup (M := 9) (L := 8) (d := 0) (c := 4 + 2 + (52 + 2 + (4 + 2 + (82 + 2 + 0)))) (.cons (c1 := 4) (int_nc (by omega) (by omega) (Nat.le_refl _)) (.cons sx (.cons (c1 := 4) (int_nc (by omega) (by omega) (Nat.le_refl _)) (.cons sy .nil))))).mono (Nat.le_refl _) (Nat.le_refl _) (by omega) (by omega)
theorem lslides_dr [HasFn F n__law_inverse f_law_inverse] [HasFn F n__law_ends f_law_ends] [HasFn F n__law_is_slide f_law_is_slide] [HasFn F n__law_slides f_law_slides] (hk : 4 ≤ k) {r s : Int} {ps : List Pg} (hs : s ≤ 100) (hps : ∀ p ∈ ps, p.Ok r s) {m : Nat} (hm : m ≤ 9) :
    Dr (prun F Hn0 k n__law_slides [netV true r s ps, .int m]) 0 fun q => ∃ ys, q = (.o1, .lst ys) ∧ ys.length ≤ 36 ∧ ∀ y ∈ ys, SlN y := by
  obtain ⟨k, rfl, hk1⟩ := up hk
  rw [run_lslides]
  obtain ⟨net, hnet⟩ : ∃ v, v = netV true r s ps := ⟨_, rfl⟩
  have lis : ∀ v : PV, okV v = true → dep v < 20 → prun F Hn0 k n__law_is_slide [net, v] = .ret (.fz, .bl (isSl ps v)) := by
    intro v h1 h2
    rw [hnet, lis_slide_eq (k := k) (by omega) hs hps h1 h2]
  rw [← hnet]
  have mem2 : ∀ {a b : Str} {j : Nat} {x : PV}, [PV.str a, .str b][j]? = some x → ∃ z, x = .str z ∧ (z = a ∨ z = b) := by
    intro a b j x h
    rcases List.mem_cons.mp (List.mem_of_getElem? h) with h | h
    · exact ⟨a, h, .inl rfl⟩
    · rcases List.mem_cons.mp h with h | h
      · exact ⟨b, h, .inr rfl⟩
      · cases h
  obtain ⟨L3, hL3⟩ : ∃ L : List PV, L = [PV.str s_backward, PV.str s_forward] := ⟨_, rfl⟩
  obtain ⟨L1, hL1⟩ : ∃ L : List PV, L = [PV.str s_end, PV.str s_start] := ⟨_, rfl⟩
  have len3 : L3.length = 2 := by rw [hL3]; rfl
  have len1 : L1.length = 2 := by rw [hL1]; rfl
  have mem3 : ∀ {j : Nat} {x : PV}, L3[j]? = some x → ∃ z, x = .str z ∧ (z = s_backward ∨ z = s_forward) := by
    intro j x h
    rw [hL3] at h
    exact mem2 h
  have mem1 : ∀ {j : Nat} {x : PV}, L1[j]? = some x → ∃ z, x = .str z ∧ (z = s_end ∨ z = s_start) := by
    intro j x h
    rw [hL1] at h
    exact mem2 h
  have l3 : ∀ (found : List PV) (x : Str) (j : Nat) (x5 : Slot), (x = s_end ∨ x = s_start) → j ≤ 9 → found.length ≤ 1000 → (∀ y ∈ found, SlN y) →
      Dr (forP (pexs (cf F k) l3_law_slides) (ITg.name 5) L3 [some (Md.fz, net), some (Md.fz, PV.int m), some (Md.o1, PV.lst found), some (Md.fz, PV.str x), some (Md.fz, PV.int j), x5]) 0
        fun p => p.1 = PFl.next ∧ ∃ found' x5', p.2 = [some (Md.fz, net), some (Md.fz, PV.int m), some (Md.o1, PV.lst found'), some (Md.fz, PV.str x), some (Md.fz, PV.int j), x5'] ∧ found'.length ≤ found.length + 2 ∧ ∀ y ∈ found', SlN y := by
    intro found x j x5 hx hj hl hf
    refine Dr.mono (Dr.for (n := 0) (i := 0) (fun i env => ∃ found' x5', env = [some (Md.fz, net), some (Md.fz, PV.int m), some (Md.o1, PV.lst found'), some (Md.fz, PV.str x), some (Md.fz, PV.int j), x5'] ∧ found'.length ≤ found.length + i ∧ i ≤ 2 ∧ ∀ y ∈ found', SlN y) ⟨found, x5, rfl, Nat.le_refl _, by omega, hf⟩ fun i y env hy hI => ?_) (by omega) fun p hp => ⟨hp.1, ?_⟩
    · obtain ⟨found', x5', rfl, hl', hi, hf'⟩ := hI
      obtain ⟨z, rfl, hz⟩ := mem3 hy
      have hlt := (List.getElem?_eq_some_iff.mp hy).1
      have hlt : i < 2 := len3 ▸ hlt
      refine ⟨_, rfl, ?_⟩
      have sn := slN (m := m) (j := j) hm hj hx hz
      conv => enter [1]; rw [l3_law_slides]
      walk_at "pure"
      rw [lis _ (sn.1.ok (by decide)) (by have := sn.1.dep; omega)]
      generalize isSl ps _ = b
      cases b with
      | false =>
        walk_at "pure"
        exact Dr.ret ⟨rfl, _, _, rfl, by omega, by omega, hf'⟩
      | true =>
        walk_at "pure"
        rw [fits_le' (n := qlen found' + 1) (show found'.length + 1 ≤ _ by omega)]
        walk_at "pure"
        exact Dr.ret ⟨rfl, _, _, rfl, by show (found' ++ [_]).length ≤ _; rw [List.length_append, List.length_singleton]; omega, by omega, fun y hy => by
          rcases List.mem_append.mp (show y ∈ found' ++ [_] from hy) with hy | hy
          · exact hf' y hy
          · exact List.mem_singleton.mp hy ▸ sn⟩
    · obtain ⟨_, found', x5', e, h1, _, h2⟩ := hp
      rw [len3] at h1
      exact ⟨found', x5', e, h1, h2⟩
  have l2 : ∀ (found : List PV) (x : Str) (x4 x5 : Slot), (x = s_end ∨ x = s_start) → found.length ≤ 900 → (∀ y ∈ found, SlN y) →
      Dr (forP (pexs (cf F k) l2_law_slides) (ITg.name 4) (rg1P m) [some (Md.fz, net), some (Md.fz, PV.int m), some (Md.o1, PV.lst found), some (Md.fz, PV.str x), x4, x5]) 0
        fun p => p.1 = PFl.next ∧ ∃ found' x4' x5', p.2 = [some (Md.fz, net), some (Md.fz, PV.int m), some (Md.o1, PV.lst found'), some (Md.fz, PV.str x), x4', x5'] ∧ found'.length ≤ found.length + 18 ∧ ∀ y ∈ found', SlN y := by
    intro found x x4 x5 hx hl hf
    refine Dr.mono (Dr.for (n := 0) (i := 0) (fun i env => ∃ found' x4' x5', env = [some (Md.fz, net), some (Md.fz, PV.int m), some (Md.o1, PV.lst found'), some (Md.fz, PV.str x), x4', x5'] ∧ found'.length ≤ found.length + 2 * i ∧ i ≤ 9 ∧ ∀ y ∈ found', SlN y) ⟨found, x4, x5, rfl, Nat.le_refl _, by omega, hf⟩ fun i y env hy hI => ?_) (by omega) fun p hp => ⟨hp.1, ?_⟩
    · obtain ⟨found', x4', x5', rfl, hl', hi, hf'⟩ := hI
      have hlt := (List.getElem?_eq_some_iff.mp hy).1
      rw [rg1P_len] at hlt
      obtain ⟨j, hj, rfl⟩ := List.mem_map.mp (List.mem_of_getElem? hy)
      have hj := List.mem_range.mp hj
      refine ⟨_, rfl, ?_⟩
      conv => enter [1]; rw [l2_law_slides]
      walk_at "pure"
      rw [← hL3]
      have q := l3 found' x j x5' hx (by omega) (by omega) hf'
      generalize forP _ _ _ _ = t at q ⊢
      apply Dr.ctx (m := 0) (t := t) q
      · intro j k
        rfl
      · omega
      intro a ha
      obtain ⟨fl, env⟩ := a
      obtain ⟨rfl, f2, x52, rfl, h1, h2⟩ := ha
      walk_at "pure"
      exact Dr.ret ⟨rfl, _, _, _, rfl, by omega, by omega, h2⟩
    · obtain ⟨_, found', x4', x5', e, h1, _, h2⟩ := hp
      rw [rg1P_len] at h1
      exact ⟨found', x4', x5', e, by omega, h2⟩
  have l1 : Dr (forP (pexs (cf F k) l1_law_slides) (ITg.name 3) L1 [some (Md.fz, net), some (Md.fz, PV.int m), some (Md.o1, PV.lst []), none, none, none]) 0
        fun p => p.1 = PFl.next ∧ ∃ found' x3' x4' x5', p.2 = [some (Md.fz, net), some (Md.fz, PV.int m), some (Md.o1, PV.lst found'), x3', x4', x5'] ∧ found'.length ≤ 36 ∧ ∀ y ∈ found', SlN y := by
    refine Dr.mono (Dr.for (n := 0) (i := 0) (fun i env => ∃ found' x3' x4' x5', env = [some (Md.fz, net), some (Md.fz, PV.int m), some (Md.o1, PV.lst found'), x3', x4', x5'] ∧ found'.length ≤ 18 * i ∧ i ≤ 2 ∧ ∀ y ∈ found', SlN y) ⟨[], none, none, none, rfl, Nat.le_refl _, by omega, fun y h => by cases h⟩ fun i y env hy hI => ?_) (by omega) fun p hp => ⟨hp.1, ?_⟩
    · obtain ⟨found', x3', x4', x5', rfl, hl', hi, hf'⟩ := hI
      obtain ⟨z, rfl, hz⟩ := mem1 hy
      have hlt : i < 2 := len1 ▸ (List.getElem?_eq_some_iff.mp hy).1
      refine ⟨_, rfl, ?_⟩
      conv => enter [1]; rw [l1_law_slides]
      walk_at "pure"
      rw [rg1B_ok (by omega) (by omega)]
      walk_at "pure"
      have q := l2 found' z x4' x5' hz (by omega) hf'
      generalize forP _ _ _ _ = t at q ⊢
      apply Dr.ctx (m := 0) (t := t) q
      · intro j k
        rfl
      · omega
      intro a ha
      obtain ⟨fl, env⟩ := a
      obtain ⟨rfl, f2, x42, x52, rfl, h1, h2⟩ := ha
      walk_at "pure"
      exact Dr.ret ⟨rfl, _, _, _, _, rfl, by omega, by omega, h2⟩
    · obtain ⟨_, found', x3', x4', x5', e, h1, _, h2⟩ := hp
      rw [len1] at h1
      exact ⟨found', x3', x4', x5', e, h1, h2⟩
  walk_at "pure"
  rw [← hL1]
  generalize forP _ _ _ _ = t at l1 ⊢
  apply Dr.ctx (m := 0) (t := t) l1
  · intro j k
    rfl
  · omega
  intro a ha
  obtain ⟨fl, env⟩ := a
  obtain ⟨rfl, f2, x3, x4, x5, rfl, h1, h2⟩ := ha
  walk_at "pure"
  exact Dr.ret ⟨_, rfl, h1, h2⟩
end
end LP
end
section
namespace LawK11
open PySem L2 PySem.Spec DI
open PyProof.Rows hiding St
/-! ### the text -/
def s_Start : Str := "Start"
def s_lead : Str := "lead"
def n__law_check : Str := "_law_check"
def n__law_box : Str := "_law_box"
def topS (i : Nat) : Stmt := PySem.Challenge.pw_elderways_k11_is_slide.main.body.getD i (.Pass ⟨0, 0, 0, 0⟩)
abbrev s_is_plain_int : Stmt := topS 1
def b_is_plain_int : ISs :=
  LP.b_is_plain_int
def d_is_plain_int : Df := ⟨"is_plain_int", .code ["value"] 1 b_is_plain_int, s_is_plain_int, ["value"], ["value"], b_is_plain_int⟩
abbrev s_inverse : Stmt := topS 2
def b_inverse : ISs :=
  LP.b_inverse
def d_inverse : Df := ⟨"inverse", .code ["permutation"] 4 b_inverse, s_inverse, ["permutation"], ["permutation", "origins", "origin", "place"], b_inverse⟩
abbrev s_is_number_below : Stmt := topS 5
def b_is_number_below : ISs :=
  LP.b_is_number_below
def d_is_number_below : Df := ⟨"is_number_below", .code ["limit", "value"] 2 b_is_number_below, s_is_number_below, ["limit", "value"], ["limit", "value"], b_is_number_below⟩
abbrev s_crossing : Stmt := topS 6
def b_crossing : ISs :=
  LP.b_crossing
def d_crossing : Df := ⟨"crossing", .code ["passage", "direction"] 5 b_crossing, s_crossing, ["passage", "direction"], ["passage", "direction", "start", "end", "permutation"], b_crossing⟩
abbrev s_end_room : Stmt := topS 9
def b_end_room : ISs :=
  LP.b_end_room
def d_end_room : Df := ⟨"end_room", .code ["passage", "side"] 2 b_end_room, s_end_room, ["passage", "side"], ["passage", "side"], b_end_room⟩
abbrev s_is_slide : Stmt := topS 10
def b_is_slide : ISs :=
  LP.b_is_slide
def d_is_slide : Df := ⟨"is_slide", .code ["house", "value"] 7 b_is_slide, s_is_slide, ["house", "value"], ["house", "value", "index", "side", "older", "direction", "begins"], b_is_slide⟩
abbrev s_law_box : Stmt := topS 12
def d_law_box : Df := ⟨"_law_box", .box, s_law_box, ["_law_script", "_law_k"], ["_law_script", "_law_k", "_law_cell"], boxI⟩
abbrev s_law_draw : Stmt := topS 13
def d_law_draw : Df := ⟨"_law_draw", .draw, s_law_draw, ["_law_rng", "_law_bound"], ["_law_rng", "_law_bound", "_law_found", "_law_once"], drawI⟩
abbrev s_law_pick : Stmt := topS 14
def b_law_pick : ISs :=
  LP.b_law_pick
def d_law_pick : Df := ⟨"_law_pick", .code ["_law_rng", "_law_some"] 2 b_law_pick, s_law_pick, ["_law_rng", "_law_some"], ["_law_rng", "_law_some"], b_law_pick⟩
abbrev s_law_same : Stmt := topS 15
def b_law_same : ISs :=
  LP.b_law_same
def d_law_same : Df := ⟨"_law_same", .code ["_law_found", "_law_want"] 4 b_law_same, s_law_same, ["_law_found", "_law_want"], ["_law_found", "_law_want", "_law_mine", "_law_other"], b_law_same⟩
abbrev s_law_listed : Stmt := topS 16
def b_law_listed : ISs :=
  LP.b_law_listed
def d_law_listed : Df := ⟨"_law_listed", .code ["_law_item"] 2 b_law_listed, s_law_listed, ["_law_item"], ["_law_item", "_law_part"], b_law_listed⟩
abbrev s_law_shuffle : Stmt := topS 17
def b_law_shuffle : ISs :=
  LP.b_law_shuffle
def d_law_shuffle : Df := ⟨"_law_shuffle", .code ["_law_rng", "_law_some"] 4 b_law_shuffle, s_law_shuffle, ["_law_rng", "_law_some"], ["_law_rng", "_law_some", "_law_found", "_law_part"], b_law_shuffle⟩
abbrev s_law_permutation : Stmt := topS 18
def b_law_permutation : ISs :=
  LP.b_law_permutation
def d_law_permutation : Df := ⟨"_law_permutation", .code ["_law_rng", "_law_degree"] 5 b_law_permutation, s_law_permutation, ["_law_rng", "_law_degree"], ["_law_rng", "_law_degree", "_law_kind", "_law_some", "_law_at"], b_law_permutation⟩
abbrev s_law_passage : Stmt := topS 19
def b_law_passage : ISs :=
  LP.b_law_passage
def d_law_passage : Df := ⟨"_law_passage", .code ["_law_rng", "_law_rooms", "_law_degree"] 6 b_law_passage, s_law_passage, ["_law_rng", "_law_rooms", "_law_degree"], ["_law_rng", "_law_rooms", "_law_degree", "_law_tail", "_law_kind", "_law_head"], b_law_passage⟩
abbrev s_law_house : Stmt := topS 20
def b_law_house : ISs :=
  LP.b_law_house
def d_law_house : Df := ⟨"_law_house", .code ["_law_rng", "_law_rooms", "_law_degree", "_law_most"] 5 b_law_house, s_law_house, ["_law_rng", "_law_rooms", "_law_degree", "_law_most"], ["_law_rng", "_law_rooms", "_law_degree", "_law_most", "_law_k"], b_law_house⟩
abbrev s_law_inverse : Stmt := topS 21
def b_law_inverse : ISs :=
  LP.b_law_inverse
def d_law_inverse : Df := ⟨"_law_inverse", .code ["_law_perm"] 2 b_law_inverse, s_law_inverse, ["_law_perm"], ["_law_perm", "_law_peg"], b_law_inverse⟩
abbrev s_law_ends : Stmt := topS 22
def b_law_ends : ISs :=
  LP.b_law_ends
def d_law_ends : Df := ⟨"_law_ends", .code ["_law_edge", "_law_way"] 5 b_law_ends, s_law_ends, ["_law_edge", "_law_way"], ["_law_edge", "_law_way", "_law_tail", "_law_head", "_law_perm"], b_law_ends⟩
abbrev s_law_is_slide : Stmt := topS 23
def b_law_is_slide : ISs :=
  LP.b_law_is_slide
def d_law_is_slide : Df := ⟨"_law_is_slide", .code ["_law_net", "_law_item"] 7 b_law_is_slide, s_law_is_slide, ["_law_net", "_law_item"], ["_law_net", "_law_item", "_law_mover", "_law_tip", "_law_base", "_law_way", "_law_num"], b_law_is_slide⟩
abbrev s_law_slides : Stmt := topS 24
def b_law_slides : ISs :=
  LP.b_law_slides
def d_law_slides : Df := ⟨"_law_slides", .code ["_law_net", "_law_mover"] 6 b_law_slides, s_law_slides, ["_law_net", "_law_mover"], ["_law_net", "_law_mover", "_law_found", "_law_tip", "_law_base", "_law_way"], b_law_slides⟩
abbrev s_law_replaced : Stmt := topS 25
def b_law_replaced : ISs :=
  LP.b_law_replaced
def d_law_replaced : Df := ⟨"_law_replaced", .code ["_law_rng", "_law_item"] 3 b_law_replaced, s_law_replaced, ["_law_rng", "_law_item"], ["_law_rng", "_law_item", "_law_some"], b_law_replaced⟩
abbrev s_law_mutate : Stmt := topS 26
def b_law_mutate : ISs :=
  LP.b_law_mutate
def d_law_mutate : Df := ⟨"_law_mutate", .code ["_law_rng", "_law_item"] 5 b_law_mutate, s_law_mutate, ["_law_rng", "_law_item"], ["_law_rng", "_law_item", "_law_kind", "_law_at", "_law_some"], b_law_mutate⟩
abbrev s_law_check : Stmt := topS 27
def l4_law_check : ISs :=
  .cons (.set 3 (.bin .Add (.var 3) (.call LP.n__law_slides (.cons (.var 1) (.cons (.var 4) .nil))))) .nil
def l3_law_check : ISs :=
  .cons (.set 7 (.tup (.cons (.bin .Sub (.call LP.n__law_draw (.cons (.var 0) (.cons (.bin .Add (.var 2) (.cint 2)) .nil))) (.cint 1)) (.cons (.call LP.n__law_pick (.cons (.var 0) (.cons (.lst (.cons (.cstr LP.s_start) (.cons (.cstr LP.s_end) .nil))) .nil))) (.cons (.bin .Sub (.call LP.n__law_draw (.cons (.var 0) (.cons (.bin .Add (.var 2) (.cint 2)) .nil))) (.cint 1)) .nil)))))
  (.cons (.expr (.meth .append (.var 5) (.cons (.bin .Add (.var 7) (.tup (.cons (.call LP.n__law_pick (.cons (.var 0) (.cons (.lst (.cons (.cstr LP.s_forward) (.cons (.cstr LP.s_backward) .nil))) .nil))) .nil))) .nil))) .nil)
def l2_law_check : ISs :=
  .cons (.set 5 (.bin .Add (.var 5) (.lst (.cons (.var 8) (.cons (.blt .list (.cons (.var 8) .nil)) (.cons (.call LP.n__law_mutate (.cons (.var 0) (.cons (.var 8) .nil))) .nil)))))) .nil
def l1_law_check : ISs :=
  .cons (.par [9, 10] (.cons (.blt .repr (.cons (.var 7) .nil)) (.cons (.call LP.n__law_is_slide (.cons (.var 1) (.cons (.var 7) .nil))) .nil)))
  (.cons (.ite (.not (.call LP.n__law_same (.cons (.lst (.cons (.call LP.n_is_slide (.cons (.var 1) (.cons (.var 7) .nil))) (.cons (.callK LP.n_is_slide .nil ["value", "house"] (.cons (.var 7) (.cons (.call LP.n__law_listed (.cons (.var 1) .nil)) .nil))) .nil))) (.cons (.lst (.cons (.var 10) (.cons (.var 10) .nil))) .nil)))) (.cons (.ret (.cbl false)) .nil) .nil)
  (.cons (.ite (.cmp .NotEq (.blt .repr (.cons (.var 7) .nil)) (.var 9)) (.cons (.ret (.cbl false)) .nil) .nil) .nil))
def b_law_check : ISs :=
  .cons (.set 1 (.call LP.n__law_house (.cons (.var 0) (.cons (.cint 6) (.cons (.cint 3) (.cons (.cint 8) .nil))))))
  (.cons (.par [2, 3] (.cons (.blt .len (.cons (.ix (.var 1) (.cint 2)) .nil)) (.cons (.lst .nil) .nil)))
  (.cons (.for (.name 4) (.range1 (.var 2)) l4_law_check)
  (.cons (.set 5 (.lst (.cons (.tup .nil) (.cons (.lst .nil) (.cons .cnon (.cons (.cint 0) (.cons (.cstr s_lead) (.cons (.tup (.cons (.cint 1) (.cons (.cstr LP.s_start) (.cons (.cint 0) .nil)))) (.cons (.tup (.cons (.cint 1) (.cons (.cstr LP.s_start) (.cons (.cint 0) (.cons (.cstr LP.s_forward) .nil))))) (.cons (.tup (.cons (.cint 1) (.cons (.cstr LP.s_end) (.cons (.cint 0) (.cons (.cstr LP.s_backward) (.cons (.cint 0) .nil)))))) .nil))))))))))
  (.cons (.expr (.meth .append (.var 5) (.cons (.tup (.cons (.cint 0) (.cons (.cstr LP.s_start) (.cons (.cint 0) (.cons (.cstr LP.s_forward) .nil))))) .nil)))
  (.cons (.set 5 (.bin .Add (.var 5) (.lst (.cons (.tup (.cons (.cbl true) (.cons (.cstr LP.s_start) (.cons (.cint 0) (.cons (.cstr LP.s_forward) .nil))))) (.cons (.tup (.cons (.cint 1) (.cons (.cstr LP.s_start) (.cons (.cbl false) (.cons (.cstr LP.s_forward) .nil))))) (.cons (.tup (.cons (.cint 1) (.cons (.cstr s_Start) (.cons (.cint 0) (.cons (.cstr LP.s_forward) .nil))))) .nil))))))
  (.cons (.expr (.meth .append (.var 5) (.cons (.tup (.cons (.cint 1) (.cons (.lst (.cons (.cstr LP.s_start) .nil)) (.cons (.cint 0) (.cons (.cstr LP.s_forward) .nil))))) .nil)))
  (.cons (.for (.name 6) (.range1 (.cint 24)) l3_law_check)
  (.cons (.for (.name 8) (.seq (.bin .Add (.slice (.var 3) .none (.some (.cint 8))) (.slice (.var 3) (.some (.neg (.cint 4))) .none))) l2_law_check)
  (.cons (.for (.name 7) (.seq (.var 5)) l1_law_check)
  (.cons (.ret (.cbl true)) .nil))))))))))
def d_law_check : Df := ⟨"_law_check", .code ["_law_rng"] 11 b_law_check, s_law_check, ["_law_rng"], ["_law_rng", "_law_net", "_law_total", "_law_some", "_law_mover", "_law_items", "_law_turn", "_law_item", "_law_move", "_law_before", "_law_want"], b_law_check⟩
abbrev s_law : Stmt := topS 28
def b_law : ISs :=
  .cons (.set 1 (.lc [("_law_k", 2)] (.name 2) (.range1 (.bin .Add (.cint 1) (.blt .min2 (.cons (.cint 3) (.cons (.blt .len (.cons (.var 0) .nil)) .nil))))) .none (.call n__law_box (.cons (.var 0) (.cons (.var 2) .nil)))))
  (.cons (.ret (.blt .all (.cons (.lc [("_law_rng", 3)] (.name 3) (.seq (.bin .Mult (.var 1) (.cint 3))) .none (.call n__law_check (.cons (.var 3) .nil))) .nil))) .nil)
def d_law : Df := ⟨"law", .code ["_law_script"] 4 b_law, s_law, ["_law_script"], ["_law_script", "_law_boxes", "_law_k", "_law_rng"], b_law⟩
def defs : List Df := [d_is_plain_int, d_inverse, d_is_number_below, d_crossing, d_end_room, d_is_slide, d_law_box, d_law_draw, d_law_pick, d_law_same, d_law_listed, d_law_shuffle, d_law_permutation, d_law_passage, d_law_house, d_law_inverse, d_law_ends, d_law_is_slide, d_law_slides, d_law_replaced, d_law_mutate, d_law_check, d_law]
def kws : KwTab := [("is_slide", 0, ["value", "house"])]
def T : Ck := ⟨tabOf defs, kws, [("SIDES", .strs ["end", "start"]), ("DIRECTIONS", .strs ["backward", "forward"])]⟩
theorem chk_is_plain_int : d_is_plain_int.chk T = true := by decide +kernel
theorem chk_inverse : d_inverse.chk T = true := by decide +kernel
theorem chk_is_number_below : d_is_number_below.chk T = true := by decide +kernel
theorem chk_crossing : d_crossing.chk T = true := by decide +kernel
theorem chk_end_room : d_end_room.chk T = true := by decide +kernel
theorem chk_is_slide : d_is_slide.chk T = true := by decide +kernel
theorem chk_law_box : d_law_box.chk T = true := by decide +kernel
theorem chk_law_draw : d_law_draw.chk T = true := by decide +kernel
theorem chk_law_pick : d_law_pick.chk T = true := by decide +kernel
theorem chk_law_same : d_law_same.chk T = true := by decide +kernel
theorem chk_law_listed : d_law_listed.chk T = true := by decide +kernel
theorem chk_law_shuffle : d_law_shuffle.chk T = true := by decide +kernel
theorem chk_law_permutation : d_law_permutation.chk T = true := by decide +kernel
theorem chk_law_passage : d_law_passage.chk T = true := by decide +kernel
theorem chk_law_house : d_law_house.chk T = true := by decide +kernel
theorem chk_law_inverse : d_law_inverse.chk T = true := by decide +kernel
theorem chk_law_ends : d_law_ends.chk T = true := by decide +kernel
theorem chk_law_is_slide : d_law_is_slide.chk T = true := by decide +kernel
theorem chk_law_slides : d_law_slides.chk T = true := by decide +kernel
theorem chk_law_replaced : d_law_replaced.chk T = true := by decide +kernel
theorem chk_law_mutate : d_law_mutate.chk T = true := by decide +kernel
theorem chk_law_check : d_law_check.chk T = true := by decide +kernel
theorem chk_law : d_law.chk T = true := by decide +kernel
theorem chk : ∀ d ∈ defs, d.chk T = true ∧ d.Runs := by
  intro d hd
  simp only [defs, List.mem_cons, List.not_mem_nil, or_false] at hd
  rcases hd with rfl | rfl | rfl | rfl | rfl | rfl | rfl | rfl | rfl | rfl | rfl | rfl | rfl | rfl | rfl | rfl | rfl | rfl | rfl | rfl | rfl | rfl | rfl
  · exact ⟨chk_is_plain_int, .code rfl (by decide)⟩
  · exact ⟨chk_inverse, .code rfl (by decide)⟩
  · exact ⟨chk_is_number_below, .code rfl (by decide)⟩
  · exact ⟨chk_crossing, .code rfl (by decide)⟩
  · exact ⟨chk_end_room, .code rfl (by decide)⟩
  · exact ⟨chk_is_slide, .code rfl (by decide)⟩
  · exact ⟨chk_law_box, .box rfl rfl rfl rfl⟩
  · exact ⟨chk_law_draw, .draw rfl rfl rfl rfl⟩
  · exact ⟨chk_law_pick, .code rfl (by decide)⟩
  · exact ⟨chk_law_same, .code rfl (by decide)⟩
  · exact ⟨chk_law_listed, .code rfl (by decide)⟩
  · exact ⟨chk_law_shuffle, .code rfl (by decide)⟩
  · exact ⟨chk_law_permutation, .code rfl (by decide)⟩
  · exact ⟨chk_law_passage, .code rfl (by decide)⟩
  · exact ⟨chk_law_house, .code rfl (by decide)⟩
  · exact ⟨chk_law_inverse, .code rfl (by decide)⟩
  · exact ⟨chk_law_ends, .code rfl (by decide)⟩
  · exact ⟨chk_law_is_slide, .code rfl (by decide)⟩
  · exact ⟨chk_law_slides, .code rfl (by decide)⟩
  · exact ⟨chk_law_replaced, .code rfl (by decide)⟩
  · exact ⟨chk_law_mutate, .code rfl (by decide)⟩
  · exact ⟨chk_law_check, .code rfl (by decide)⟩
  · exact ⟨chk_law, .code rfl (by decide)⟩
theorem at_is_plain_int {K : PySem.W.Frag} {h : Heap} {mg : Str → Option Value} {f : Addr} (X : K.In h) (G : h.Ns mainGlobals mg) {od an : Option Addr} {sl : Array (Option Value)} {oc kV dc pm cd ct : Value}
    (a : PySem.W.nsIn K mainGlobals "is_plain_int" = some (some (.ref f))) (l : K.lookup f = some ⟨oc, od, .func (PySem.W.fnOf "is_plain_int" "is_plain_int" (defArgs s_is_plain_int) (defBody s_is_plain_int) (defScope s_is_plain_int) .none kV dc pm an cd ct), sl⟩) (c : PySem.W.codeIn K cd "is_plain_int" = true) (k : PySem.W.keepIn K (.ref f) = true) :
    DfAt T K mg d_is_plain_int := by
  have F := fun_mk (st := s_is_plain_int) l c k
  refine ⟨f, _, F, PySem.W.mg_of X G a, F.binds (ps := d_is_plain_int.ps) fun _ _ _ _ _ _ us hl => match us, hl with | [_], _ => rfl, fun n ks hk o ho => ?_⟩
  have hk2 : ∀ e ∈ kws, e.1 = ("is_plain_int" : Str) → e ∈ ([] : KwTab) := by decide +kernel
  have hk3 := hk2 _ hk rfl
  cases hk3
theorem at_inverse {K : PySem.W.Frag} {h : Heap} {mg : Str → Option Value} {f : Addr} (X : K.In h) (G : h.Ns mainGlobals mg) {od an : Option Addr} {sl : Array (Option Value)} {oc kV dc pm cd ct : Value}
    (a : PySem.W.nsIn K mainGlobals "inverse" = some (some (.ref f))) (l : K.lookup f = some ⟨oc, od, .func (PySem.W.fnOf "inverse" "inverse" (defArgs s_inverse) (defBody s_inverse) (defScope s_inverse) .none kV dc pm an cd ct), sl⟩) (c : PySem.W.codeIn K cd "inverse" = true) (k : PySem.W.keepIn K (.ref f) = true) :
    DfAt T K mg d_inverse := by
  have F := fun_mk (st := s_inverse) l c k
  refine ⟨f, _, F, PySem.W.mg_of X G a, F.binds (ps := d_inverse.ps) fun _ _ _ _ _ _ us hl => match us, hl with | [_], _ => rfl, fun n ks hk o ho => ?_⟩
  have hk2 : ∀ e ∈ kws, e.1 = ("inverse" : Str) → e ∈ ([] : KwTab) := by decide +kernel
  have hk3 := hk2 _ hk rfl
  cases hk3
theorem at_is_number_below {K : PySem.W.Frag} {h : Heap} {mg : Str → Option Value} {f : Addr} (X : K.In h) (G : h.Ns mainGlobals mg) {od an : Option Addr} {sl : Array (Option Value)} {oc kV dc pm cd ct : Value}
    (a : PySem.W.nsIn K mainGlobals "is_number_below" = some (some (.ref f))) (l : K.lookup f = some ⟨oc, od, .func (PySem.W.fnOf "is_number_below" "is_number_below" (defArgs s_is_number_below) (defBody s_is_number_below) (defScope s_is_number_below) .none kV dc pm an cd ct), sl⟩) (c : PySem.W.codeIn K cd "is_number_below" = true) (k : PySem.W.keepIn K (.ref f) = true) :
    DfAt T K mg d_is_number_below := by
  have F := fun_mk (st := s_is_number_below) l c k
  refine ⟨f, _, F, PySem.W.mg_of X G a, F.binds (ps := d_is_number_below.ps) fun _ _ _ _ _ _ us hl => match us, hl with | [_, _], _ => rfl, fun n ks hk o ho => ?_⟩
  have hk2 : ∀ e ∈ kws, e.1 = ("is_number_below" : Str) → e ∈ ([] : KwTab) := by decide +kernel
  have hk3 := hk2 _ hk rfl
  cases hk3
theorem at_crossing {K : PySem.W.Frag} {h : Heap} {mg : Str → Option Value} {f : Addr} (X : K.In h) (G : h.Ns mainGlobals mg) {od an : Option Addr} {sl : Array (Option Value)} {oc kV dc pm cd ct : Value}
    (a : PySem.W.nsIn K mainGlobals "crossing" = some (some (.ref f))) (l : K.lookup f = some ⟨oc, od, .func (PySem.W.fnOf "crossing" "crossing" (defArgs s_crossing) (defBody s_crossing) (defScope s_crossing) .none kV dc pm an cd ct), sl⟩) (c : PySem.W.codeIn K cd "crossing" = true) (k : PySem.W.keepIn K (.ref f) = true) :
    DfAt T K mg d_crossing := by
  have F := fun_mk (st := s_crossing) l c k
  refine ⟨f, _, F, PySem.W.mg_of X G a, F.binds (ps := d_crossing.ps) fun _ _ _ _ _ _ us hl => match us, hl with | [_, _], _ => rfl, fun n ks hk o ho => ?_⟩
  have hk2 : ∀ e ∈ kws, e.1 = ("crossing" : Str) → e ∈ ([] : KwTab) := by decide +kernel
  have hk3 := hk2 _ hk rfl
  cases hk3
theorem at_end_room {K : PySem.W.Frag} {h : Heap} {mg : Str → Option Value} {f : Addr} (X : K.In h) (G : h.Ns mainGlobals mg) {od an : Option Addr} {sl : Array (Option Value)} {oc kV dc pm cd ct : Value}
    (a : PySem.W.nsIn K mainGlobals "end_room" = some (some (.ref f))) (l : K.lookup f = some ⟨oc, od, .func (PySem.W.fnOf "end_room" "end_room" (defArgs s_end_room) (defBody s_end_room) (defScope s_end_room) .none kV dc pm an cd ct), sl⟩) (c : PySem.W.codeIn K cd "end_room" = true) (k : PySem.W.keepIn K (.ref f) = true) :
    DfAt T K mg d_end_room := by
  have F := fun_mk (st := s_end_room) l c k
  refine ⟨f, _, F, PySem.W.mg_of X G a, F.binds (ps := d_end_room.ps) fun _ _ _ _ _ _ us hl => match us, hl with | [_, _], _ => rfl, fun n ks hk o ho => ?_⟩
  have hk2 : ∀ e ∈ kws, e.1 = ("end_room" : Str) → e ∈ ([] : KwTab) := by decide +kernel
  have hk3 := hk2 _ hk rfl
  cases hk3
theorem at_is_slide {K : PySem.W.Frag} {h : Heap} {mg : Str → Option Value} {f : Addr} (X : K.In h) (G : h.Ns mainGlobals mg) {od an : Option Addr} {sl : Array (Option Value)} {oc kV dc pm cd ct : Value}
    (a : PySem.W.nsIn K mainGlobals "is_slide" = some (some (.ref f))) (l : K.lookup f = some ⟨oc, od, .func (PySem.W.fnOf "is_slide" "is_slide" (defArgs s_is_slide) (defBody s_is_slide) (defScope s_is_slide) .none kV dc pm an cd ct), sl⟩) (c : PySem.W.codeIn K cd "is_slide" = true) (k : PySem.W.keepIn K (.ref f) = true) :
    DfAt T K mg d_is_slide := by
  have F := fun_mk (st := s_is_slide) l c k
  refine ⟨f, _, F, PySem.W.mg_of X G a, F.binds (ps := d_is_slide.ps) fun _ _ _ _ _ _ us hl => match us, hl with | [_, _], _ => rfl, fun n ks hk o ho => ?_⟩
  have hk2 : ∀ e ∈ kws, e.1 = ("is_slide" : Str) → e ∈ ([("is_slide", 0, ["value", "house"])] : KwTab) := by decide +kernel
  have hk3 := hk2 _ hk rfl
  simp only [List.mem_cons, List.not_mem_nil, or_false, Prod.mk.injEq] at hk3
  rcases hk3 with ⟨_, rfl, rfl⟩
  · cases (show kordT T.F "is_slide" 0 ["value", "house"] = _ from ho).symm.trans (by decide +kernel : kordT T.F "is_slide" 0 ["value", "house"] = some [1, 0])
    intro s us ws h1 h2
    match us, ws, h1, h2 with
    | [], [w0, w1], _, _ => exact ⟨_, rfl, .of_eq rfl⟩
theorem at_law_box {K : PySem.W.Frag} {h : Heap} {mg : Str → Option Value} {f : Addr} (X : K.In h) (G : h.Ns mainGlobals mg) {od an : Option Addr} {sl : Array (Option Value)} {oc kV dc pm cd ct : Value}
    (a : PySem.W.nsIn K mainGlobals "_law_box" = some (some (.ref f))) (l : K.lookup f = some ⟨oc, od, .func (PySem.W.fnOf "_law_box" "_law_box" (defArgs s_law_box) (defBody s_law_box) (defScope s_law_box) .none kV dc pm an cd ct), sl⟩) (c : PySem.W.codeIn K cd "_law_box" = true) (k : PySem.W.keepIn K (.ref f) = true) :
    DfAt T K mg d_law_box := by
  have F := fun_mk (st := s_law_box) l c k
  refine ⟨f, _, F, PySem.W.mg_of X G a, F.binds (ps := d_law_box.ps) fun _ _ _ _ _ _ us hl => match us, hl with | [_, _], _ => rfl, fun n ks hk o ho => ?_⟩
  have hk2 : ∀ e ∈ kws, e.1 = ("_law_box" : Str) → e ∈ ([] : KwTab) := by decide +kernel
  have hk3 := hk2 _ hk rfl
  cases hk3
theorem at_law_draw {K : PySem.W.Frag} {h : Heap} {mg : Str → Option Value} {f : Addr} (X : K.In h) (G : h.Ns mainGlobals mg) {od an : Option Addr} {sl : Array (Option Value)} {oc kV dc pm cd ct : Value}
    (a : PySem.W.nsIn K mainGlobals "_law_draw" = some (some (.ref f))) (l : K.lookup f = some ⟨oc, od, .func (PySem.W.fnOf "_law_draw" "_law_draw" (defArgs s_law_draw) (defBody s_law_draw) (defScope s_law_draw) .none kV dc pm an cd ct), sl⟩) (c : PySem.W.codeIn K cd "_law_draw" = true) (k : PySem.W.keepIn K (.ref f) = true) :
    DfAt T K mg d_law_draw := by
  have F := fun_mk (st := s_law_draw) l c k
  refine ⟨f, _, F, PySem.W.mg_of X G a, F.binds (ps := d_law_draw.ps) fun _ _ _ _ _ _ us hl => match us, hl with | [_, _], _ => rfl, fun n ks hk o ho => ?_⟩
  have hk2 : ∀ e ∈ kws, e.1 = ("_law_draw" : Str) → e ∈ ([] : KwTab) := by decide +kernel
  have hk3 := hk2 _ hk rfl
  cases hk3
theorem at_law_pick {K : PySem.W.Frag} {h : Heap} {mg : Str → Option Value} {f : Addr} (X : K.In h) (G : h.Ns mainGlobals mg) {od an : Option Addr} {sl : Array (Option Value)} {oc kV dc pm cd ct : Value}
    (a : PySem.W.nsIn K mainGlobals "_law_pick" = some (some (.ref f))) (l : K.lookup f = some ⟨oc, od, .func (PySem.W.fnOf "_law_pick" "_law_pick" (defArgs s_law_pick) (defBody s_law_pick) (defScope s_law_pick) .none kV dc pm an cd ct), sl⟩) (c : PySem.W.codeIn K cd "_law_pick" = true) (k : PySem.W.keepIn K (.ref f) = true) :
    DfAt T K mg d_law_pick := by
  have F := fun_mk (st := s_law_pick) l c k
  refine ⟨f, _, F, PySem.W.mg_of X G a, F.binds (ps := d_law_pick.ps) fun _ _ _ _ _ _ us hl => match us, hl with | [_, _], _ => rfl, fun n ks hk o ho => ?_⟩
  have hk2 : ∀ e ∈ kws, e.1 = ("_law_pick" : Str) → e ∈ ([] : KwTab) := by decide +kernel
  have hk3 := hk2 _ hk rfl
  cases hk3
theorem at_law_same {K : PySem.W.Frag} {h : Heap} {mg : Str → Option Value} {f : Addr} (X : K.In h) (G : h.Ns mainGlobals mg) {od an : Option Addr} {sl : Array (Option Value)} {oc kV dc pm cd ct : Value}
    (a : PySem.W.nsIn K mainGlobals "_law_same" = some (some (.ref f))) (l : K.lookup f = some ⟨oc, od, .func (PySem.W.fnOf "_law_same" "_law_same" (defArgs s_law_same) (defBody s_law_same) (defScope s_law_same) .none kV dc pm an cd ct), sl⟩) (c : PySem.W.codeIn K cd "_law_same" = true) (k : PySem.W.keepIn K (.ref f) = true) :
    DfAt T K mg d_law_same := by
  have F := fun_mk (st := s_law_same) l c k
  refine ⟨f, _, F, PySem.W.mg_of X G a, F.binds (ps := d_law_same.ps) fun _ _ _ _ _ _ us hl => match us, hl with | [_, _], _ => rfl, fun n ks hk o ho => ?_⟩
  have hk2 : ∀ e ∈ kws, e.1 = ("_law_same" : Str) → e ∈ ([] : KwTab) := by decide +kernel
  have hk3 := hk2 _ hk rfl
  cases hk3
theorem at_law_listed {K : PySem.W.Frag} {h : Heap} {mg : Str → Option Value} {f : Addr} (X : K.In h) (G : h.Ns mainGlobals mg) {od an : Option Addr} {sl : Array (Option Value)} {oc kV dc pm cd ct : Value}
    (a : PySem.W.nsIn K mainGlobals "_law_listed" = some (some (.ref f))) (l : K.lookup f = some ⟨oc, od, .func (PySem.W.fnOf "_law_listed" "_law_listed" (defArgs s_law_listed) (defBody s_law_listed) (defScope s_law_listed) .none kV dc pm an cd ct), sl⟩) (c : PySem.W.codeIn K cd "_law_listed" = true) (k : PySem.W.keepIn K (.ref f) = true) :
    DfAt T K mg d_law_listed := by
  have F := fun_mk (st := s_law_listed) l c k
  refine ⟨f, _, F, PySem.W.mg_of X G a, F.binds (ps := d_law_listed.ps) fun _ _ _ _ _ _ us hl => match us, hl with | [_], _ => rfl, fun n ks hk o ho => ?_⟩
  have hk2 : ∀ e ∈ kws, e.1 = ("_law_listed" : Str) → e ∈ ([] : KwTab) := by decide +kernel
  have hk3 := hk2 _ hk rfl
  cases hk3
theorem at_law_shuffle {K : PySem.W.Frag} {h : Heap} {mg : Str → Option Value} {f : Addr} (X : K.In h) (G : h.Ns mainGlobals mg) {od an : Option Addr} {sl : Array (Option Value)} {oc kV dc pm cd ct : Value}
    (a : PySem.W.nsIn K mainGlobals "_law_shuffle" = some (some (.ref f))) (l : K.lookup f = some ⟨oc, od, .func (PySem.W.fnOf "_law_shuffle" "_law_shuffle" (defArgs s_law_shuffle) (defBody s_law_shuffle) (defScope s_law_shuffle) .none kV dc pm an cd ct), sl⟩) (c : PySem.W.codeIn K cd "_law_shuffle" = true) (k : PySem.W.keepIn K (.ref f) = true) :
    DfAt T K mg d_law_shuffle := by
  have F := fun_mk (st := s_law_shuffle) l c k
  refine ⟨f, _, F, PySem.W.mg_of X G a, F.binds (ps := d_law_shuffle.ps) fun _ _ _ _ _ _ us hl => match us, hl with | [_, _], _ => rfl, fun n ks hk o ho => ?_⟩
  have hk2 : ∀ e ∈ kws, e.1 = ("_law_shuffle" : Str) → e ∈ ([] : KwTab) := by decide +kernel
  have hk3 := hk2 _ hk rfl
  cases hk3
theorem at_law_permutation {K : PySem.W.Frag} {h : Heap} {mg : Str → Option Value} {f : Addr} (X : K.In h) (G : h.Ns mainGlobals mg) {od an : Option Addr} {sl : Array (Option Value)} {oc kV dc pm cd ct : Value}
    (a : PySem.W.nsIn K mainGlobals "_law_permutation" = some (some (.ref f))) (l : K.lookup f = some ⟨oc, od, .func (PySem.W.fnOf "_law_permutation" "_law_permutation" (defArgs s_law_permutation) (defBody s_law_permutation) (defScope s_law_permutation) .none kV dc pm an cd ct), sl⟩) (c : PySem.W.codeIn K cd "_law_permutation" = true) (k : PySem.W.keepIn K (.ref f) = true) :
    DfAt T K mg d_law_permutation := by
  have F := fun_mk (st := s_law_permutation) l c k
  refine ⟨f, _, F, PySem.W.mg_of X G a, F.binds (ps := d_law_permutation.ps) fun _ _ _ _ _ _ us hl => match us, hl with | [_, _], _ => rfl, fun n ks hk o ho => ?_⟩
  have hk2 : ∀ e ∈ kws, e.1 = ("_law_permutation" : Str) → e ∈ ([] : KwTab) := by decide +kernel
  have hk3 := hk2 _ hk rfl
  cases hk3
theorem at_law_passage {K : PySem.W.Frag} {h : Heap} {mg : Str → Option Value} {f : Addr} (X : K.In h) (G : h.Ns mainGlobals mg) {od an : Option Addr} {sl : Array (Option Value)} {oc kV dc pm cd ct : Value}
    (a : PySem.W.nsIn K mainGlobals "_law_passage" = some (some (.ref f))) (l : K.lookup f = some ⟨oc, od, .func (PySem.W.fnOf "_law_passage" "_law_passage" (defArgs s_law_passage) (defBody s_law_passage) (defScope s_law_passage) .none kV dc pm an cd ct), sl⟩) (c : PySem.W.codeIn K cd "_law_passage" = true) (k : PySem.W.keepIn K (.ref f) = true) :
    DfAt T K mg d_law_passage := by
  have F := fun_mk (st := s_law_passage) l c k
  refine ⟨f, _, F, PySem.W.mg_of X G a, F.binds (ps := d_law_passage.ps) fun _ _ _ _ _ _ us hl => match us, hl with | [_, _, _], _ => rfl, fun n ks hk o ho => ?_⟩
  have hk2 : ∀ e ∈ kws, e.1 = ("_law_passage" : Str) → e ∈ ([] : KwTab) := by decide +kernel
  have hk3 := hk2 _ hk rfl
  cases hk3
theorem at_law_house {K : PySem.W.Frag} {h : Heap} {mg : Str → Option Value} {f : Addr} (X : K.In h) (G : h.Ns mainGlobals mg) {od an : Option Addr} {sl : Array (Option Value)} {oc kV dc pm cd ct : Value}
    (a : PySem.W.nsIn K mainGlobals "_law_house" = some (some (.ref f))) (l : K.lookup f = some ⟨oc, od, .func (PySem.W.fnOf "_law_house" "_law_house" (defArgs s_law_house) (defBody s_law_house) (defScope s_law_house) .none kV dc pm an cd ct), sl⟩) (c : PySem.W.codeIn K cd "_law_house" = true) (k : PySem.W.keepIn K (.ref f) = true) :
    DfAt T K mg d_law_house := by
  have F := fun_mk (st := s_law_house) l c k
  refine ⟨f, _, F, PySem.W.mg_of X G a, F.binds (ps := d_law_house.ps) fun _ _ _ _ _ _ us hl => match us, hl with | [_, _, _, _], _ => rfl, fun n ks hk o ho => ?_⟩
  have hk2 : ∀ e ∈ kws, e.1 = ("_law_house" : Str) → e ∈ ([] : KwTab) := by decide +kernel
  have hk3 := hk2 _ hk rfl
  cases hk3
theorem at_law_inverse {K : PySem.W.Frag} {h : Heap} {mg : Str → Option Value} {f : Addr} (X : K.In h) (G : h.Ns mainGlobals mg) {od an : Option Addr} {sl : Array (Option Value)} {oc kV dc pm cd ct : Value}
    (a : PySem.W.nsIn K mainGlobals "_law_inverse" = some (some (.ref f))) (l : K.lookup f = some ⟨oc, od, .func (PySem.W.fnOf "_law_inverse" "_law_inverse" (defArgs s_law_inverse) (defBody s_law_inverse) (defScope s_law_inverse) .none kV dc pm an cd ct), sl⟩) (c : PySem.W.codeIn K cd "_law_inverse" = true) (k : PySem.W.keepIn K (.ref f) = true) :
    DfAt T K mg d_law_inverse := by
  have F := fun_mk (st := s_law_inverse) l c k
  refine ⟨f, _, F, PySem.W.mg_of X G a, F.binds (ps := d_law_inverse.ps) fun _ _ _ _ _ _ us hl => match us, hl with | [_], _ => rfl, fun n ks hk o ho => ?_⟩
  have hk2 : ∀ e ∈ kws, e.1 = ("_law_inverse" : Str) → e ∈ ([] : KwTab) := by decide +kernel
  have hk3 := hk2 _ hk rfl
  cases hk3
theorem at_law_ends {K : PySem.W.Frag} {h : Heap} {mg : Str → Option Value} {f : Addr} (X : K.In h) (G : h.Ns mainGlobals mg) {od an : Option Addr} {sl : Array (Option Value)} {oc kV dc pm cd ct : Value}
    (a : PySem.W.nsIn K mainGlobals "_law_ends" = some (some (.ref f))) (l : K.lookup f = some ⟨oc, od, .func (PySem.W.fnOf "_law_ends" "_law_ends" (defArgs s_law_ends) (defBody s_law_ends) (defScope s_law_ends) .none kV dc pm an cd ct), sl⟩) (c : PySem.W.codeIn K cd "_law_ends" = true) (k : PySem.W.keepIn K (.ref f) = true) :
    DfAt T K mg d_law_ends := by
  have F := fun_mk (st := s_law_ends) l c k
  refine ⟨f, _, F, PySem.W.mg_of X G a, F.binds (ps := d_law_ends.ps) fun _ _ _ _ _ _ us hl => match us, hl with | [_, _], _ => rfl, fun n ks hk o ho => ?_⟩
  have hk2 : ∀ e ∈ kws, e.1 = ("_law_ends" : Str) → e ∈ ([] : KwTab) := by decide +kernel
  have hk3 := hk2 _ hk rfl
  cases hk3
theorem at_law_is_slide {K : PySem.W.Frag} {h : Heap} {mg : Str → Option Value} {f : Addr} (X : K.In h) (G : h.Ns mainGlobals mg) {od an : Option Addr} {sl : Array (Option Value)} {oc kV dc pm cd ct : Value}
    (a : PySem.W.nsIn K mainGlobals "_law_is_slide" = some (some (.ref f))) (l : K.lookup f = some ⟨oc, od, .func (PySem.W.fnOf "_law_is_slide" "_law_is_slide" (defArgs s_law_is_slide) (defBody s_law_is_slide) (defScope s_law_is_slide) .none kV dc pm an cd ct), sl⟩) (c : PySem.W.codeIn K cd "_law_is_slide" = true) (k : PySem.W.keepIn K (.ref f) = true) :
    DfAt T K mg d_law_is_slide := by
  have F := fun_mk (st := s_law_is_slide) l c k
  refine ⟨f, _, F, PySem.W.mg_of X G a, F.binds (ps := d_law_is_slide.ps) fun _ _ _ _ _ _ us hl => match us, hl with | [_, _], _ => rfl, fun n ks hk o ho => ?_⟩
  have hk2 : ∀ e ∈ kws, e.1 = ("_law_is_slide" : Str) → e ∈ ([] : KwTab) := by decide +kernel
  have hk3 := hk2 _ hk rfl
  cases hk3
theorem at_law_slides {K : PySem.W.Frag} {h : Heap} {mg : Str → Option Value} {f : Addr} (X : K.In h) (G : h.Ns mainGlobals mg) {od an : Option Addr} {sl : Array (Option Value)} {oc kV dc pm cd ct : Value}
    (a : PySem.W.nsIn K mainGlobals "_law_slides" = some (some (.ref f))) (l : K.lookup f = some ⟨oc, od, .func (PySem.W.fnOf "_law_slides" "_law_slides" (defArgs s_law_slides) (defBody s_law_slides) (defScope s_law_slides) .none kV dc pm an cd ct), sl⟩) (c : PySem.W.codeIn K cd "_law_slides" = true) (k : PySem.W.keepIn K (.ref f) = true) :
    DfAt T K mg d_law_slides := by
  have F := fun_mk (st := s_law_slides) l c k
  refine ⟨f, _, F, PySem.W.mg_of X G a, F.binds (ps := d_law_slides.ps) fun _ _ _ _ _ _ us hl => match us, hl with | [_, _], _ => rfl, fun n ks hk o ho => ?_⟩
  have hk2 : ∀ e ∈ kws, e.1 = ("_law_slides" : Str) → e ∈ ([] : KwTab) := by decide +kernel
  have hk3 := hk2 _ hk rfl
  cases hk3
theorem at_law_replaced {K : PySem.W.Frag} {h : Heap} {mg : Str → Option Value} {f : Addr} (X : K.In h) (G : h.Ns mainGlobals mg) {od an : Option Addr} {sl : Array (Option Value)} {oc kV dc pm cd ct : Value}
    (a : PySem.W.nsIn K mainGlobals "_law_replaced" = some (some (.ref f))) (l : K.lookup f = some ⟨oc, od, .func (PySem.W.fnOf "_law_replaced" "_law_replaced" (defArgs s_law_replaced) (defBody s_law_replaced) (defScope s_law_replaced) .none kV dc pm an cd ct), sl⟩) (c : PySem.W.codeIn K cd "_law_replaced" = true) (k : PySem.W.keepIn K (.ref f) = true) :
    DfAt T K mg d_law_replaced := by
  have F := fun_mk (st := s_law_replaced) l c k
  refine ⟨f, _, F, PySem.W.mg_of X G a, F.binds (ps := d_law_replaced.ps) fun _ _ _ _ _ _ us hl => match us, hl with | [_, _], _ => rfl, fun n ks hk o ho => ?_⟩
  have hk2 : ∀ e ∈ kws, e.1 = ("_law_replaced" : Str) → e ∈ ([] : KwTab) := by decide +kernel
  have hk3 := hk2 _ hk rfl
  cases hk3
theorem at_law_mutate {K : PySem.W.Frag} {h : Heap} {mg : Str → Option Value} {f : Addr} (X : K.In h) (G : h.Ns mainGlobals mg) {od an : Option Addr} {sl : Array (Option Value)} {oc kV dc pm cd ct : Value}
    (a : PySem.W.nsIn K mainGlobals "_law_mutate" = some (some (.ref f))) (l : K.lookup f = some ⟨oc, od, .func (PySem.W.fnOf "_law_mutate" "_law_mutate" (defArgs s_law_mutate) (defBody s_law_mutate) (defScope s_law_mutate) .none kV dc pm an cd ct), sl⟩) (c : PySem.W.codeIn K cd "_law_mutate" = true) (k : PySem.W.keepIn K (.ref f) = true) :
    DfAt T K mg d_law_mutate := by
  have F := fun_mk (st := s_law_mutate) l c k
  refine ⟨f, _, F, PySem.W.mg_of X G a, F.binds (ps := d_law_mutate.ps) fun _ _ _ _ _ _ us hl => match us, hl with | [_, _], _ => rfl, fun n ks hk o ho => ?_⟩
  have hk2 : ∀ e ∈ kws, e.1 = ("_law_mutate" : Str) → e ∈ ([] : KwTab) := by decide +kernel
  have hk3 := hk2 _ hk rfl
  cases hk3
theorem at_law_check {K : PySem.W.Frag} {h : Heap} {mg : Str → Option Value} {f : Addr} (X : K.In h) (G : h.Ns mainGlobals mg) {od an : Option Addr} {sl : Array (Option Value)} {oc kV dc pm cd ct : Value}
    (a : PySem.W.nsIn K mainGlobals "_law_check" = some (some (.ref f))) (l : K.lookup f = some ⟨oc, od, .func (PySem.W.fnOf "_law_check" "_law_check" (defArgs s_law_check) (defBody s_law_check) (defScope s_law_check) .none kV dc pm an cd ct), sl⟩) (c : PySem.W.codeIn K cd "_law_check" = true) (k : PySem.W.keepIn K (.ref f) = true) :
    DfAt T K mg d_law_check := by
  have F := fun_mk (st := s_law_check) l c k
  refine ⟨f, _, F, PySem.W.mg_of X G a, F.binds (ps := d_law_check.ps) fun _ _ _ _ _ _ us hl => match us, hl with | [_], _ => rfl, fun n ks hk o ho => ?_⟩
  have hk2 : ∀ e ∈ kws, e.1 = ("_law_check" : Str) → e ∈ ([] : KwTab) := by decide +kernel
  have hk3 := hk2 _ hk rfl
  cases hk3
theorem at_law {K : PySem.W.Frag} {h : Heap} {mg : Str → Option Value} {f : Addr} (X : K.In h) (G : h.Ns mainGlobals mg) {od an : Option Addr} {sl : Array (Option Value)} {oc kV dc pm cd ct : Value}
    (a : PySem.W.nsIn K mainGlobals "law" = some (some (.ref f))) (l : K.lookup f = some ⟨oc, od, .func (PySem.W.fnOf "law" "law" (defArgs s_law) (defBody s_law) (defScope s_law) .none kV dc pm an cd ct), sl⟩) (c : PySem.W.codeIn K cd "law" = true) (k : PySem.W.keepIn K (.ref f) = true) :
    DfAt T K mg d_law := by
  have F := fun_mk (st := s_law) l c k
  refine ⟨f, _, F, PySem.W.mg_of X G a, F.binds (ps := d_law.ps) fun _ _ _ _ _ _ us hl => match us, hl with | [_], _ => rfl, fun n ks hk o ho => ?_⟩
  have hk2 : ∀ e ∈ kws, e.1 = ("law" : Str) → e ∈ ([] : KwTab) := by decide +kernel
  have hk3 := hk2 _ hk rfl
  cases hk3
theorem all_mk {l : PySem.W.OpenLaw} {w : World} {K : PySem.W.Frag} {h : Heap} {mg : Str → Option Value} {fa : Addr} (X : K.In h) (G : h.Ns mainGlobals mg) (hfa : mg "law" = some (.ref fa))
    {f0 : Addr} {od0 an0 : Option Addr} {sl0 : Array (Option Value)} {oc0 kV0 dc0 pm0 cd0 ct0 : Value}
    {f1 : Addr} {od1 an1 : Option Addr} {sl1 : Array (Option Value)} {oc1 kV1 dc1 pm1 cd1 ct1 : Value}
    {f2 : Addr} {od2 an2 : Option Addr} {sl2 : Array (Option Value)} {oc2 kV2 dc2 pm2 cd2 ct2 : Value}
    {f3 : Addr} {od3 an3 : Option Addr} {sl3 : Array (Option Value)} {oc3 kV3 dc3 pm3 cd3 ct3 : Value}
    {f4 : Addr} {od4 an4 : Option Addr} {sl4 : Array (Option Value)} {oc4 kV4 dc4 pm4 cd4 ct4 : Value}
    {f5 : Addr} {od5 an5 : Option Addr} {sl5 : Array (Option Value)} {oc5 kV5 dc5 pm5 cd5 ct5 : Value}
    {f6 : Addr} {od6 an6 : Option Addr} {sl6 : Array (Option Value)} {oc6 kV6 dc6 pm6 cd6 ct6 : Value}
    {f7 : Addr} {od7 an7 : Option Addr} {sl7 : Array (Option Value)} {oc7 kV7 dc7 pm7 cd7 ct7 : Value}
    {f8 : Addr} {od8 an8 : Option Addr} {sl8 : Array (Option Value)} {oc8 kV8 dc8 pm8 cd8 ct8 : Value}
    {f9 : Addr} {od9 an9 : Option Addr} {sl9 : Array (Option Value)} {oc9 kV9 dc9 pm9 cd9 ct9 : Value}
    {f10 : Addr} {od10 an10 : Option Addr} {sl10 : Array (Option Value)} {oc10 kV10 dc10 pm10 cd10 ct10 : Value}
    {f11 : Addr} {od11 an11 : Option Addr} {sl11 : Array (Option Value)} {oc11 kV11 dc11 pm11 cd11 ct11 : Value}
    {f12 : Addr} {od12 an12 : Option Addr} {sl12 : Array (Option Value)} {oc12 kV12 dc12 pm12 cd12 ct12 : Value}
    {f13 : Addr} {od13 an13 : Option Addr} {sl13 : Array (Option Value)} {oc13 kV13 dc13 pm13 cd13 ct13 : Value}
    {f14 : Addr} {od14 an14 : Option Addr} {sl14 : Array (Option Value)} {oc14 kV14 dc14 pm14 cd14 ct14 : Value}
    {f15 : Addr} {od15 an15 : Option Addr} {sl15 : Array (Option Value)} {oc15 kV15 dc15 pm15 cd15 ct15 : Value}
    {f16 : Addr} {od16 an16 : Option Addr} {sl16 : Array (Option Value)} {oc16 kV16 dc16 pm16 cd16 ct16 : Value}
    {f17 : Addr} {od17 an17 : Option Addr} {sl17 : Array (Option Value)} {oc17 kV17 dc17 pm17 cd17 ct17 : Value}
    {f18 : Addr} {od18 an18 : Option Addr} {sl18 : Array (Option Value)} {oc18 kV18 dc18 pm18 cd18 ct18 : Value}
    {f19 : Addr} {od19 an19 : Option Addr} {sl19 : Array (Option Value)} {oc19 kV19 dc19 pm19 cd19 ct19 : Value}
    {f20 : Addr} {od20 an20 : Option Addr} {sl20 : Array (Option Value)} {oc20 kV20 dc20 pm20 cd20 ct20 : Value}
    {f21 : Addr} {od21 an21 : Option Addr} {sl21 : Array (Option Value)} {oc21 kV21 dc21 pm21 cd21 ct21 : Value}
    {f22 : Addr} {od22 an22 : Option Addr} {sl22 : Array (Option Value)} {oc22 kV22 dc22 pm22 cd22 ct22 : Value}
    (a0 : PySem.W.nsIn K mainGlobals "is_plain_int" = some (some (.ref f0))) (l0 : K.lookup f0 = some ⟨oc0, od0, .func (PySem.W.fnOf "is_plain_int" "is_plain_int" (defArgs s_is_plain_int) (defBody s_is_plain_int) (defScope s_is_plain_int) .none kV0 dc0 pm0 an0 cd0 ct0), sl0⟩) (c0 : PySem.W.codeIn K cd0 "is_plain_int" = true) (k0 : PySem.W.keepIn K (.ref f0) = true)
    (a1 : PySem.W.nsIn K mainGlobals "inverse" = some (some (.ref f1))) (l1 : K.lookup f1 = some ⟨oc1, od1, .func (PySem.W.fnOf "inverse" "inverse" (defArgs s_inverse) (defBody s_inverse) (defScope s_inverse) .none kV1 dc1 pm1 an1 cd1 ct1), sl1⟩) (c1 : PySem.W.codeIn K cd1 "inverse" = true) (k1 : PySem.W.keepIn K (.ref f1) = true)
    (a2 : PySem.W.nsIn K mainGlobals "is_number_below" = some (some (.ref f2))) (l2 : K.lookup f2 = some ⟨oc2, od2, .func (PySem.W.fnOf "is_number_below" "is_number_below" (defArgs s_is_number_below) (defBody s_is_number_below) (defScope s_is_number_below) .none kV2 dc2 pm2 an2 cd2 ct2), sl2⟩) (c2 : PySem.W.codeIn K cd2 "is_number_below" = true) (k2 : PySem.W.keepIn K (.ref f2) = true)
    (a3 : PySem.W.nsIn K mainGlobals "crossing" = some (some (.ref f3))) (l3 : K.lookup f3 = some ⟨oc3, od3, .func (PySem.W.fnOf "crossing" "crossing" (defArgs s_crossing) (defBody s_crossing) (defScope s_crossing) .none kV3 dc3 pm3 an3 cd3 ct3), sl3⟩) (c3 : PySem.W.codeIn K cd3 "crossing" = true) (k3 : PySem.W.keepIn K (.ref f3) = true)
    (a4 : PySem.W.nsIn K mainGlobals "end_room" = some (some (.ref f4))) (l4 : K.lookup f4 = some ⟨oc4, od4, .func (PySem.W.fnOf "end_room" "end_room" (defArgs s_end_room) (defBody s_end_room) (defScope s_end_room) .none kV4 dc4 pm4 an4 cd4 ct4), sl4⟩) (c4 : PySem.W.codeIn K cd4 "end_room" = true) (k4 : PySem.W.keepIn K (.ref f4) = true)
    (a5 : PySem.W.nsIn K mainGlobals "is_slide" = some (some (.ref f5))) (l5 : K.lookup f5 = some ⟨oc5, od5, .func (PySem.W.fnOf "is_slide" "is_slide" (defArgs s_is_slide) (defBody s_is_slide) (defScope s_is_slide) .none kV5 dc5 pm5 an5 cd5 ct5), sl5⟩) (c5 : PySem.W.codeIn K cd5 "is_slide" = true) (k5 : PySem.W.keepIn K (.ref f5) = true)
    (a6 : PySem.W.nsIn K mainGlobals "_law_box" = some (some (.ref f6))) (l6 : K.lookup f6 = some ⟨oc6, od6, .func (PySem.W.fnOf "_law_box" "_law_box" (defArgs s_law_box) (defBody s_law_box) (defScope s_law_box) .none kV6 dc6 pm6 an6 cd6 ct6), sl6⟩) (c6 : PySem.W.codeIn K cd6 "_law_box" = true) (k6 : PySem.W.keepIn K (.ref f6) = true)
    (a7 : PySem.W.nsIn K mainGlobals "_law_draw" = some (some (.ref f7))) (l7 : K.lookup f7 = some ⟨oc7, od7, .func (PySem.W.fnOf "_law_draw" "_law_draw" (defArgs s_law_draw) (defBody s_law_draw) (defScope s_law_draw) .none kV7 dc7 pm7 an7 cd7 ct7), sl7⟩) (c7 : PySem.W.codeIn K cd7 "_law_draw" = true) (k7 : PySem.W.keepIn K (.ref f7) = true)
    (a8 : PySem.W.nsIn K mainGlobals "_law_pick" = some (some (.ref f8))) (l8 : K.lookup f8 = some ⟨oc8, od8, .func (PySem.W.fnOf "_law_pick" "_law_pick" (defArgs s_law_pick) (defBody s_law_pick) (defScope s_law_pick) .none kV8 dc8 pm8 an8 cd8 ct8), sl8⟩) (c8 : PySem.W.codeIn K cd8 "_law_pick" = true) (k8 : PySem.W.keepIn K (.ref f8) = true)
    (a9 : PySem.W.nsIn K mainGlobals "_law_same" = some (some (.ref f9))) (l9 : K.lookup f9 = some ⟨oc9, od9, .func (PySem.W.fnOf "_law_same" "_law_same" (defArgs s_law_same) (defBody s_law_same) (defScope s_law_same) .none kV9 dc9 pm9 an9 cd9 ct9), sl9⟩) (c9 : PySem.W.codeIn K cd9 "_law_same" = true) (k9 : PySem.W.keepIn K (.ref f9) = true)
    (a10 : PySem.W.nsIn K mainGlobals "_law_listed" = some (some (.ref f10))) (l10 : K.lookup f10 = some ⟨oc10, od10, .func (PySem.W.fnOf "_law_listed" "_law_listed" (defArgs s_law_listed) (defBody s_law_listed) (defScope s_law_listed) .none kV10 dc10 pm10 an10 cd10 ct10), sl10⟩) (c10 : PySem.W.codeIn K cd10 "_law_listed" = true) (k10 : PySem.W.keepIn K (.ref f10) = true)
    (a11 : PySem.W.nsIn K mainGlobals "_law_shuffle" = some (some (.ref f11))) (l11 : K.lookup f11 = some ⟨oc11, od11, .func (PySem.W.fnOf "_law_shuffle" "_law_shuffle" (defArgs s_law_shuffle) (defBody s_law_shuffle) (defScope s_law_shuffle) .none kV11 dc11 pm11 an11 cd11 ct11), sl11⟩) (c11 : PySem.W.codeIn K cd11 "_law_shuffle" = true) (k11 : PySem.W.keepIn K (.ref f11) = true)
    (a12 : PySem.W.nsIn K mainGlobals "_law_permutation" = some (some (.ref f12))) (l12 : K.lookup f12 = some ⟨oc12, od12, .func (PySem.W.fnOf "_law_permutation" "_law_permutation" (defArgs s_law_permutation) (defBody s_law_permutation) (defScope s_law_permutation) .none kV12 dc12 pm12 an12 cd12 ct12), sl12⟩) (c12 : PySem.W.codeIn K cd12 "_law_permutation" = true) (k12 : PySem.W.keepIn K (.ref f12) = true)
    (a13 : PySem.W.nsIn K mainGlobals "_law_passage" = some (some (.ref f13))) (l13 : K.lookup f13 = some ⟨oc13, od13, .func (PySem.W.fnOf "_law_passage" "_law_passage" (defArgs s_law_passage) (defBody s_law_passage) (defScope s_law_passage) .none kV13 dc13 pm13 an13 cd13 ct13), sl13⟩) (c13 : PySem.W.codeIn K cd13 "_law_passage" = true) (k13 : PySem.W.keepIn K (.ref f13) = true)
    (a14 : PySem.W.nsIn K mainGlobals "_law_house" = some (some (.ref f14))) (l14 : K.lookup f14 = some ⟨oc14, od14, .func (PySem.W.fnOf "_law_house" "_law_house" (defArgs s_law_house) (defBody s_law_house) (defScope s_law_house) .none kV14 dc14 pm14 an14 cd14 ct14), sl14⟩) (c14 : PySem.W.codeIn K cd14 "_law_house" = true) (k14 : PySem.W.keepIn K (.ref f14) = true)
    (a15 : PySem.W.nsIn K mainGlobals "_law_inverse" = some (some (.ref f15))) (l15 : K.lookup f15 = some ⟨oc15, od15, .func (PySem.W.fnOf "_law_inverse" "_law_inverse" (defArgs s_law_inverse) (defBody s_law_inverse) (defScope s_law_inverse) .none kV15 dc15 pm15 an15 cd15 ct15), sl15⟩) (c15 : PySem.W.codeIn K cd15 "_law_inverse" = true) (k15 : PySem.W.keepIn K (.ref f15) = true)
    (a16 : PySem.W.nsIn K mainGlobals "_law_ends" = some (some (.ref f16))) (l16 : K.lookup f16 = some ⟨oc16, od16, .func (PySem.W.fnOf "_law_ends" "_law_ends" (defArgs s_law_ends) (defBody s_law_ends) (defScope s_law_ends) .none kV16 dc16 pm16 an16 cd16 ct16), sl16⟩) (c16 : PySem.W.codeIn K cd16 "_law_ends" = true) (k16 : PySem.W.keepIn K (.ref f16) = true)
    (a17 : PySem.W.nsIn K mainGlobals "_law_is_slide" = some (some (.ref f17))) (l17 : K.lookup f17 = some ⟨oc17, od17, .func (PySem.W.fnOf "_law_is_slide" "_law_is_slide" (defArgs s_law_is_slide) (defBody s_law_is_slide) (defScope s_law_is_slide) .none kV17 dc17 pm17 an17 cd17 ct17), sl17⟩) (c17 : PySem.W.codeIn K cd17 "_law_is_slide" = true) (k17 : PySem.W.keepIn K (.ref f17) = true)
    (a18 : PySem.W.nsIn K mainGlobals "_law_slides" = some (some (.ref f18))) (l18 : K.lookup f18 = some ⟨oc18, od18, .func (PySem.W.fnOf "_law_slides" "_law_slides" (defArgs s_law_slides) (defBody s_law_slides) (defScope s_law_slides) .none kV18 dc18 pm18 an18 cd18 ct18), sl18⟩) (c18 : PySem.W.codeIn K cd18 "_law_slides" = true) (k18 : PySem.W.keepIn K (.ref f18) = true)
    (a19 : PySem.W.nsIn K mainGlobals "_law_replaced" = some (some (.ref f19))) (l19 : K.lookup f19 = some ⟨oc19, od19, .func (PySem.W.fnOf "_law_replaced" "_law_replaced" (defArgs s_law_replaced) (defBody s_law_replaced) (defScope s_law_replaced) .none kV19 dc19 pm19 an19 cd19 ct19), sl19⟩) (c19 : PySem.W.codeIn K cd19 "_law_replaced" = true) (k19 : PySem.W.keepIn K (.ref f19) = true)
    (a20 : PySem.W.nsIn K mainGlobals "_law_mutate" = some (some (.ref f20))) (l20 : K.lookup f20 = some ⟨oc20, od20, .func (PySem.W.fnOf "_law_mutate" "_law_mutate" (defArgs s_law_mutate) (defBody s_law_mutate) (defScope s_law_mutate) .none kV20 dc20 pm20 an20 cd20 ct20), sl20⟩) (c20 : PySem.W.codeIn K cd20 "_law_mutate" = true) (k20 : PySem.W.keepIn K (.ref f20) = true)
    (a21 : PySem.W.nsIn K mainGlobals "_law_check" = some (some (.ref f21))) (l21 : K.lookup f21 = some ⟨oc21, od21, .func (PySem.W.fnOf "_law_check" "_law_check" (defArgs s_law_check) (defBody s_law_check) (defScope s_law_check) .none kV21 dc21 pm21 an21 cd21 ct21), sl21⟩) (c21 : PySem.W.codeIn K cd21 "_law_check" = true) (k21 : PySem.W.keepIn K (.ref f21) = true)
    (a22 : PySem.W.nsIn K mainGlobals "law" = some (some (.ref f22))) (l22 : K.lookup f22 = some ⟨oc22, od22, .func (PySem.W.fnOf "law" "law" (defArgs s_law) (defBody s_law) (defScope s_law) .none kV22 dc22 pm22 an22 cd22 ct22), sl22⟩) (c22 : PySem.W.codeIn K cd22 "law" = true) (k22 : PySem.W.keepIn K (.ref f22) = true)
    (z_len : PySem.W.nsIn K mainGlobals "len" = some none)
    (z_list : PySem.W.nsIn K mainGlobals "list" = some none)
    (z_tuple : PySem.W.nsIn K mainGlobals "tuple" = some none)
    (z_all : PySem.W.nsIn K mainGlobals "all" = some none)
    (z_any : PySem.W.nsIn K mainGlobals "any" = some none)
    (z_abs : PySem.W.nsIn K mainGlobals "abs" = some none)
    (z_int : PySem.W.nsIn K mainGlobals "int" = some none)
    (z_bool : PySem.W.nsIn K mainGlobals "bool" = some none)
    (z_str : PySem.W.nsIn K mainGlobals "str" = some none)
    (z_repr : PySem.W.nsIn K mainGlobals "repr" = some none)
    (z_min : PySem.W.nsIn K mainGlobals "min" = some none)
    (z_max : PySem.W.nsIn K mainGlobals "max" = some none)
    (z_sorted : PySem.W.nsIn K mainGlobals "sorted" = some none)
    (z_range : PySem.W.nsIn K mainGlobals "range" = some none)
    (z_enumerate : PySem.W.nsIn K mainGlobals "enumerate" = some none)
    (z_zip : PySem.W.nsIn K mainGlobals "zip" = some none)
    (z_isinstance : PySem.W.nsIn K mainGlobals "isinstance" = some none)
    {ga_SIDES : Addr} {gi_SIDES : Array Value} {gn_SIDES : Nat} {gs_SIDES : Array (Option Value)} (g_SIDES : PySem.W.nsIn K mainGlobals "SIDES" = some (some (.ref ga_SIDES))) (h_SIDES : K.lookup ga_SIDES = some ⟨.type "tuple", none, .seq gi_SIDES gn_SIDES, gs_SIDES⟩) (s_SIDES : gi_SIDES.size ≤ sizeLine) (v_SIDES : Vals ((["end", "start"] : List Str).map V.str) gi_SIDES.toList)
    {ga_DIRECTIONS : Addr} {gi_DIRECTIONS : Array Value} {gn_DIRECTIONS : Nat} {gs_DIRECTIONS : Array (Option Value)} (g_DIRECTIONS : PySem.W.nsIn K mainGlobals "DIRECTIONS" = some (some (.ref ga_DIRECTIONS))) (h_DIRECTIONS : K.lookup ga_DIRECTIONS = some ⟨.type "tuple", none, .seq gi_DIRECTIONS gn_DIRECTIONS, gs_DIRECTIONS⟩) (s_DIRECTIONS : gi_DIRECTIONS.size ≤ sizeLine) (v_DIRECTIONS : Vals ((["backward", "forward"] : List Str).map V.str) gi_DIRECTIONS.toList)
    {k : Nat} : ∃ fd : FuncData, (∀ (s : Shared) (v : Value), BindsTo s fd ⟨[v], []⟩ [("_law_script", v)]) ∧ ∀ base : Heap, FnG l.prog w K mg base (k + 1) fa fd ["_law_script"] (spI T.F (fun _ _ _ _ => False) K (k + 1) "law") := by
  have e := hfa.symm.trans (PySem.W.mg_of X G a22)
  cases e
  have Fl := fun_mk (st := s_law) l22 c22 k22
  refine ⟨PySem.W.fnOf "law" "law" (defArgs s_law) (defBody s_law) (defScope s_law) .none kV22 dc22 pm22 an22 cd22 ct22, fun s v => .of_eq rfl, fun base => ?_⟩
  have G := gd_all (T := T) (RX := fun _ _ _ _ => False) (P := l.prog) (w := w) (base := base) (defs := defs) rfl chk (fun d hd => by
    simp only [defs, List.mem_cons, List.not_mem_nil, or_false] at hd
    rcases hd with rfl | rfl | rfl | rfl | rfl | rfl | rfl | rfl | rfl | rfl | rfl | rfl | rfl | rfl | rfl | rfl | rfl | rfl | rfl | rfl | rfl | rfl | rfl
    · exact at_is_plain_int X G a0 l0 c0 k0
    · exact at_inverse X G a1 l1 c1 k1
    · exact at_is_number_below X G a2 l2 c2 k2
    · exact at_crossing X G a3 l3 c3 k3
    · exact at_end_room X G a4 l4 c4 k4
    · exact at_is_slide X G a5 l5 c5 k5
    · exact at_law_box X G a6 l6 c6 k6
    · exact at_law_draw X G a7 l7 c7 k7
    · exact at_law_pick X G a8 l8 c8 k8
    · exact at_law_same X G a9 l9 c9 k9
    · exact at_law_listed X G a10 l10 c10 k10
    · exact at_law_shuffle X G a11 l11 c11 k11
    · exact at_law_permutation X G a12 l12 c12 k12
    · exact at_law_passage X G a13 l13 c13 k13
    · exact at_law_house X G a14 l14 c14 k14
    · exact at_law_inverse X G a15 l15 c15 k15
    · exact at_law_ends X G a16 l16 c16 k16
    · exact at_law_is_slide X G a17 l17 c17 k17
    · exact at_law_slides X G a18 l18 c18 k18
    · exact at_law_replaced X G a19 l19 c19 k19
    · exact at_law_mutate X G a20 l20 c20 k20
    · exact at_law_check X G a21 l21 c21 k21
    · exact at_law X G a22 l22 c22 k22
    ) (fun x hx => by
    simp only [bltNames, List.mem_cons, List.not_mem_nil, or_false] at hx
    rcases hx with rfl | rfl | rfl | rfl | rfl | rfl | rfl | rfl | rfl | rfl | rfl | rfl | rfl | rfl | rfl | rfl | rfl
    · exact PySem.W.mg_none_of X G z_len
    · exact PySem.W.mg_none_of X G z_list
    · exact PySem.W.mg_none_of X G z_tuple
    · exact PySem.W.mg_none_of X G z_all
    · exact PySem.W.mg_none_of X G z_any
    · exact PySem.W.mg_none_of X G z_abs
    · exact PySem.W.mg_none_of X G z_int
    · exact PySem.W.mg_none_of X G z_bool
    · exact PySem.W.mg_none_of X G z_str
    · exact PySem.W.mg_none_of X G z_repr
    · exact PySem.W.mg_none_of X G z_min
    · exact PySem.W.mg_none_of X G z_max
    · exact PySem.W.mg_none_of X G z_sorted
    · exact PySem.W.mg_none_of X G z_range
    · exact PySem.W.mg_none_of X G z_enumerate
    · exact PySem.W.mg_none_of X G z_zip
    · exact PySem.W.mg_none_of X G z_isinstance
    ) (fun x g hx => by
    simp only [T, List.mem_cons, List.not_mem_nil, or_false, Prod.mk.injEq] at hx
    rcases hx with ⟨rfl, rfl⟩ | ⟨rfl, rfl⟩
    · exact ⟨_, PySem.W.mg_of X G g_SIDES, _, _, _, _, rfl, h_SIDES, rfl, rfl, rfl, s_SIDES, v_SIDES⟩
    · exact ⟨_, PySem.W.mg_of X G g_DIRECTIONS, _, _, _, _, rfl, h_DIRECTIONS, rfl, rfl, rfl, s_DIRECTIONS, v_DIRECTIONS⟩
    ) k
  exact fn_code (d := d_law) G Fl chk_law rfl rfl
instance : DI.HasFn T.F LP.n_is_plain_int LP.f_is_plain_int := ⟨rfl⟩
instance : DI.HasFn T.F LP.n_inverse LP.f_inverse := ⟨rfl⟩
instance : DI.HasFn T.F LP.n_is_number_below LP.f_is_number_below := ⟨rfl⟩
instance : DI.HasFn T.F LP.n_crossing LP.f_crossing := ⟨rfl⟩
instance : DI.HasFn T.F LP.n_end_room LP.f_end_room := ⟨rfl⟩
instance : DI.HasFn T.F LP.n_is_slide LP.f_is_slide := ⟨rfl⟩
instance : DI.HasFn T.F LP.n__law_draw .draw := ⟨rfl⟩
instance : DI.HasFn T.F LP.n__law_pick LP.f_law_pick := ⟨rfl⟩
instance : DI.HasFn T.F LP.n__law_same LP.f_law_same := ⟨rfl⟩
instance : DI.HasFn T.F LP.n__law_listed LP.f_law_listed := ⟨rfl⟩
instance : DI.HasFn T.F LP.n__law_shuffle LP.f_law_shuffle := ⟨rfl⟩
instance : DI.HasFn T.F LP.n__law_permutation LP.f_law_permutation := ⟨rfl⟩
instance : DI.HasFn T.F LP.n__law_passage LP.f_law_passage := ⟨rfl⟩
instance : DI.HasFn T.F LP.n__law_house LP.f_law_house := ⟨rfl⟩
instance : DI.HasFn T.F LP.n__law_inverse LP.f_law_inverse := ⟨rfl⟩
instance : DI.HasFn T.F LP.n__law_ends LP.f_law_ends := ⟨rfl⟩
instance : DI.HasFn T.F LP.n__law_is_slide LP.f_law_is_slide := ⟨rfl⟩
instance : DI.HasFn T.F LP.n__law_slides LP.f_law_slides := ⟨rfl⟩
instance : DI.HasFn T.F LP.n__law_replaced LP.f_law_replaced := ⟨rfl⟩
instance : DI.HasFn T.F LP.n__law_mutate LP.f_law_mutate := ⟨rfl⟩
end LawK11
end
section
set_option maxHeartbeats 8000000
local macro_rules | `(tactic| walk_at "pure") => `(tactic| conv => enter [1]; try simp (config := { maxSteps := 10000000 }) only [DI.kTup2, DI.kTup, DI.kLst2, DI.kLst, DI.kBin2, DI.kBin, DI.kNeg, DI.kBl, DI.kNot, DI.kCmp2, DI.kCmp, DI.kCh4, DI.kCh3, DI.kCh2, DI.kCh, DI.kAnd2, DI.kAnd, DI.kOr2, DI.kOr, DI.kNotE, DI.kIte2, DI.kIte, DI.kIx2, DI.kIx, DI.kSl3, DI.kSl2, DI.kSl, DI.kLr, DI.kIsi, DI.kCall2, DI.kCall, DI.kCons2, DI.kCons, DI.kOI, DI.kTru, DI.kKw4, DI.kKw3, DI.kKw2, DI.kKw1, DI.kKw, DI.kMt3, DI.kMt2, DI.kMt, DI.kT4, DI.kT3, DI.kT2, DI.kT1, DI.kTurn, DI.kLc2, DI.kLc, DI.kR1, DI.kR2b, DI.kR2, DI.kEn2, DI.kEn, DI.kSet2, DI.kSet, DI.kPop2, DI.kEnv, DI.kSetT3, DI.kSetT2, DI.kSetT, DI.kNx, DI.kSub4, DI.kSub3, DI.kSub2, DI.kSub, DI.kAug4, DI.kAug3, DI.kAug2, DI.kAug, DI.kRet2, DI.kRet, DI.kIf2, DI.kIf, DI.kFor2, DI.kFor, DI.kPar2, DI.kPar, DI.kSeq, DI.kIdx, DI.kApp3, DI.kApp, DI.kApp0, DI.kAp4, DI.kAp3, DI.kAp2, DI.kAp1, DI.kAp, DI.kMe4, DI.kMe3, DI.kMe2, DI.kMe, DI.kEx, DI.kZip4, DI.kZip3, DI.kZip2, DI.kZip, DI.kTest, DI.kPlc3, DI.kPlc2, DI.kMut2, DI.kMut, DI.kAppS, DI.kStS2, DI.kStS, DI.kPk, DI.newMdE, DI.ownL, DI.r_var, DI.r_cint, DI.r_cstr, DI.r_cbl, DI.r_cnon, DI.r_tup, DI.r_lst, DI.r_bin, DI.r_neg, DI.r_cmp, DI.r_chain, DI.r_and, DI.r_or, DI.r_not, DI.r_ite, DI.r_ix, DI.r_slice, DI.r_rev, DI.r_blt, DI.r_lr, DI.r_tr, DI.r_isi, DI.r_call, DI.r_nil, DI.r_cons, DI.r_onone, DI.r_osome, DI.r_cnone, DI.r_csome, DI.r_callK, DI.r_meth, DI.r_lc, DI.r_seq, DI.r_range1, DI.r_range2, DI.r_enum, DI.s_nil, DI.s_cons, DI.s_setT, DI.s_sub, DI.s_aug, DI.s_ite, DI.s_for, DI.s_par, DI.s_pass, DI.s_brk, DI.s_cont, DI.s_pop, DI.s_set_var, DI.s_ret_var, DI.s_set_cint, DI.s_ret_cint, DI.s_set_cstr, DI.s_ret_cstr, DI.s_set_cbl, DI.s_ret_cbl, DI.s_set_cnon, DI.s_ret_cnon, DI.s_set_tup, DI.s_ret_tup, DI.s_set_lst, DI.s_ret_lst, DI.s_set_bin, DI.s_ret_bin, DI.s_set_neg, DI.s_ret_neg, DI.s_set_cmp, DI.s_ret_cmp, DI.s_set_chain, DI.s_ret_chain, DI.s_set_and, DI.s_ret_and, DI.s_set_or, DI.s_ret_or, DI.s_set_not, DI.s_ret_not, DI.s_set_ite, DI.s_ret_ite, DI.s_set_ix, DI.s_ret_ix, DI.s_set_slice, DI.s_ret_slice, DI.s_set_rev, DI.s_ret_rev, DI.s_set_blt, DI.s_ret_blt, DI.s_set_lr, DI.s_ret_lr, DI.s_set_tr, DI.s_ret_tr, DI.s_set_isi, DI.s_ret_isi, DI.s_set_call, DI.s_ret_call, DI.s_set_callK, DI.s_ret_callK, DI.s_set_lc, DI.s_ret_lc, DI.s_set_upper, DI.s_ret_upper, DI.s_app, DI.s_app2, DI.s_insert, DI.s_popAt, DI.s_ex_call, DI.r_zip, DI.s_while, DI.r_plc, DI.fin_ret, DI.fin_next, DI.fin_exc, DI.frz1_n, DI.frz1_z, DI.frz1_s, DI.frz_n, DI.frz_c, DI.frzS_none, DI.frzS_fz, DI.frzS_b1, DI.frzS_b2, DI.frzS_o1t, DI.frzS_o1f, DI.frzS_o2t, DI.frzS_o2f, DI.varP_z, DI.varP_s, DI.set_z, DI.set_s, DI.atS_z, DI.atS_s, DI.ownB_e, DI.mutS_e, DI.appS_e, DI.setSubS_e, DI.e_var0, DI.e_var1, DI.e_var2, DI.e_tup, DI.e_lst, DI.e_bin, DI.e_neg, DI.e_cmp, DI.e_chain, DI.e_and, DI.e_or, DI.e_not, DI.e_ite, DI.e_ix0, DI.e_ix1, DI.e_ix2, DI.e_slice, DI.e_rev, DI.e_list, DI.e_tuple, DI.e_len, DI.e_all, DI.e_any, DI.e_abs, DI.e_int, DI.e_str, DI.e_repr, DI.e_min2, DI.e_max2, DI.e_lcm, DI.e_sorted, DI.e_lr, DI.e_tr, DI.e_isi, DI.e_call, DI.e_callK, DI.e_meth, DI.e_lc, DI.e_cint, DI.e_cstr, DI.e_cbl, DI.e_cnon, DI.e_nil, DI.e_cons, DI.e_onone, DI.e_osome, DI.e_seq, DI.e_range1, DI.e_range2, DI.e_enum, DI.e_zip, DI.wipe_n, DI.wipe_c, DI.lk_z, DI.lk_s, DI.pick_n, DI.pick_c, DI.mkS, DI.asTupP, DI.m_index, DI.newMd0, DI.movB0, DI.beqI, DI.bneI, DI.ownS, DI.binP, DI.itemsP, DI.cmpP, DI.truthP, DI.asBP, DI.itMd, DI.ixP, DI.sliceP, DI.revP, DI.tyP, DI.isiP, DI.rgP, DI.recvP, DI.augP, DI.stored, DI.litE, DI.allNew, DI.dispMd, DI.newE, DI.setEnvsP, DI.setEnvsM, DI.bindP, DI.rdMd, DI.stP, DI.seqP, DI.retMd, DI.Md.stB, DI.Md.cpB, DI.Md.own1, DI.Mth.listB, DI.flatP, DI.cf, DI.bI, DI.rgItemsP, DI.bltP, DI.bind_ret, DI.nox_ret, DI.resc_ret, DI.pif_true, DI.pif_false, DI.eqP_int, DI.eqP_bl, DI.eqP_bi, DI.eqP_non, DI.bind_stuck, DI.bind_draw, DI.nox_draw, DI.resc_draw, DI.resc_exc, DI.bind_exc, DI.popt_some, DI.popt_none, DI.plc_nil, DI.forP_nil, DI.enumP_nil, DI.enumP_cons, DI.zipP_nil, DI.zipP_cons, DI.len_q, DI.qlen_nil, DI.qlen_cons, DI.map_q, DI.qmap_nil, DI.qmap_cons, DI.app_q, DI.qapp_nil, DI.qapp_cons, DI.any_q, DI.qany_nil, DI.qany_cons, DI.all_q, DI.qall_nil, DI.qall_cons, DI.empty_q, DI.qempty_nil, DI.qempty_cons, DI.take_q, DI.drop_q, DI.rev_q, DI.blsP_nil, DI.blsP_cons, DI.intsP_nil, DI.intsP_cons, DI.at_q, DI.qat_0, DI.qat_1, DI.qat_2, DI.qat_3, DI.bls_true, DI.all_true, DI.imod_q, DI.idiv_q, DI.mut_append, DI.mut_insert, DI.qix_q, DI.ntI_q, DI.meth_upper, DI.repB_2_4, DI.repP_2, DI.repP_3, DI.fits_0, DI.fits_1, DI.fits_2, DI.fits_3, DI.fits_4, DI.fits_5, DI.fits_6, DI.fits_7, DI.fits_8, DI.fits_9, DI.fits_10, DI.fits_11, DI.fits_12, DI.fits_13, DI.fits_14, DI.fits_15, DI.fits_16, DI.fits_17, DI.fits_18, DI.fits_19, DI.fits_20, DI.fits_21, DI.fits_22, DI.fits_23, DI.fits_24, DI.fits_25, DI.fits_26, DI.fits_27, DI.fits_28, DI.fits_29, DI.fits_30, DI.fits_31, DI.fits_32, DI.fits_33, DI.fits_34, DI.fits_35, DI.fits_36, DI.fits_37, DI.fits_38, DI.fits_39, DI.fits_40, DI.fits_41, DI.fits_42, DI.fits_43, DI.fits_44, DI.fits_45, DI.fits_46, DI.fits_47, DI.fits_48, DI.fits_49, DI.fits_50, DI.fits_51, DI.fits_52, DI.fits_53, DI.fits_54, DI.fits_55, DI.fits_56, DI.fits_57, DI.fits_58, DI.fits_59, DI.fits_60, DI.fits_61, DI.fits_62, DI.fits_63, DI.fits_64, DI.nI_l, DI.ltI_t, DI.ltI_f, DI.leI_t, DI.leI_f, DI.nzI_t, DI.smI_t, DI.rgB_t, DI.rg1B_t, DI.rg2B_t, if_true, if_false, not_false_eq_true, not_true_eq_false, ne_eq, DI.ty_NoneType_bool, DI.ty_NoneType_int, DI.ty_NoneType_str, DI.ty_NoneType_tuple, DI.ty_NoneType_list, DI.ty_bool_bool, DI.ty_bool_int, DI.ty_bool_str, DI.ty_bool_tuple, DI.ty_bool_list, DI.ty_int_bool, DI.ty_int_int, DI.ty_int_str, DI.ty_int_tuple, DI.ty_int_list, DI.ty_str_bool, DI.ty_str_int, DI.ty_str_str, DI.ty_str_tuple, DI.ty_str_list, DI.ty_tuple_bool, DI.ty_tuple_int, DI.ty_tuple_str, DI.ty_tuple_tuple, DI.ty_tuple_list, DI.ty_list_bool, DI.ty_list_int, DI.ty_list_str, DI.ty_list_tuple, DI.ty_list_list, Nat.reduceAdd, Nat.reduceLT, Nat.reduceLeDiff, Nat.reduceEqDiff, Int.reduceAdd, Int.reduceSub, Int.reduceMul, Int.reduceNeg, Int.reduceEq, Int.reduceLT, Int.reduceLE, Nat.reducePow, decide_true, decide_false, Bool.not_true, Bool.not_false, Bool.and_true, Bool.true_and, Bool.and_false, Bool.false_and, Bool.or_true, Bool.true_or, Bool.or_false, Bool.false_or, Bool.cond_true, Bool.cond_false, Option.map_some, Option.map_none, id_eq, reduceCtorEq, Bool.true_beq, Bool.false_beq, Bool.not_not, LP.eq_s_backward_s_backward, LP.eq_s_backward_s_end, LP.eq_s_backward_s_x20, LP.eq_s_backward_s_start, LP.eq_s_backward_s_forward, LP.eq_s_backward_s_x, LP.eq_s_end_s_backward, LP.eq_s_end_s_end, LP.eq_s_end_s_x20, LP.eq_s_end_s_start, LP.eq_s_end_s_forward, LP.eq_s_end_s_x, LP.eq_s_x20_s_backward, LP.eq_s_x20_s_end, LP.eq_s_x20_s_x20, LP.eq_s_x20_s_start, LP.eq_s_x20_s_forward, LP.eq_s_x20_s_x, LP.eq_s_start_s_backward, LP.eq_s_start_s_end, LP.eq_s_start_s_x20, LP.eq_s_start_s_start, LP.eq_s_start_s_forward, LP.eq_s_start_s_x, LP.eq_s_forward_s_backward, LP.eq_s_forward_s_end, LP.eq_s_forward_s_x20, LP.eq_s_forward_s_start, LP.eq_s_forward_s_forward, LP.eq_s_forward_s_x, LP.eq_s_x_s_backward, LP.eq_s_x_s_end, LP.eq_s_x_s_x20, LP.eq_s_x_s_start, LP.eq_s_x_s_forward, LP.eq_s_x_s_x, LP.b_is_plain_int, LP.b_is_permutation, LP.b_law_pick, LP.b_law_same, LP.b_law_shuffle, LP.b_law_replaced, LP.b_law_mutate, LP.b_law_integer, LP.b_law_is_permutation, LP.b_is_number_below, LP.b_is_fitting_passage, LP.b_is_house, LP.b_law_permutation, LP.b_law_passage, LP.b_law_house, LP.b_law_is_passage, LP.b_law_is_house, LP.b_inverse, LP.b_crossing, LP.b_end_room, LP.b_is_slide, LP.b_law_listed, LP.b_law_inverse, LP.b_law_ends, LP.b_law_is_slide, LP.b_law_slides, LawK11.b_law_check, LawK11.b_law, DI.kForN, DI.kForB, DI.lsMd])
namespace LawK11
open PySem L2 DI LP
def f_chk : Fn := .code ["_law_rng"] 11 b_law_check
theorem map_ints {s : Int} {ys : List PV} (h : ys.Perm (rg1P s)) (n : Nat) : ys.map (lstd n) = ys := by
  refine (List.map_congr_left fun y hy => ?_).trans (List.map_id ys)
  obtain ⟨i, rfl, _⟩ := pm_ints h hy
  exact lstd_flat rfl n
theorem lstd_net {r s : Int} {ps : List Pg} (h : ∀ p ∈ ps, p.Ok r s) : lstd 6 (netV true r s ps) = netV false r s ps := by
  show PV.lst [.int r, .int s, .lst ((ps.map (Pg.pv true)).map (lstd 4))] = PV.lst [.int r, .int s, .lst (ps.map (Pg.pv false))]
  rw [List.map_map]
  refine congrArg (fun z => PV.lst [.int r, .int s, .lst z]) (List.map_congr_left fun p hp => ?_)
  show PV.lst [.int p.a, .int p.b, .lst (p.ys.map (lstd 2))] = PV.lst [.int p.a, .int p.b, .lst p.ys]
  rw [map_ints (h p hp).pm]
def It (v : PV) : Prop := Nc 10 9 4 1100 v
def rest0 : List PV := [.tup [], .lst [], .non, .int 0, .str s_lead, .tup [.int 1, .str s_start, .int 0], .tup [.int 1, .str s_start, .int 0, .str s_forward], .tup [.int 1, .str s_end, .int 0, .str s_backward, .int 0], .tup [.int 0, .str s_start, .int 0, .str s_forward],
  .tup [.bl true, .str s_start, .int 0, .str s_forward], .tup [.int 1, .str s_start, .bl false, .str s_forward], .tup [.int 1, .str s_Start, .int 0, .str s_forward], .tup [.int 1, .lst [.str s_start], .int 0, .str s_forward]]
theorem rest0_ok : ∀ y ∈ rest0, It y := by
  have ct : ∀ v : PV, (sm 9 8 v && (decide (dep v ≤ 4) && decide (costV v ≤ 1000))) = true → It v := fun v hv => by
    obtain ⟨h1, h2⟩ := Bool.and_eq_true_iff.mp hv
    obtain ⟨h2, h3⟩ := Bool.and_eq_true_iff.mp h2
    exact ⟨sm_mono (by omega) (by omega) v h1, of_decide_eq_true h2, Nat.le_trans (of_decide_eq_true h3) (by omega)⟩
  exact fun y hy => ct y (List.all_eq_true.mp (show rest0.all (fun v => sm 9 8 v && (decide (dep v ≤ 4) && decide (costV v ≤ 1000))) = true by decide +kernel) y hy)
section
variable {F : Tab} {k : Nat} [hchk : HasFn F n__law_check f_chk] [HasFn F n__law_draw .draw] [HasFn F n__law_pick f_law_pick] [HasFn F n__law_replaced f_law_replaced] [HasFn F n__law_mutate f_law_mutate] [HasFn F n__law_shuffle f_law_shuffle] [HasFn F n__law_same f_law_same] [HasFn F n_is_plain_int f_is_plain_int] [HasFn F n_is_number_below f_is_number_below] [HasFn F n_inverse f_inverse] [HasFn F n_crossing f_crossing] [HasFn F n_end_room f_end_room] [HasFn F n_is_slide f_is_slide] [HasFn F n__law_listed f_law_listed] [HasFn F n__law_permutation f_law_permutation] [HasFn F n__law_passage f_law_passage] [HasFn F n__law_house f_law_house] [HasFn F n__law_inverse f_law_inverse] [HasFn F n__law_ends f_law_ends] [HasFn F n__law_is_slide f_law_is_slide] [HasFn F n__law_slides f_law_slides]
theorem pick2_dr (hk : 2 ≤ k) (a b : Str) : Dr (prun F Hn0 k n__law_pick [.rng, .lst [.str a, .str b]]) 1 fun r => ∃ z, r = (Md.fz, PV.str z) ∧ (z = a ∨ z = b) := by
  refine Dr.mono (pick_dr hk _ (List.cons_ne_nil _ _) (Nat.le_of_ble_eq_true rfl)) (Nat.le_refl _) fun r h => ?_
  obtain ⟨y, hy, rfl⟩ := h
  rcases List.mem_cons.mp hy with rfl | hy
  · exact ⟨a, rfl, .inl rfl⟩
  · rcases List.mem_cons.mp hy with rfl | hy
    · exact ⟨b, rfl, .inr rfl⟩
    · cases hy
theorem str_c {z a b : Str} (ha : Nc 10 9 0 100 (.str a)) (hb : Nc 10 9 0 100 (.str b)) (h : z = a ∨ z = b) : Nc 10 9 0 100 (.str z) := by
  rcases h with rfl | rfl
  · exact ha
  · exact hb
theorem n_start : Nc 10 9 0 100 (.str s_start) := ⟨by decide +kernel, by decide, by decide +kernel⟩
theorem n_end : Nc 10 9 0 100 (.str s_end) := ⟨by decide +kernel, by decide, by decide +kernel⟩
theorem n_fw : Nc 10 9 0 100 (.str s_forward) := ⟨by decide +kernel, by decide, by decide +kernel⟩
theorem n_bw : Nc 10 9 0 100 (.str s_backward) := ⟨by decide +kernel, by decide, by decide +kernel⟩
theorem run_check (a : PV) : prun F Hn0 (k + 1) n__law_check [a] = (pexs (cf F k) b_law_check [some (.fz, a), none, none, none, none, none, none, none, none, none, none]).nox.bind fin := run_code0 hchk rfl rfl rfl
theorem check_dr (hk : 20 ≤ k) : Dr (prun F Hn0 k n__law_check [.rng]) 7000 fun r => r = (.fz, .bl true) := by
  obtain ⟨k, rfl, hk1⟩ := up (n := 19) hk
  rw [run_check]
  have hko : ∀ ks, ks = (["value", "house"] : List Str) → kordT F n_is_slide 0 ks = some [1, 0] := by
    rintro _ rfl
    unfold kordT
    rw [(inferInstance : HasFn F n_is_slide f_is_slide).eq]
    rfl
  walk_at "pure"
  generalize kordT F = ko at hko ⊢
  have lh := lhouse_dr (F := F) (k := k) (by omega) (r := 6) (s := 3) (m := 8) (by omega) (by omega) (by omega) (by omega) (by omega) (by omega)
  generalize prun F Hn0 k n__law_house [.rng, .int 6, .int 3, .int 8] = t at lh ⊢
  apply Dr.ctx (m := 6700) (t := t) lh
  · intro j k
    rfl
  · omega
  intro a ha
  obtain ⟨r, s, ps0, rfl, hr, hs, hps, hn⟩ := ha
  have hN0 := hsN_nc hn (by omega) (by omega)
  obtain ⟨ps, rfl, ok⟩ := hs_pgs hn.fit
  rw [List.length_map] at hps hN0
  have hN0 : Nc 9 8 4 800 (netV true r s ps) := hN0.mono (Nat.le_refl _) (Nat.le_refl _) (Nat.le_refl _) (by omega)
  walk_at "pure"
  have total : nI (qlen (qmap (Pg.pv true) ps)) = ((ps.length : Nat) : Int) := congrArg nI (qlen_qmap _ _)
  obtain ⟨net, hnet⟩ : ∃ v, v = netV true r s ps := ⟨_, rfl⟩
  rw [total, show PV.tup [PV.int r, PV.int s, PV.tup (qmap (Pg.pv true) ps)] = net from hnet.symm]
  obtain ⟨M, hM⟩ : ∃ m : Nat, m = ps.length := ⟨_, rfl⟩
  rw [← hM]
  have hM8 : M ≤ 8 := by omega
  rw [rg1B_ok (by omega) (by omega)]
  walk_at "pure"
  have l4 : Dr (forP (pexs { call := prun F Hn0 k, kord := ko, dp := [], mv := [] } l4_law_check) (ITg.name 4) (rg1P ((M : Nat) : Int)) [some (Md.fz, PV.rng), some (Md.fz, net), some (Md.fz, PV.int ((M : Nat) : Int)), some (Md.o1, PV.lst []), none, none, none, none, none, none, none]) 0 fun p => p.1 = PFl.next ∧ ∃ sl x4, p.2 = [some (Md.fz, PV.rng), some (Md.fz, net), some (Md.fz, PV.int ((M : Nat) : Int)), some (Md.o1, PV.lst sl), x4, none, none, none, none, none, none] ∧ sl.length ≤ 288 ∧ ∀ y ∈ sl, SlN y := by
    refine Dr.mono (Dr.for (n := 0) (i := 0) (fun i env => ∃ sl x4, env = [some (Md.fz, PV.rng), some (Md.fz, net), some (Md.fz, PV.int ((M : Nat) : Int)), some (Md.o1, PV.lst sl), x4, none, none, none, none, none, none] ∧ sl.length ≤ 36 * i ∧ i ≤ 8 ∧ ∀ y ∈ sl, SlN y) ⟨[], none, rfl, Nat.zero_le _, by omega, fun y h => by cases h⟩ fun i y env hy hI => ?_) (by omega) fun p hp => ⟨hp.1, ?_⟩
    · obtain ⟨sl, x4, rfl, hl, hi, hsl⟩ := hI
      have hlt := (List.getElem?_eq_some_iff.mp hy).1
      rw [rg1P_len] at hlt
      obtain ⟨j, hj, rfl⟩ := List.mem_map.mp (List.mem_of_getElem? hy)
      have hj := List.mem_range.mp hj
      refine ⟨_, rfl, ?_⟩
      conv => enter [1]; rw [l4_law_check]
      walk_at "pure"
      have q := lslides_dr (F := F) (k := k) (by omega) (r := r) (s := s) (by omega) ok (m := j) (by omega)
      rw [← hnet] at q
      generalize prun F Hn0 k n__law_slides _ = t at q ⊢
      apply Dr.ctx (m := 0) (t := t) q
      · intro j k
        rfl
      · omega
      intro a ha
      obtain ⟨ys, rfl, yl, hys⟩ := ha
      walk_at "pure"
      rw [fits_le' (n := qlen sl + qlen ys) (show sl.length + ys.length ≤ _ by omega)]
      walk_at "pure"
      exact Dr.ret ⟨rfl, _, _, rfl, by show (sl ++ ys).length ≤ _; rw [List.length_append]; omega, by omega, fun y hy => by
        rcases List.mem_append.mp (show y ∈ sl ++ ys from hy) with hy | hy
        · exact hsl y hy
        · exact hys y hy⟩
    · obtain ⟨_, sl, x4, e, h1, _, h2⟩ := hp
      rw [rg1P_len] at h1
      exact ⟨sl, x4, e, by omega, h2⟩
  generalize forP _ _ _ _ = t at l4 ⊢
  apply Dr.ctx (m := 6700) (t := t) l4
  · intro j k
    rfl
  · omega
  intro a ha
  obtain ⟨fl, env⟩ := a
  obtain ⟨rfl, sl, x4, rfl, hsll, hsl⟩ := ha
  walk_at "pure"
  obtain ⟨I0, hI0⟩ : ∃ L, L = rest0 := ⟨_, rfl⟩
  change Dr (((forP (pexs { call := prun F Hn0 k, kord := ko, dp := [], mv := [] } l3_law_check) (ITg.name 6) (rg1P 24) [some (Md.fz, PV.rng), some (Md.fz, net), some (Md.fz, PV.int ((M : Nat) : Int)), some (Md.o1, PV.lst sl), x4, some (Md.o1, PV.lst rest0), none, none, none, none, none]).bind _).nox.bind fin) _ _
  rw [← hI0]
  have hl0 : I0.length = 13 := by rw [hI0]; rfl
  have hn0 : ∀ y ∈ I0, It y := by rw [hI0]; exact rest0_ok
  clear hI0
  obtain ⟨R24, hR24⟩ : ∃ L : List PV, L = rg1P 24 := ⟨_, rfl⟩
  have lenR : R24.length = 24 := by rw [hR24, rg1P_len]; rfl
  rw [← hR24]
  clear hR24
  have l3 : Dr (forP (pexs { call := prun F Hn0 k, kord := ko, dp := [], mv := [] } l3_law_check) (ITg.name 6) R24 [some (Md.fz, PV.rng), some (Md.fz, net), some (Md.fz, PV.int ((M : Nat) : Int)), some (Md.o1, PV.lst sl), x4, some (Md.o1, PV.lst I0), none, none, none, none, none]) 96 fun p => p.1 = PFl.next ∧ ∃ items x6 x7, p.2 = [some (Md.fz, PV.rng), some (Md.fz, net), some (Md.fz, PV.int ((M : Nat) : Int)), some (Md.o1, PV.lst sl), x4, some (Md.o1, PV.lst items), x6, x7, none, none, none] ∧ items.length ≤ 37 ∧ ∀ y ∈ items, It y := by
    refine Dr.mono (Dr.for (n := 4) (i := 0) (fun i env => ∃ items x6 x7, env = [some (Md.fz, PV.rng), some (Md.fz, net), some (Md.fz, PV.int ((M : Nat) : Int)), some (Md.o1, PV.lst sl), x4, some (Md.o1, PV.lst items), x6, x7, none, none, none] ∧ items.length ≤ 13 + i ∧ i ≤ 24 ∧ ∀ y ∈ items, It y) ⟨I0, none, none, rfl, Nat.le_of_eq hl0, by omega, hn0⟩ fun i y env hy hI => ?_) (by rw [lenR]; decide) fun p hp => ⟨hp.1, ?_⟩
    · obtain ⟨items, x6, x7, rfl, hl, hi, hit⟩ := hI
      have hlt := (List.getElem?_eq_some_iff.mp hy).1
      rw [lenR] at hlt
      refine ⟨_, rfl, ?_⟩
      conv => enter [1]; rw [l3_law_check]
      walk_at "pure"
      rw [run_draw (k := k) (by omega) _ (by omega) (by omega)]
      walk_at "pure"
      refine Dr.mono (Dr.draw (n := 3) fun v v0 v1 => ?_) (by omega) fun a q => q
      have p1 := pick2_dr (F := F) (k := k) (by omega) s_start s_end
      generalize prun F Hn0 k n__law_pick [.rng, .lst [.str s_start, .str s_end]] = t at p1 ⊢
      apply Dr.ctx (m := 2) (t := t) p1
      · intro j k
        rfl
      · omega
      intro a ha
      obtain ⟨z1, rfl, hy1⟩ := ha
      walk_at "pure"
      rw [run_draw (k := k) (by omega) _ (by omega) (by omega)]
      walk_at "pure"
      refine Dr.mono (Dr.draw (n := 1) fun u u0 u1 => ?_) (by omega) fun a q => q
      have p2 := pick2_dr (F := F) (k := k) (by omega) s_forward s_backward
      generalize prun F Hn0 k n__law_pick [.rng, .lst [.str s_forward, .str s_backward]] = t at p2 ⊢
      apply Dr.ctx (m := 0) (t := t) p2
      · intro j k
        rfl
      · omega
      intro a ha
      obtain ⟨z2, rfl, hy2⟩ := ha
      walk_at "pure"
      rw [fits_le' (n := qlen items + 1) (show items.length + 1 ≤ _ by omega)]
      walk_at "pure"
      have c1 := str_c n_start n_end hy1
      have c2 := str_c n_fw n_bw hy2
      have new : It (.tup [.int (v - 1), .str z1, .int (u - 1), .str z2]) :=
        (Ncs.tup (M := 10) (L := 9) (d := 0) (c := 4 + 2 + (100 + 2 + (4 + 2 + (100 + 2 + 0)))) (.cons (c1 := 4) (int_nc (by omega) (by omega) (Nat.le_refl _)) (.cons c1 (.cons (c1 := 4) (int_nc (by omega) (by omega) (Nat.le_refl _)) (.cons c2 .nil))))).mono (by omega) (by omega) (by omega) (by omega)
      exact Dr.ret ⟨rfl, _, _, _, rfl, by show (items ++ [_]).length ≤ _; rw [List.length_append, List.length_singleton]; omega, by omega, fun y hy => by
        rcases List.mem_append.mp (show y ∈ items ++ [_] from hy) with hy | hy
        · exact hit y hy
        · exact List.mem_singleton.mp hy ▸ new⟩
    · obtain ⟨_, items, x6, x7, e, h1, _, h2⟩ := hp
      rw [lenR] at h1
      exact ⟨items, x6, x7, e, h1, h2⟩
  generalize forP _ _ _ _ = t at l3 ⊢
  apply Dr.ctx (m := 6600) (t := t) l3
  · intro j k
    rfl
  · omega
  intro a ha
  obtain ⟨fl, env⟩ := a
  obtain ⟨rfl, items, x6, x7, rfl, hil, hit⟩ := ha
  walk_at "pure"
  have q1 := len_cut sl none (some 8)
  have q2 := len_cut sl (some (-4)) none
  have mc : ∀ lo hi, ∀ y ∈ cutP sl lo hi, SlN y := fun lo hi y hy => hsl y (List.mem_of_mem_drop (List.mem_of_mem_take (show y ∈ (sl.drop _).take _ from hy)))
  have m1 := mc none (some 8)
  have m2 := mc (some (-4)) none
  generalize cutP sl none (some 8) = s1 at q1 m1 ⊢
  generalize cutP sl (some (-4)) none = s2 at q2 m2 ⊢
  rw [fits_le' (n := qlen s1 + qlen s2) (show s1.length + s2.length ≤ _ by omega)]
  walk_at "pure"
  have mvl : (qapp s1 s2).length ≤ 576 := by show (s1 ++ s2).length ≤ _; rw [List.length_append]; omega
  have mvm : ∀ y ∈ qapp s1 s2, SlN y := fun y hy => (List.mem_append.mp (show y ∈ s1 ++ s2 from hy)).elim (m1 y) (m2 y)
  generalize qapp s1 s2 = mv at mvl mvm ⊢
  have l2 : Dr (forP (pexs { call := prun F Hn0 k, kord := ko, dp := [], mv := [] } l2_law_check) (ITg.name 8) mv [some (Md.fz, PV.rng), some (Md.fz, net), some (Md.fz, PV.int ((M : Nat) : Int)), some (Md.o1, PV.lst sl), x4, some (Md.o1, PV.lst items), x6, x7, none, none, none]) 4608 fun p => p.1 = PFl.next ∧ ∃ items' x8, p.2 = [some (Md.fz, PV.rng), some (Md.fz, net), some (Md.fz, PV.int ((M : Nat) : Int)), some (Md.o1, PV.lst sl), x4, some (Md.o1, PV.lst items'), x6, x7, x8, none, none] ∧ items'.length ≤ 2000 ∧ ∀ y ∈ items', It y := by
    refine Dr.mono (Dr.for (n := 8) (i := 0) (fun i env => ∃ items' x8, env = [some (Md.fz, PV.rng), some (Md.fz, net), some (Md.fz, PV.int ((M : Nat) : Int)), some (Md.o1, PV.lst sl), x4, some (Md.o1, PV.lst items'), x6, x7, x8, none, none] ∧ items'.length ≤ 37 + 3 * i ∧ i ≤ 576 ∧ ∀ y ∈ items', It y) ⟨items, none, rfl, by omega, by omega, hit⟩ fun i y env hy hI => ?_) (by omega) fun p hp => ⟨hp.1, ?_⟩
    · obtain ⟨items', x8, rfl, hl, hi, hit'⟩ := hI
      have hlt := (List.getElem?_eq_some_iff.mp hy).1
      obtain ⟨sn, xs, rfl⟩ := mvm y (List.mem_of_getElem? hy)
      have sl2 : Nc 9 8 1 160 (.lst xs) := ⟨sn.sm, sn.dep, sn.cost⟩
      refine ⟨_, rfl, ?_⟩
      conv => enter [1]; rw [l2_law_check]
      walk_at "pure"
      have q := mutate_dr (F := F) (M := 9) (L := 8) (by omega) (by omega) (by omega) (by omega) 1 k 1 160 (.tup xs) sn.dep (by omega) (by omega) (by omega) sn
      generalize prun F Hn0 k n__law_mutate [.rng, .tup xs] = t at q ⊢
      apply Dr.ctx (m := 0) (t := t) q
      · intro j k
        rfl
      · omega
      intro a ha
      obtain ⟨w, rfl, hw⟩ := ha
      walk_at "pure"
      rw [fits_le' (n := qlen items' + 3) (show items'.length + 3 ≤ _ by omega)]
      walk_at "pure"
      exact Dr.ret ⟨rfl, _, _, rfl, by show (items' ++ [_, _, _]).length ≤ _; rw [List.length_append]; show items'.length + 3 ≤ _; omega, by omega, fun y hy => by
        rcases List.mem_append.mp (show y ∈ items' ++ [_, _, _] from hy) with hy | hy
        · exact hit' y hy
        · rcases List.mem_cons.mp hy with rfl | hy
          · exact sn.mono (by omega) (by omega) (by omega) (by omega)
          · rcases List.mem_cons.mp hy with rfl | hy
            · exact sl2.mono (by omega) (by omega) (by omega) (by omega)
            · exact List.mem_singleton.mp hy ▸ hw.mono (by omega) (by omega) (by omega) (by omega)⟩
    · obtain ⟨_, items', x8, e, h1, h2, h3⟩ := hp
      exact ⟨items', x8, e, by omega, h3⟩
  generalize forP _ _ _ _ = t at l2 ⊢
  apply Dr.ctx (m := 0) (t := t) l2
  · intro j k
    rfl
  · omega
  intro a ha
  obtain ⟨fl, env⟩ := a
  obtain ⟨rfl, items', x8, rfl, hil', hit'⟩ := ha
  walk_at "pure"
  have onet : okV (netV true r s ps) = true := hN0.ok (by decide)
  have ls : prun F Hn0 k n__law_listed [net] = .ret (.o1, netV false r s ps) := by
    rw [hnet, listed_eq 6 k (netV true r s ps) onet (by have := hN0.dep; omega) (by have := hN0.dep; omega) (by have := hN0.cost; omega), lstd_net ok]
    rfl
  have l1 : Dr (forP (pexs { call := prun F Hn0 k, kord := ko, dp := [], mv := [] } l1_law_check) (ITg.name 7) items' [some (Md.fz, PV.rng), some (Md.fz, net), some (Md.fz, PV.int ((M : Nat) : Int)), some (Md.o1, PV.lst sl), x4, some (Md.fz, PV.lst items'), x6, x7, x8, none, none]) 0 fun p => p.1 = PFl.next := by
    refine Dr.mono (Dr.for (n := 0) (i := 0) (fun i env => ∃ x7 x9 x10, env = [some (Md.fz, PV.rng), some (Md.fz, net), some (Md.fz, PV.int ((M : Nat) : Int)), some (Md.o1, PV.lst sl), x4, some (Md.fz, PV.lst items'), x6, x7, x8, x9, x10]) ⟨_, _, _, rfl⟩ fun j x env hx hI => ?_) (by omega) fun p hp => hp.1
    obtain ⟨x7, x9, x10, rfl⟩ := hI
    have hN : Nc 10 9 4 1100 x := hit' x (List.mem_of_getElem? hx)
    have ho := hN.ok (by decide)
    have hd : dep x < 20 := by have := hN.dep; omega
    have li := lis_slide_eq (F := F) (k := k) (by omega) (r := r) (s := s) (by omega) ok ho hd
    have i1 := is_slide_eq (F := F) (k := k) (by omega) (r := r) (s := s) (by omega) ok ho hd true
    have i2 := is_slide_eq (F := F) (k := k) (by omega) (r := r) (s := s) (by omega) ok ho hd false
    rw [← hnet] at li i1
    refine ⟨_, rfl, ?_⟩
    conv => enter [1]; rw [l1_law_check]
    walk_at "pure"
    obtain ⟨sr, hr, hs⟩ := repr_same ho (by omega) (by have := hN.cost; omega)
    rw [hr]
    walk_at "pure"
    rw [li]
    generalize isSl ps x = b at i1 i2 ⊢
    walk_at "pure"
    rw [i1]
    walk_at "pure"
    rw [ls]
    walk_at "pure"
    rw [hko _ (by decide)]
    walk_at "pure"
    rw [i2]
    walk_at "pure"
    rw [same_self k (.lst [.bl b, .bl b]) rfl (show 1 < k by omega) (show 1 < 20 by omega) (show _ ≤ _ from by cases b <;> decide)]
    walk_at "pure"
    rw [hr]
    walk_at "pure"
    rw [hs]
    walk_at "pure"
    exact Dr.ret ⟨rfl, _, _, _, rfl⟩
  generalize forP _ _ _ _ = t at l1 ⊢
  apply Dr.ctx (m := 0) (t := t) l1
  · intro j k
    rfl
  · omega
  intro a ha
  obtain ⟨fl, env⟩ := a
  have ha : fl = .next := ha
  subst ha
  walk_at "pure"
  exact Dr.ret rfl
end
end LawK11
namespace LawK11
open PySem L2 DI LP
section
def n_law : Str := "law"
variable {F : Tab} {k : Nat} {ns : List Int} [hlaw : HasFn F "law" (.code ["_law_script"] 4 b_law)] [hbox : HasFn F n__law_box .box] [hchk : HasFn F n__law_check f_chk] [HasFn F n__law_draw .draw] [HasFn F n__law_pick f_law_pick] [HasFn F n__law_replaced f_law_replaced] [HasFn F n__law_mutate f_law_mutate] [HasFn F n__law_shuffle f_law_shuffle] [HasFn F n__law_same f_law_same] [HasFn F n_is_plain_int f_is_plain_int] [HasFn F n_is_number_below f_is_number_below] [HasFn F n_inverse f_inverse] [HasFn F n_crossing f_crossing] [HasFn F n_end_room f_end_room] [HasFn F n_is_slide f_is_slide] [HasFn F n__law_listed f_law_listed] [HasFn F n__law_permutation f_law_permutation] [HasFn F n__law_passage f_law_passage] [HasFn F n__law_house f_law_house] [HasFn F n__law_inverse f_law_inverse] [HasFn F n__law_ends f_law_ends] [HasFn F n__law_is_slide f_law_is_slide] [HasFn F n__law_slides f_law_slides]
theorem run_box (hk : 1 ≤ k) {i : Nat} (hi : i < 1000) : prun F Hn0 k n__law_box [.scr ns, .int (((i : Nat) : Int))] = .ret (.fz, .rng) := by
  obtain ⟨k, rfl, _⟩ := up hk
  unfold prun
  rw [hbox.eq]
  dsimp only
  rw [show decide (0 ≤ ((i : Nat) : Int)) = true from decide_eq_true (Int.natCast_nonneg i), show decide (((i : Nat) : Int) < 1000) = true from decide_eq_true (Int.ofNat_lt.mpr hi)]
  rfl
theorem run_law (a : PV) : prun F Hn0 (k + 1) "law" [a] = (pexs (cf F k) b_law [some (.fz, a), none, none, none]).nox.bind fin := run_code0 hlaw rfl rfl rfl
theorem law_dr1 (hk : 22 ≤ k) (ns : List Int) (hns : ns.length ≤ 63) : Dr (prun F Hn0 k "law" [.scr ns]) 84000 fun r => r.2 = .bl true := by
  obtain ⟨k, rfl, hk1⟩ := up (n := 21) hk
  rw [run_law]
  walk_at "pure"
  obtain ⟨m, hm⟩ : ∃ m, m = (1 + (minI 3 (nI (qlen ns)))) := ⟨_, rfl⟩
  have m1 : 1 ≤ m ∧ m ≤ 4 := by
    rw [hm]
    show 1 ≤ 1 + (if ((ns.length : Nat) : Int) < 3 then ((ns.length : Nat) : Int) else 3) ∧ 1 + (if ((ns.length : Nat) : Int) < 3 then ((ns.length : Nat) : Int) else 3) ≤ 4
    split <;> omega
  rw [← hm]
  clear hm
  rw [rg1B_ok (by omega) (by omega)]
  walk_at "pure"
  have hl : (rg1P m).length ≤ 4 := by rw [rg1P_len]; omega
  rw [fits_le' (n := qlen (rg1P m)) (show (rg1P m).length ≤ _ by omega)]
  walk_at "pure"
  rw [plc_q (fun _ => .rng) (by
    intro y hy
    obtain ⟨i, hi, rfl⟩ := List.mem_map.mp hy
    have hi : i < 4 := by have := List.mem_range.mp hi; omega
    walk_at "pure"
    rw [run_box (k := k) (by omega) (show i < 1000 by omega)]
    (walk_at "pure") <;> rfl)]
  walk_at "pure"
  have hr : ∀ x ∈ qmap (fun _ => PV.rng) (rg1P m), x = .rng := fun x hx => by
    obtain ⟨_, _, rfl⟩ := List.mem_map.mp hx
    rfl
  have hl : (qmap (fun _ => PV.rng) (rg1P m)).length ≤ 4 := by
    show (List.map _ _).length ≤ 4
    rw [List.length_map]
    exact hl
  generalize qmap (fun _ => PV.rng) (rg1P m) = R at hr hl ⊢
  rw [show repB 3 (qlen R) = true by
    show repB 3 R.length = true
    obtain h | h | h | h | h : R.length = 0 ∨ R.length = 1 ∨ R.length = 2 ∨ R.length = 3 ∨ R.length = 4 := by omega
    all_goals rw [h]; rfl]
  walk_at "pure"
  have hr3 : ∀ x ∈ qapp R (qapp R R), x = .rng := fun x hx => by
    rcases List.mem_append.mp (show x ∈ R ++ (R ++ R) from hx) with hx | hx
    · exact hr x hx
    · exact (List.mem_append.mp hx).elim (hr x) (hr x)
  have hl3 : (qapp R (qapp R R)).length ≤ 12 := by
    show (R ++ (R ++ R)).length ≤ 12
    rw [List.length_append, List.length_append]
    omega
  generalize qapp R (qapp R R) = S at hr3 hl3 ⊢
  rw [fits_le' (n := qlen S) (show S.length ≤ _ by omega)]
  walk_at "pure"
  generalize hpl : plc _ S = t
  have pl : Dr t 84000 fun ys => ∀ y ∈ ys, y = PV.bl true := by
    rw [← hpl]
    refine Dr.mono (Dr.plc (n := 7000) (Q := fun _ y => y = .bl true) fun x hx => ?_) (by omega) fun ys h y hy => ?_
    · cases hr3 x hx
      walk_at "pure"
      have ck := check_dr (F := F) (k := k) (by omega)
      generalize prun F Hn0 k n__law_check [.rng] = u at ck ⊢
      apply Dr.ctx (m := 0) (t := u) ck
      · intro j k
        rfl
      · omega
      intro a ha
      subst ha
      walk_at "pure"
      exact Dr.ret ⟨_, rfl, rfl⟩
    · obtain ⟨i, hi⟩ := List.getElem?_of_mem hy
      have hlt := (List.getElem?_eq_some_iff.mp hi).1
      rw [h.1] at hlt
      exact h.2 i S[i] y (List.getElem?_eq_getElem hlt) hi
  clear hpl
  apply Dr.ctx (m := 0) (t := t) pl
  · intro j k
    rfl
  · omega
  intro ys hys
  have hz : ys = qmap (fun _ => PV.bl true) ys := by
    show ys = ys.map fun _ => PV.bl true
    exact (List.map_id ys).symm.trans (List.map_congr_left fun y hy => hys y hy)
  rw [hz]
  walk_at "pure"
  exact Dr.ret rfl
end
instance : HasFn T.F n__law_check f_chk := ⟨rfl⟩
instance : HasFn T.F n__law_box .box := ⟨rfl⟩
instance : HasFn T.F "law" (.code ["_law_script"] 4 b_law) := ⟨rfl⟩
theorem law_any (k : Nat) (hk : 22 ≤ k) (ns : List Int) (hns : ns.length ≤ 63) : Tri (run T.F k "law" [.ref 0] [.lst false (ns.map D.int)]) (2 ^ 40) (fun _ p => p.1 = .bl true) NX := by
  have h : ∀ ns : List Int, ns.length ≤ 63 → Dr (prun T.F Hn0 k "law" [.scr ns]) 84000 fun x => x.2 = .bl true := fun ns h => law_dr1 hk ns h
  exact law_dr (by decide) h ns hns
theorem law_holds : ∀ ns : List Int, ns.length ≤ 63 → Tri (run T.F (21 + 1) "law" [.ref 0] [.lst false (ns.map D.int)]) (2 ^ 40) (fun _ p => p.1 = .bl true) NX := law_any (21 + 1) (Nat.le_refl 22)
end LawK11
end
open PySem PySem.W PyProof.Rows
set_option maxHeartbeats 0 in
theorem PySem.Challenge.cw_elderways_k11_is_slide_holds : PySem.Challenge.rw_elderways_k11_is_slide.Holds := by
  w_on; o_law; k_head; (case hw => w_witness2)
  k_fill
  refine DI.walkG (l := PySem.Challenge.rw_elderways_k11_is_slide) (n := 63) (k := 21 + 1) (x := "_law_script") (f := "law") (F := LawK11.T.F) (RX := fun _ _ _ _ => False) rfl (by decide) rfl ⟨rfl, by decide, by decide⟩ (fun w h Y => PySem.W.kIn_of Y) ?F LawK11.law_holds
  case F =>
    intro w mg fa h KX G hmg
    refine' LawK11.all_mk KX G hmg (a0 := ?a0) (l0 := ?l0) (c0 := ?c0) (k0 := ?k0) (a1 := ?a1) (l1 := ?l1) (c1 := ?c1) (k1 := ?k1) (a2 := ?a2) (l2 := ?l2) (c2 := ?c2) (k2 := ?k2) (a3 := ?a3) (l3 := ?l3) (c3 := ?c3) (k3 := ?k3) (a4 := ?a4) (l4 := ?l4) (c4 := ?c4) (k4 := ?k4) (a5 := ?a5) (l5 := ?l5) (c5 := ?c5) (k5 := ?k5) (a6 := ?a6) (l6 := ?l6) (c6 := ?c6) (k6 := ?k6) (a7 := ?a7) (l7 := ?l7) (c7 := ?c7) (k7 := ?k7) (a8 := ?a8) (l8 := ?l8) (c8 := ?c8) (k8 := ?k8) (a9 := ?a9) (l9 := ?l9) (c9 := ?c9) (k9 := ?k9) (a10 := ?a10) (l10 := ?l10) (c10 := ?c10) (k10 := ?k10) (a11 := ?a11) (l11 := ?l11) (c11 := ?c11) (k11 := ?k11) (a12 := ?a12) (l12 := ?l12) (c12 := ?c12) (k12 := ?k12) (a13 := ?a13) (l13 := ?l13) (c13 := ?c13) (k13 := ?k13) (a14 := ?a14) (l14 := ?l14) (c14 := ?c14) (k14 := ?k14) (a15 := ?a15) (l15 := ?l15) (c15 := ?c15) (k15 := ?k15) (a16 := ?a16) (l16 := ?l16) (c16 := ?c16) (k16 := ?k16) (a17 := ?a17) (l17 := ?l17) (c17 := ?c17) (k17 := ?k17) (a18 := ?a18) (l18 := ?l18) (c18 := ?c18) (k18 := ?k18) (a19 := ?a19) (l19 := ?l19) (c19 := ?c19) (k19 := ?k19) (a20 := ?a20) (l20 := ?l20) (c20 := ?c20) (k20 := ?k20) (a21 := ?a21) (l21 := ?l21) (c21 := ?c21) (k21 := ?k21) (a22 := ?a22) (l22 := ?l22) (c22 := ?c22) (k22 := ?k22) (z_len := ?z_len) (z_list := ?z_list) (z_tuple := ?z_tuple) (z_all := ?z_all) (z_any := ?z_any) (z_abs := ?z_abs) (z_int := ?z_int) (z_bool := ?z_bool) (z_str := ?z_str) (z_repr := ?z_repr) (z_min := ?z_min) (z_max := ?z_max) (z_sorted := ?z_sorted) (z_range := ?z_range) (z_enumerate := ?z_enumerate) (z_zip := ?z_zip) (z_isinstance := ?z_isinstance) (g_SIDES := ?g_SIDES) (h_SIDES := ?h_SIDES) (g_DIRECTIONS := ?g_DIRECTIONS) (h_DIRECTIONS := ?h_DIRECTIONS) (s_SIDES := ?s_SIDES) (v_SIDES := ?v_SIDES) (s_DIRECTIONS := ?s_DIRECTIONS) (v_DIRECTIONS := ?v_DIRECTIONS)
    (case a0 => k_is); (case l0 => k_is); (case c0 => k_is); (case k0 => k_is); (case a1 => k_is); (case l1 => k_is); (case c1 => k_is); (case k1 => k_is); (case a2 => k_is); (case l2 => k_is); (case c2 => k_is); (case k2 => k_is); (case a3 => k_is); (case l3 => k_is); (case c3 => k_is); (case k3 => k_is); (case a4 => k_is); (case l4 => k_is); (case c4 => k_is); (case k4 => k_is); (case a5 => k_is); (case l5 => k_is); (case c5 => k_is); (case k5 => k_is); (case a6 => k_is); (case l6 => k_is); (case c6 => k_is); (case k6 => k_is); (case a7 => k_is); (case l7 => k_is); (case c7 => k_is); (case k7 => k_is); (case a8 => k_is); (case l8 => k_is); (case c8 => k_is); (case k8 => k_is); (case a9 => k_is); (case l9 => k_is); (case c9 => k_is); (case k9 => k_is); (case a10 => k_is); (case l10 => k_is); (case c10 => k_is); (case k10 => k_is); (case a11 => k_is); (case l11 => k_is); (case c11 => k_is); (case k11 => k_is); (case a12 => k_is); (case l12 => k_is); (case c12 => k_is); (case k12 => k_is); (case a13 => k_is); (case l13 => k_is); (case c13 => k_is); (case k13 => k_is); (case a14 => k_is); (case l14 => k_is); (case c14 => k_is); (case k14 => k_is); (case a15 => k_is); (case l15 => k_is); (case c15 => k_is); (case k15 => k_is); (case a16 => k_is); (case l16 => k_is); (case c16 => k_is); (case k16 => k_is); (case a17 => k_is); (case l17 => k_is); (case c17 => k_is); (case k17 => k_is); (case a18 => k_is); (case l18 => k_is); (case c18 => k_is); (case k18 => k_is); (case a19 => k_is); (case l19 => k_is); (case c19 => k_is); (case k19 => k_is); (case a20 => k_is); (case l20 => k_is); (case c20 => k_is); (case k20 => k_is); (case a21 => k_is); (case l21 => k_is); (case c21 => k_is); (case k21 => k_is); (case a22 => k_is); (case l22 => k_is); (case c22 => k_is); (case k22 => k_is); (case z_len => k_is); (case z_list => k_is); (case z_tuple => k_is); (case z_all => k_is); (case z_any => k_is); (case z_abs => k_is); (case z_int => k_is); (case z_bool => k_is); (case z_str => k_is); (case z_repr => k_is); (case z_min => k_is); (case z_max => k_is); (case z_sorted => k_is); (case z_range => k_is); (case z_enumerate => k_is); (case z_zip => k_is); (case z_isinstance => k_is); (case g_SIDES => k_is); (case h_SIDES => k_is); (case g_DIRECTIONS => k_is); (case h_DIRECTIONS => k_is); (case s_SIDES => exact Nat.le_of_ble_eq_true rfl); (case v_SIDES => exact .cons ⟨_, rfl⟩ (.cons ⟨_, rfl⟩ .nil)); (case s_DIRECTIONS => exact Nat.le_of_ble_eq_true rfl); (case v_DIRECTIONS => exact .cons ⟨_, rfl⟩ (.cons ⟨_, rfl⟩ .nil))
