/- Trees of a program; which ones are right, as the program asks (P) and as the document's function asks (R): plain. -/
import Derived.Lib.Strings
namespace Go.Proofs.Ytihmdcdifakepab.Sc
set_option linter.unusedVariables false

/-- a slice: where it lies, its room, what is in it -/
structure Sli (β : Type) where
  at' : Option Addr
  cap : Nat
  xs : List β

/-- a node but for its kids -/
structure Nd where
  kind : Int
  pl : Int
  name : ByteArray
  num : Int
  op : ByteArray

/-- trees of so many levels at most -/
def Tr : Nat → Type
  | 0 => Empty
  | n + 1 => Nd × Sli (Tr n)

def kdT : (n : Nat) → Tr n → Int
  | 0, t => nomatch (t : Empty)
  | _ + 1, (x, _) => x.kind
def plT : (n : Nat) → Tr n → Int
  | 0, t => nomatch (t : Empty)
  | _ + 1, (x, _) => x.pl
def nkT : (n : Nat) → Tr n → Nat
  | 0, t => nomatch (t : Empty)
  | _ + 1, (_, s) => s.xs.length

/-- what is asked of a kid -/
structure Kid (α : Type) where
  kd : α → Int
  pl : α → Int
  nk : α → Nat
def kidT (n : Nat) : Kid (Tr n) := ⟨kdT n, plT n, nkT n⟩

abbrev St := List Int × List Int

def takeU (st : St) (a : Int) : Option St := if a ∈ st.1 then none else some (a :: st.1, st.2)
def takeD (st : St) (a : Int) : Option St := if a ∈ st.2 then none else some (st.1, a :: st.2)

def kd0 {α : Type} (K : Kid α) (xs : List α) (i : Nat) : Int := (xs[i]?.map K.kd).getD 0

def isS (s : ByteArray) (l : List UInt8) : Bool := s.toList == l

def isExprB (k : Int) : Bool := decide (1 ≤ k) && decide (k ≤ 22) && k != 11
def isStmtB (k : Int) : Bool := decide (34 ≤ k) && decide (k ≤ 46)
def mayLackB (p : UInt8) : Bool := p == 69 || p == 83 || p == 66
def isPartB (p : UInt8) (k : Int) : Bool :=
  if p = 101 ∨ p = 69 then isExprB k
  else if p = 103 then k == 3 || k == 13
  else if p = 115 ∨ p = 83 then isStmtB k
  else if p = 105 then isStmtB k || k == 31 || k == 32 || k == 33
  else if p = 98 ∨ p = 66 then k == 44
  else if p = 112 then k == 11
  else k == 3

def partsI (k : Int) (n : Nat) : List UInt8 :=
  if k = 9 then List.replicate n 101
  else if k = 14 ∨ k = 15 then List.replicate (max n 1) 101
  else if k = 10 then List.replicate n 112
  else if k = 44 ∨ k = 47 then List.replicate n 105
  else if k = 12 ∨ k = 33 then List.replicate (n - 1) 110 ++ [98]
  else if k = 11 ∨ k = 13 ∨ k = 18 ∨ k = 19 then [101, 101]
  else if k = 21 then [103, 101]
  else if k = 17 then [103]
  else if k = 20 then [101, 101, 101]
  else if k = 16 ∨ k = 32 ∨ k = 42 ∨ k = 46 then [101]
  else if k = 22 ∨ k = 31 ∨ k = 34 then [69]
  else if k = 35 then [101, 115, 83]
  else if k = 36 ∨ k = 38 then [101, 115]
  else if k = 37 then [69, 69, 69, 115]
  else if k = 41 then [115]
  else if k = 43 then [98, 66, 66]
  else []

def unaryL : List (List UInt8) := [[100, 101, 108, 101, 116, 101], [118, 111, 105, 100], [116, 121, 112, 101, 111, 102], [43], [45], [126], [33]]
def updateL : List (List UInt8) := [[43, 43], [45, 45]]
def binaryPL : List (List UInt8) := [[124], [94], [38], [61, 61], [33, 61], [61, 61, 61], [33, 61, 61], [60], [60, 61], [62], [62, 61], [105, 110], [105, 110, 115, 116, 97, 110, 99, 101, 111, 102], [60, 60], [62, 62], [62, 62, 62], [43], [45], [42], [47], [37]]
def binaryRL : List (List UInt8) := [[43], [45], [42], [47], [37], [60, 60], [62, 62], [62, 62, 62], [38], [124], [94], [60], [60, 61], [62], [62, 61], [61, 61], [33, 61], [61, 61, 61], [33, 61, 61], [105, 110], [105, 110, 115, 116, 97, 110, 99, 101, 111, 102]]
def logicL : List (List UInt8) := [[38, 38], [124, 124]]
def assignL : List (List UInt8) := [[61], [43, 61], [45, 61], [42, 61], [47, 61], [37, 61], [60, 60, 61], [62, 62, 61], [62, 62, 62, 61], [38, 61], [124, 61], [94, 61]]
def propL : List (List UInt8) := [[105, 110, 105, 116], [103, 101, 116], [115, 101, 116]]
def ofL : List (List UInt8) := [[108, 101, 116], [99, 111, 110, 115, 116]]
def preS : List UInt8 := [112, 114, 101]
def postS : List UInt8 := [112, 111, 115, 116]

def oneB (s : ByteArray) (l : List (List UInt8)) : Bool := l.contains s.toList

def rightOpB (x : Nd) : Bool :=
  if x.kind = 12 ∨ x.kind = 33 then isS x.op [42] || isS x.op []
  else if x.kind = 11 then oneB x.op propL
  else if x.kind = 16 then oneB x.op unaryL
  else if x.kind = 17 then oneB x.op updateL
  else if x.kind = 18 then oneB x.op binaryPL
  else if x.kind = 19 then oneB x.op logicL
  else if x.kind = 21 then oneB x.op assignL
  else if x.kind = 38 then oneB x.op ofL
  else true

def isFnB (x : Nd) : Bool := x.kind == 12 || x.kind == 33
def selfB (x : Nd) : Bool := x.kind == 12 && !isS x.name []

def declB {α : Type} (K : Kid α) (x : Nd) (xs : List α) : Bool :=
  if x.kind = 31 ∨ x.kind = 32 ∨ x.kind = 33 ∨ x.kind = 38 then true
  else if x.kind = 43 then kd0 K xs 1 != 0
  else selfB x

def hereP {α : Type} (K : Kid α) (x : Nd) (xs : List α) (star : Bool) (st : St) : Option St :=
  if x.kind = 3 then takeU st x.pl
  else if x.kind = 17 then (if isS x.name preS || isS x.name postS then some st else none)
  else if x.kind = 22 then (if star then some st else none)
  else if x.kind = 43 ∧ kd0 K xs 1 = 0 ∧ kd0 K xs 2 = 0 then none
  else if declB K x xs = true then takeD st x.pl else some st

def kidsP {α : Type} (f : UInt8 → α → Bool → St → Option St) (star : Bool) : List UInt8 → List α → St → Option St
  | p :: ps, k :: ks, st => (f p k star st).bind (kidsP f star ps ks)
  | _, _, st => some st

def rightP {α : Type} (K : Kid α) (f : UInt8 → α → Bool → St → Option St) (x : Nd) (xs : List α) (star : Bool) (st : St) : Option St :=
  if (partsI x.kind xs.length).length ≠ xs.length then none
  else if rightOpB x = false then none
  else (hereP K x xs star st).bind (kidsP f (if isFnB x = true then isS x.op [42] else star) (partsI x.kind xs.length) xs)

def partP : (n : Nat) → UInt8 → Tr n → Bool → St → Option St
  | 0, _, t, _, _ => nomatch (t : Empty)
  | n + 1, p, (x, s), star, st =>
    if x.kind = 0 then (if mayLackB p = true ∧ s.xs.length = 0 then some st else none)
    else if isPartB p x.kind = false then none
    else if p = 110 then (if s.xs.length = 0 then takeD st x.pl else none)
    else rightP (kidT n) (partP n) x s.xs star st

/-- the program's: room, levels -/
def loopH {α : Type} (f : α → Nat → Bool × Nat) : List α → Nat → Bool × Nat
  | [], r => (true, r)
  | k :: ks, r => if (f k r).1 = true then loopH f ks (f k r).2 else (false, (f k r).2)

def holdsT : (n : Nat) → Nat → Tr n → Nat → Bool × Nat
  | 0, _, t, _ => nomatch (t : Empty)
  | n + 1, lv, (x, s), r => if r = 0 ∨ lv = 0 then (false, r) else loopH (holdsT n (lv - 1)) s.xs (r - 1)

def rootP : (n : Nat) → Tr n → Bool
  | 0, t => nomatch (t : Empty)
  | n + 1, (x, s) => x.kind == 47 && (holdsT (n + 1) 300 ((x, s) : Nd × Sli (Tr n)) 131072).1 && (rightP (kidT n) (partP n) x s.xs false ([], [])).isSome

/-! The document's -/
abbrev RS := Option St
def decR (a : Int) (st : RS) : RS := st.bind fun s => takeD s a
def useR (a : Int) (st : RS) : RS := st.bind fun s => takeU s a

def kidsR (k : Int) : Int :=
  if k = 34 ∨ k = 41 ∨ k = 42 ∨ k = 46 then 1
  else if k = 36 ∨ k = 38 then 2
  else if k = 35 ∨ k = 43 then 3
  else if k = 37 then 4
  else if k = 39 ∨ k = 40 ∨ k = 45 then 0
  else -1

/-- how many kids at least, at most (below 0: any); is the sign one of its own? -/
def shapeR (x : Nd) : Int × Int × Bool :=
  if 1 ≤ x.kind ∧ x.kind ≤ 8 then (0, 0, true)
  else if x.kind = 9 ∨ x.kind = 10 then (0, -1, true)
  else if x.kind = 13 then (2, 2, true)
  else if x.kind = 14 ∨ x.kind = 15 then (1, -1, true)
  else if x.kind = 16 then (1, 1, oneB x.op unaryL)
  else if x.kind = 17 then (1, 1, oneB x.op updateL)
  else if x.kind = 18 then (2, 2, oneB x.op binaryRL)
  else if x.kind = 19 then (2, 2, oneB x.op logicL)
  else if x.kind = 20 then (3, 3, true)
  else if x.kind = 21 then (2, 2, oneB x.op assignL)
  else if x.kind = 22 then (1, 1, true)
  else (1, 0, true)

section
variable {α : Type} (K : Kid α) (f : Nat → α → Bool → RS → RS)

def foldR (g : α → RS → RS) : List α → RS → RS
  | [], st => st
  | k :: ks, st => foldR g ks (g k st)

def bodyR (xs : List α) (gen : Bool) (st : RS) : RS := foldR (fun k st => f 3 k gen st) xs st
def emptyR (xs : List α) (st : RS) : RS := if 0 < xs.length then none else st

/-- a parameter -/
def paramR (k : α) (st : RS) : RS := if K.kd k ≠ 3 ∨ 0 < K.nk k then none else decR (K.pl k) st

def lastR (xs : List α) (gen : Bool) (st : RS) : RS :=
  match xs[xs.length - 1]? with
  | some k => f 4 k gen st
  | none => none

def functR (x : Nd) (xs : List α) (st : RS) : RS :=
  if xs.length = 0 ∨ (isS x.op [] = false ∧ isS x.op [42] = false) ∨ kd0 K xs (xs.length - 1) ≠ 44 then none
  else lastR f xs (isS x.op [42]) (foldR (paramR K) (xs.take (xs.length - 1)) st)

def termKidR (x : Nd) (gen : Bool) (k : α) (st : RS) : RS :=
  if x.kind = 10 then f 2 k gen st else if x.kind = 22 then f 1 k gen st else f 0 k gen st

def startR (x : Nd) (xs : List α) (gen : Bool) (s : St) : RS :=
  if (x.kind = 17 ∧ isS x.name preS = false ∧ isS x.name postS = false) ∨ (x.kind = 22 ∧ gen = false) then none
  else if (x.kind = 17 ∨ x.kind = 21) ∧ kd0 K xs 0 ≠ 3 ∧ kd0 K xs 0 ≠ 13 then none
  else if x.kind = 3 then useR x.pl (some s) else some s

def termR (x : Nd) (xs : List α) (gen : Bool) (st : RS) : RS :=
  st.bind fun s =>
  if x.kind = 12 then functR K f x xs (if isS x.name [] = false then decR x.pl (some s) else some s)
  else if (shapeR x).2.2 = false ∨ (xs.length : Int) < (shapeR x).1 ∨ (0 ≤ (shapeR x).2.1 ∧ (shapeR x).2.1 < (xs.length : Int)) then none
  else
    foldR (termKidR f x gen) xs (startR K x xs gen s)

def kidR (tag : Nat) (xs : List α) (i : Nat) (gen : Bool) (st : RS) : RS :=
  match xs[i]? with
  | some k => f tag k gen st
  | none => none

def emptyK (xs : List α) (i : Nat) (st : RS) : RS :=
  match xs[i]? with
  | some k => if 0 < K.nk k then none else st
  | none => none

def propR (x : Nd) (xs : List α) (gen : Bool) (st : RS) : RS :=
  if x.kind ≠ 11 ∨ xs.length ≠ 2 ∨ (isS x.op [105, 110, 105, 116] = false ∧ isS x.op [103, 101, 116] = false ∧ isS x.op [115, 101, 116] = false) then none
  else kidR f 0 xs 1 gen (kidR f 0 xs 0 gen st)

def perhapsR (x : Nd) (xs : List α) (gen : Bool) (st : RS) : RS :=
  if x.kind ≠ 0 then termR K f x xs gen st else emptyR xs st

def bracesR (x : Nd) (xs : List α) (gen : Bool) (st : RS) : RS :=
  if x.kind ≠ 44 then none else bodyR f xs gen st

def orR (tag : Nat) (xs : List α) (i : Nat) (gen : Bool) (st : RS) : RS :=
  if kd0 K xs i ≠ 0 then kidR f tag xs i gen st else emptyK K xs i st

def singleR (x : Nd) (xs : List α) (gen : Bool) (st : RS) : RS :=
  st.bind fun s =>
  if x.kind = 44 then bodyR f xs gen (some s)
  else if kidsR x.kind < 0 ∨ kidsR x.kind ≠ (xs.length : Int) then none
  else if x.kind = 34 then kidR f 1 xs 0 gen (some s)
  else if x.kind = 42 ∨ x.kind = 46 then kidR f 0 xs 0 gen (some s)
  else if x.kind = 41 then kidR f 5 xs 0 gen (some s)
  else if x.kind = 36 then kidR f 5 xs 1 gen (kidR f 0 xs 0 gen (some s))
  else if x.kind = 35 then orR K f 5 xs 2 gen (kidR f 5 xs 1 gen (kidR f 0 xs 0 gen (some s)))
  else if x.kind = 37 then kidR f 5 xs 3 gen (kidR f 1 xs 2 gen (kidR f 1 xs 1 gen (kidR f 1 xs 0 gen (some s))))
  else if x.kind = 38 then kidR f 5 xs 1 gen (kidR f 0 xs 0 gen (if isS x.op [108, 101, 116] = false ∧ isS x.op [99, 111, 110, 115, 116] = false then none else decR x.pl (some s)))
  else if x.kind = 43 then
    (if kd0 K xs 1 = 0 ∧ kd0 K xs 2 = 0 then none
     else orR K f 6 xs 2 gen (if kd0 K xs 1 ≠ 0 then kidR f 6 xs 1 gen (decR x.pl (kidR f 6 xs 0 gen (some s))) else emptyK K xs 1 (kidR f 6 xs 0 gen (some s))))
  else some s

def itemR (x : Nd) (xs : List α) (gen : Bool) (st : RS) : RS :=
  if x.kind < 31 ∨ 33 < x.kind then singleR K f x xs gen st
  else if x.kind = 33 then functR K f x xs (decR x.pl st)
  else if xs.length ≠ 1 then none
  else if x.kind = 32 then kidR f 0 xs 0 gen (decR x.pl st)
  else kidR f 1 xs 0 gen (decR x.pl st)
end

/-- 0 term, 1 perhaps, 2 prop, 3 an item, 4 its kids as a body, 5 single, 6 braces -/
def semR : (n : Nat) → Nat → Tr n → Bool → RS → RS
  | 0, _, t, _, _ => nomatch (t : Empty)
  | n + 1, tag, (x, s), gen, st =>
    match tag with
    | 0 => termR (kidT n) (semR n) x s.xs gen st
    | 1 => perhapsR (kidT n) (semR n) x s.xs gen st
    | 2 => propR (semR n) x s.xs gen st
    | 3 => itemR (kidT n) (semR n) x s.xs gen st
    | 4 => bodyR (semR n) s.xs gen st
    | 5 => singleR (kidT n) (semR n) x s.xs gen st
    | _ => bracesR (semR n) x s.xs gen st

def loopC {α : Type} (f : α → Int → Int) : List α → Int → Int
  | [], r => r
  | k :: ks, r => if 0 ≤ r then loopC f ks (f k r) else r

def countT : (n : Nat) → Nat → Tr n → Int → Int
  | 0, _, t, _ => nomatch (t : Empty)
  | n + 1, lv, (x, s), r => if lv = 0 then -1 else loopC (countT n (lv - 1)) s.xs (r - 1)

def rootR : (n : Nat) → Tr n → Bool
  | 0, t => nomatch (t : Empty)
  | n + 1, (x, s) => if x.kind ≠ 47 ∨ countT (n + 1) 300 ((x, s) : Nd × Sli (Tr n)) 131072 < 0 then false else (bodyR (semR n) s.xs false (some ([], []))).isSome

end Go.Proofs.Ytihmdcdifakepab.Sc
