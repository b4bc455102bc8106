/- SA, SB -/
import Derived.Lib.Strings
set_option linter.unusedVariables false
set_option linter.unusedSimpArgs false
set_option maxRecDepth 100000
set_option maxHeartbeats 40000000
namespace Go.Proofs.YtihmdcdifakepaaGreat.Sc
structure Sli (β:Type) where
 at':Option Addr
 cap:Nat
 xs:List β
structure Nd where
 kind:Int
 pl:Int
 name:ByteArray
 num:Int
 op:ByteArray
def Tr:Nat→Type
 | 0=>Empty
 | n+1=>Nd×Sli (Tr n)
def kdT:(n:Nat)→Tr n→Int
 | 0,t=>nomatch (t:Empty)
 | _+1,(x,_)=>x.kind
def plT:(n:Nat)→Tr n→Int
 | 0,t=>nomatch (t:Empty)
 | _+1,(x,_)=>x.pl
def nkT:(n:Nat)→Tr n→Nat
 | 0,t=>nomatch (t:Empty)
 | _+1,(_,s)=>s.xs.length
structure Kid (α:Type) where
 kd:α→Int
 pl:α→Int
 nk:α→Nat
def kidT (n:Nat):Kid (Tr n):=⟨kdT n,plT n,nkT n⟩
abbrev St:=List Int×List Int
def takeU (st:St)(a:Int):Option St:=if a∈st.1 then none else some (a :: st.1,st.2)
def takeD (st:St)(a:Int):Option St:=if a∈st.2 then none else some (st.1,a :: st.2)
def kd0 {α:Type}(K:Kid α)(xs:List α)(i:Nat):Int:=(xs[i]?.map K.kd).getD 0
def isS (s:ByteArray)(l:List UInt8):Bool:=s.toList == l
def isExprB (k:Int):Bool:=decide (1≤k) && decide (k≤22) && k != 11
def isStmtB (k:Int):Bool:=decide (34≤k) && decide (k≤46)
def mayLackB (p:UInt8):Bool:=p == 69 || p == 83 || p == 66
def isPartB (p:UInt8)(k:Int):Bool :=
 if p=101∨p=69 then isExprB k
 else if p=103 then k == 3 || k == 13
 else if p=115∨p=83 then isStmtB k
 else if p=105 then isStmtB k || k == 31 || k == 32 || k == 33
 else if p=98∨p=66 then k == 44
 else if p=112 then k == 11
 else k == 3
def partsI (k:Int)(n:Nat):List UInt8 :=
 if k=9 then List.replicate n 101
 else if k=14∨k=15 then List.replicate (max n 1) 101
 else if k=10 then List.replicate n 112
 else if k=44∨k=47 then List.replicate n 105
 else if k=12∨k=33 then List.replicate (n - 1) 110++[98]
 else if k=11∨k=13∨k=18∨k=19 then [101,101]
 else if k=21 then [103,101]
 else if k=17 then [103]
 else if k=20 then [101,101,101]
 else if k=16∨k=32∨k=42∨k=46 then [101]
 else if k=22∨k=31∨k=34 then [69]
 else if k=35 then [101,115,83]
 else if k=36∨k=38 then [101,115]
 else if k=37 then [69,69,69,115]
 else if k=41 then [115]
 else if k=43 then [98,66,66]
 else []
def unaryL:List (List UInt8):=[[100,101,108,101,116,101],[118,111,105,100],[116,121,112,101,111,102],[43],[45],[126],[33]]
def updateL:List (List UInt8):=[[43,43],[45,45]]
def binaryPL:List (List UInt8):=[[124],[94],[38],[61,61],[33,61],[61,61,61],[33,61,61],[60],[60,61],[62],[62,61],[105,110],[105,110,115,116,97,110,99,101,111,102],[60,60],[62,62],[62,62,62],[43],[45],[42],[47],[37]]
def binaryRL:List (List UInt8):=[[43],[45],[42],[47],[37],[60,60],[62,62],[62,62,62],[38],[124],[94],[60],[60,61],[62],[62,61],[61,61],[33,61],[61,61,61],[33,61,61],[105,110],[105,110,115,116,97,110,99,101,111,102]]
def logicL:List (List UInt8):=[[38,38],[124,124]]
def assignL:List (List UInt8):=[[61],[43,61],[45,61],[42,61],[47,61],[37,61],[60,60,61],[62,62,61],[62,62,62,61],[38,61],[124,61],[94,61]]
def propL:List (List UInt8):=[[105,110,105,116],[103,101,116],[115,101,116]]
def ofL:List (List UInt8):=[[108,101,116],[99,111,110,115,116]]
def preS:List UInt8:=[112,114,101]
def postS:List UInt8:=[112,111,115,116]
def oneB (s:ByteArray)(l:List (List UInt8)):Bool:=l.contains s.toList
def rightOpB (x:Nd):Bool :=
 if x.kind=12∨x.kind=33 then isS x.op [42] || isS x.op []
 else if x.kind=11 then oneB x.op propL
 else if x.kind=16 then oneB x.op unaryL
 else if x.kind=17 then oneB x.op updateL
 else if x.kind=18 then oneB x.op binaryPL
 else if x.kind=19 then oneB x.op logicL
 else if x.kind=21 then oneB x.op assignL
 else if x.kind=38 then oneB x.op ofL
 else true
def isFnB (x:Nd):Bool:=x.kind == 12 || x.kind == 33
def selfB (x:Nd):Bool:=x.kind == 12 && !isS x.name []
def declB {α:Type}(K:Kid α)(x:Nd)(xs:List α):Bool :=
 if x.kind=31∨x.kind=32∨x.kind=33∨x.kind=38 then true
 else if x.kind=43 then kd0 K xs 1 != 0
 else selfB x
def hereP {α:Type}(K:Kid α)(x:Nd)(xs:List α)(star:Bool)(st:St):Option St :=
 if x.kind=3 then takeU st x.pl
 else if x.kind=17 then (if isS x.name preS || isS x.name postS then some st else none)
 else if x.kind=22 then (if star then some st else none)
 else if x.kind=43∧kd0 K xs 1=0∧kd0 K xs 2=0 then none
 else if declB K x xs=true then takeD st x.pl else some st
def kidsP {α:Type}(f:UInt8→α→Bool→St→Option St)(star:Bool):List UInt8→List α→St→Option St
 | p :: ps,k :: ks,st=>(f p k star st).bind (kidsP f star ps ks)
 | _,_,st=>some st
def rightP {α:Type}(K:Kid α)(f:UInt8→α→Bool→St→Option St)(x:Nd)(xs:List α)(star:Bool)(st:St):Option St :=
 if (partsI x.kind xs.length).length≠xs.length then none
 else if rightOpB x=false then none
 else (hereP K x xs star st).bind (kidsP f (if isFnB x=true then isS x.op [42] else star) (partsI x.kind xs.length) xs)
def partP:(n:Nat)→UInt8→Tr n→Bool→St→Option St
 | 0,_,t,_,_=>nomatch (t:Empty)
 | n+1,p,(x,s),star,st =>
   if x.kind=0 then (if mayLackB p=true∧s.xs.length=0 then some st else none)
   else if isPartB p x.kind=false then none
   else if p=110 then (if s.xs.length=0 then takeD st x.pl else none)
   else rightP (kidT n) (partP n) x s.xs star st
def loopH {α:Type}(f:α→Nat→Bool×Nat):List α→Nat→Bool×Nat
 | [],r=>(true,r)
 | k :: ks,r=>if (f k r).1=true then loopH f ks (f k r).2 else (false,(f k r).2)
def holdsT:(n:Nat)→Nat→Tr n→Nat→Bool×Nat
 | 0,_,t,_=>nomatch (t:Empty)
 | n+1,lv,(x,s),r=>if r=0∨lv=0 then (false,r) else loopH (holdsT n (lv - 1)) s.xs (r - 1)
def rootP:(n:Nat)→Tr n→Bool
 | 0,t=>nomatch (t:Empty)
 | n+1,(x,s)=>x.kind == 47 && (holdsT (n+1) 300 ((x,s):Nd×Sli (Tr n)) 131072).1 && (rightP (kidT n) (partP n) x s.xs false ([],[])).isSome
abbrev RS:=Option St
def decR (a:Int)(st:RS):RS:=st.bind fun s=>takeD s a
def useR (a:Int)(st:RS):RS:=st.bind fun s=>takeU s a
def kidsR (k:Int):Int :=
 if k=34∨k=41∨k=42∨k=46 then 1
 else if k=36∨k=38 then 2
 else if k=35∨k=43 then 3
 else if k=37 then 4
 else if k=39∨k=40∨k=45 then 0
 else -1
def shapeR (x:Nd):Int×Int×Bool :=
 if 1≤x.kind∧x.kind≤8 then (0,0,true)
 else if x.kind=9∨x.kind=10 then (0,-1,true)
 else if x.kind=13 then (2,2,true)
 else if x.kind=14∨x.kind=15 then (1,-1,true)
 else if x.kind=16 then (1,1,oneB x.op unaryL)
 else if x.kind=17 then (1,1,oneB x.op updateL)
 else if x.kind=18 then (2,2,oneB x.op binaryRL)
 else if x.kind=19 then (2,2,oneB x.op logicL)
 else if x.kind=20 then (3,3,true)
 else if x.kind=21 then (2,2,oneB x.op assignL)
 else if x.kind=22 then (1,1,true)
 else (1,0,true)
section
variable {α:Type}(K:Kid α)(f:Nat→α→Bool→RS→RS)
def foldR (g:α→RS→RS):List α→RS→RS
 | [],st=>st
 | k :: ks,st=>foldR g ks (g k st)
def bodyR (xs:List α)(gen:Bool)(st:RS):RS:=foldR (fun k st=>f 3 k gen st) xs st
def emptyR (xs:List α)(st:RS):RS:=if 0<xs.length then none else st
def paramR (k:α)(st:RS):RS:=if K.kd k≠3∨0<K.nk k then none else decR (K.pl k) st
def lastR (xs:List α)(gen:Bool)(st:RS):RS :=
 match xs[xs.length - 1]? with
 | some k=>f 4 k gen st
 | none=>none
def functR (x:Nd)(xs:List α)(st:RS):RS :=
 if xs.length=0∨(isS x.op []=false∧isS x.op [42]=false)∨kd0 K xs (xs.length - 1)≠44 then none
 else lastR f xs (isS x.op [42]) (foldR (paramR K) (xs.take (xs.length - 1)) st)
def termKidR (x:Nd)(gen:Bool)(k:α)(st:RS):RS :=
 if x.kind=10 then f 2 k gen st else if x.kind=22 then f 1 k gen st else f 0 k gen st
def startR (x:Nd)(xs:List α)(gen:Bool)(s:St):RS :=
 if (x.kind=17∧isS x.name preS=false∧isS x.name postS=false)∨(x.kind=22∧gen=false) then none
 else if (x.kind=17∨x.kind=21)∧kd0 K xs 0≠3∧kd0 K xs 0≠13 then none
 else if x.kind=3 then useR x.pl (some s) else some s
def termR (x:Nd)(xs:List α)(gen:Bool)(st:RS):RS :=
 st.bind fun s =>
 if x.kind=12 then functR K f x xs (if isS x.name []=false then decR x.pl (some s) else some s)
 else if (shapeR x).2.2=false∨(xs.length:Int)<(shapeR x).1∨(0≤(shapeR x).2.1∧(shapeR x).2.1<(xs.length:Int)) then none
 else
  foldR (termKidR f x gen) xs (startR K x xs gen s)
def kidR (tag:Nat)(xs:List α)(i:Nat)(gen:Bool)(st:RS):RS :=
 match xs[i]? with
 | some k=>f tag k gen st
 | none=>none
def emptyK (xs:List α)(i:Nat)(st:RS):RS :=
 match xs[i]? with
 | some k=>if 0<K.nk k then none else st
 | none=>none
def propR (x:Nd)(xs:List α)(gen:Bool)(st:RS):RS :=
 if x.kind≠11∨xs.length≠2∨(isS x.op [105,110,105,116]=false∧isS x.op [103,101,116]=false∧isS x.op [115,101,116]=false) then none
 else kidR f 0 xs 1 gen (kidR f 0 xs 0 gen st)
def perhapsR (x:Nd)(xs:List α)(gen:Bool)(st:RS):RS :=
 if x.kind≠0 then termR K f x xs gen st else emptyR xs st
def bracesR (x:Nd)(xs:List α)(gen:Bool)(st:RS):RS :=
 if x.kind≠44 then none else bodyR f xs gen st
def orR (tag:Nat)(xs:List α)(i:Nat)(gen:Bool)(st:RS):RS :=
 if kd0 K xs i≠0 then kidR f tag xs i gen st else emptyK K xs i st
def singleR (x:Nd)(xs:List α)(gen:Bool)(st:RS):RS :=
 st.bind fun s =>
 if x.kind=44 then bodyR f xs gen (some s)
 else if kidsR x.kind<0∨kidsR x.kind≠(xs.length:Int) then none
 else if x.kind=34 then kidR f 1 xs 0 gen (some s)
 else if x.kind=42∨x.kind=46 then kidR f 0 xs 0 gen (some s)
 else if x.kind=41 then kidR f 5 xs 0 gen (some s)
 else if x.kind=36 then kidR f 5 xs 1 gen (kidR f 0 xs 0 gen (some s))
 else if x.kind=35 then orR K f 5 xs 2 gen (kidR f 5 xs 1 gen (kidR f 0 xs 0 gen (some s)))
 else if x.kind=37 then kidR f 5 xs 3 gen (kidR f 1 xs 2 gen (kidR f 1 xs 1 gen (kidR f 1 xs 0 gen (some s))))
 else if x.kind=38 then kidR f 5 xs 1 gen (kidR f 0 xs 0 gen (if isS x.op [108,101,116]=false∧isS x.op [99,111,110,115,116]=false then none else decR x.pl (some s)))
 else if x.kind=43 then
  (if kd0 K xs 1=0∧kd0 K xs 2=0 then none
   else orR K f 6 xs 2 gen (if kd0 K xs 1≠0 then kidR f 6 xs 1 gen (decR x.pl (kidR f 6 xs 0 gen (some s))) else emptyK K xs 1 (kidR f 6 xs 0 gen (some s))))
 else some s
def itemR (x:Nd)(xs:List α)(gen:Bool)(st:RS):RS :=
 if x.kind<31∨33<x.kind then singleR K f x xs gen st
 else if x.kind=33 then functR K f x xs (decR x.pl st)
 else if xs.length≠1 then none
 else if x.kind=32 then kidR f 0 xs 0 gen (decR x.pl st)
 else kidR f 1 xs 0 gen (decR x.pl st)
end
def semR:(n:Nat)→Nat→Tr n→Bool→RS→RS
 | 0,_,t,_,_=>nomatch (t:Empty)
 | n+1,tag,(x,s),gen,st =>
   match tag with
   | 0=>termR (kidT n) (semR n) x s.xs gen st
   | 1=>perhapsR (kidT n) (semR n) x s.xs gen st
   | 2=>propR (semR n) x s.xs gen st
   | 3=>itemR (kidT n) (semR n) x s.xs gen st
   | 4=>bodyR (semR n) s.xs gen st
   | 5=>singleR (kidT n) (semR n) x s.xs gen st
   | _=>bracesR (semR n) x s.xs gen st
def loopC {α:Type}(f:α→Int→Int):List α→Int→Int
 | [],r=>r
 | k :: ks,r=>if 0≤r then loopC f ks (f k r) else r
def countT:(n:Nat)→Nat→Tr n→Int→Int
 | 0,_,t,_=>nomatch (t:Empty)
 | n+1,lv,(x,s),r=>if lv=0 then -1 else loopC (countT n (lv - 1)) s.xs (r - 1)
def rootR:(n:Nat)→Tr n→Bool
 | 0,t=>nomatch (t:Empty)
 | n+1,(x,s)=>if x.kind≠47∨countT (n+1) 300 ((x,s):Nd×Sli (Tr n)) 131072<0 then false else (bodyR (semR n) s.xs false (some ([],[]))).isSome
theorem loop_same {α:Type}(f:α→Nat→Bool×Nat)(g:α→Int→Int)
  (h:∀k r,if (f k r).1=true then g k (r:Int)=((f k r).2:Int) else g k (r:Int)<0) (xs:List α) (r:Nat) :
  if (loopH f xs r).1=true then loopC g xs (r:Int)=((loopH f xs r).2:Int) else loopC g xs (r:Int)<0:=by
 induction xs generalizing r with
 | nil=>simp[loopH,loopC]
 | cons k ks ih =>
   have hk:=h k r
   rw[loopH,loopC,if_pos (Int.natCast_nonneg r)]
   by_cases c:(f k r).1=true
   ·rw[if_pos c] at hk
    rw[if_pos c,hk]
    exact ih _
   ·rw[if_neg c] at hk
    rw[if_neg c]
    simp only[Bool.false_eq_true,if_false]
    cases ks with
    | nil=>exact hk
    | cons k2 ks=>rw[loopC,if_neg (by omega)];exact hk
theorem holds_same (n lv:Nat)(t:Tr n)(r:Nat) :
  if (holdsT n lv t r).1=true then countT n lv t (r:Int)=((holdsT n lv t r).2:Int) else countT n lv t (r:Int)<0:=by
 induction n generalizing lv r with
 | zero=>exact nomatch (t:Empty)
 | succ n ih =>
   obtain⟨x,s⟩:=t
   rw[holdsT,countT]
   by_cases c:lv=0
   ·rw[if_pos (Or.inr c),if_pos c]
    simp
   ·rw[if_neg c]
    by_cases d:r=0
    ·rw[if_pos (Or.inl d)]
     subst d
     simp only[Bool.false_eq_true,if_false]
     cases s.xs with
     | nil=>simp[loopC]
     | cons k ks=>rw[loopC,if_neg (by omega)];omega
    ·rw[if_neg (show ¬(r=0∨lv=0) by omega)]
     have:=loop_same (holdsT n (lv - 1)) (countT n (lv - 1)) (fun k r=>ih (lv - 1) k r) s.xs (r - 1)
     rw[show((r:Int) - 1)=((r - 1:Nat):Int) by omega]
     exact this
theorem holds_count (n:Nat)(t:Tr n)(r lv:Nat):(holdsT n lv t r).1=decide (0≤countT n lv t (r:Int)):=by
 have:=holds_same n lv t r
 by_cases c:(holdsT n lv t r).1=true
 ·rw[if_pos c] at this
  rw[c,this]
  simp
 ·rw[if_neg c] at this
  simp only[Bool.not_eq_true] at c
  rw[c]
  symm
  simp
  omega
def Eqs (a b:St):Prop:=(∀z,z∈a.1↔z∈b.1)∧(∀z,z∈a.2↔z∈b.2)
def Eqv (a b:Option St):Prop :=
 match a,b with
 | none,none=>True
 | some x,some y=>Eqs x y
 | _,_=>False
theorem Eqs.refl (a:St):Eqs a a:=⟨fun _=>Iff.rfl,fun _=>Iff.rfl⟩
theorem Eqs.trans {a b c:St}(h:Eqs a b)(k:Eqs b c):Eqs a c:=⟨fun z=>(h.1 z).trans (k.1 z),fun z=>(h.2 z).trans (k.2 z)⟩
theorem Eqs.symm {a b:St}(h:Eqs a b):Eqs b a:=⟨fun z=>(h.1 z).symm,fun z=>(h.2 z).symm⟩
theorem Eqv.refl (a:Option St):Eqv a a:=by cases a <;> simp[Eqv,Eqs.refl]
theorem Eqv.trans {a b c:Option St}(h:Eqv a b)(k:Eqv b c):Eqv a c:=by
 cases a <;> cases b <;> cases c <;> simp_all [Eqv]
 exact h.trans k
theorem Eqv.symm {a b:Option St}(h:Eqv a b):Eqv b a:=by
 cases a <;> cases b <;> simp_all [Eqv]
 exact h.symm
theorem Eqv.bind {a b:Option St}{F G:St→Option St}(h:Eqv a b)(k:∀x y,Eqs x y→Eqv (F x) (G y)):Eqv (a.bind F) (b.bind G):=by
 cases a <;> cases b <;> simp_all [Eqv]
theorem Eqv.some_iff {a b:Option St}(h:Eqv a b):a.isSome=b.isSome:=by cases a <;> cases b <;> simp_all [Eqv]
theorem takeU_resp {a b:St}(h:Eqs a b)(z:Int):Eqv (takeU a z) (takeU b z):=by
 unfold takeU
 by_cases c:z∈a.1
 ·rw[if_pos c,if_pos ((h.1 z).1 c)];trivial
 ·rw[if_neg c,if_neg (fun d=>c ((h.1 z).2 d))]
  exact⟨fun y=>by simp[h.1 y],h.2⟩
theorem takeD_resp {a b:St}(h:Eqs a b)(z:Int):Eqv (takeD a z) (takeD b z):=by
 unfold takeD
 by_cases c:z∈a.2
 ·rw[if_pos c,if_pos ((h.2 z).1 c)];trivial
 ·rw[if_neg c,if_neg (fun d=>c ((h.2 z).2 d))]
  exact⟨h.1,fun y=>by simp[h.2 y]⟩
structure Nice (F:St→Option St):Prop where
 resp:∀a b,Eqs a b→Eqv (F a) (F b)
 comm:∀a z,Eqv ((takeD a z).bind F) ((F a).bind (takeD · z))
theorem nice_none:Nice (fun _=>none):=⟨fun _ _ _=>trivial,fun a z=>by cases takeD a z <;> exact trivial⟩
theorem nice_some:Nice some:=⟨fun _ _ h=>h,fun a z=>by simp;exact Eqv.refl _⟩
theorem nice_takeU (p:Int):Nice (fun s=>takeU s p):=by
 refine⟨fun a b h=>takeU_resp h p,fun a z => ?_⟩
 unfold takeU takeD
 by_cases c:p∈a.1 <;> by_cases d:z∈a.2 <;> simp[c,d,Eqv,Eqs]
theorem nice_takeD (p:Int):Nice (fun s=>takeD s p):=by
 refine⟨fun a b h=>takeD_resp h p,fun a z => ?_⟩
 unfold takeD
 by_cases e:p=z
 ·subst e
  by_cases c:p∈a.2 <;> simp[c,Eqv]
 ·by_cases c:p∈a.2 <;> by_cases d:z∈a.2 <;> simp[c,d,Eqv,Eqs,e,Ne.symm e]
  intro y
  constructor <;> (rintro(h | h | h) <;> simp[h])
theorem nice_bind {F G:St→Option St}(hF:Nice F)(hG:Nice G):Nice (fun a=>(F a).bind G):=by
 refine⟨fun a b h=>(hF.resp a b h).bind hG.resp,fun a z => ?_⟩
 have e1:(takeD a z).bind (fun a=>(F a).bind G)=((takeD a z).bind F).bind G:=by cases takeD a z <;> rfl
 rw[e1]
 refine((hF.comm a z).bind hG.resp).trans ?_
 cases F a with
 | none=>exact trivial
 | some b=>exact hG.comm b z
theorem nice_if {c:Prop} [Decidable c] {F G:St→Option St}(hF:Nice F)(hG:Nice G):Nice (fun a=>if c then F a else G a):=by
 by_cases h:c
 ·simp only[h,if_true];exact hF
 ·simp only[h,if_false];exact hG
section
variable {α:Type}(K:Kid α)(f:UInt8→α→Bool→St→Option St)
theorem nice_kids (h:∀p k star,Nice (f p k star))(star:Bool)(ps:List UInt8)(ks:List α):Nice (kidsP f star ps ks):=by
 induction ps generalizing ks with
 | nil=>cases ks <;> exact nice_some
 | cons p ps ih =>
   cases ks with
   | nil=>exact nice_some
   | cons k ks=>exact nice_bind (h p k star) (ih ks)
theorem nice_here (x:Nd)(xs:List α)(star:Bool):Nice (hereP K x xs star):=by
 unfold hereP
 exact nice_if (nice_takeU _) (nice_if (nice_if nice_some nice_none) (nice_if (nice_if nice_some nice_none) (nice_if nice_none (nice_if (nice_takeD _) nice_some))))
theorem nice_right (h:∀p k star,Nice (f p k star))(x:Nd)(xs:List α)(star:Bool):Nice (rightP K f x xs star):=by
 unfold rightP
 exact nice_if nice_none (nice_if nice_none (nice_bind (nice_here K x xs star) (nice_kids f h _ _ _)))
end
theorem nice_part (n:Nat)(p:UInt8)(t:Tr n)(star:Bool):Nice (partP n p t star):=by
 induction n generalizing p star with
 | zero=>exact nomatch (t:Empty)
 | succ n ih =>
   obtain⟨x,s⟩:=t
   exact nice_if (nice_if nice_some nice_none) (nice_if nice_none (nice_if (nice_if (nice_takeD _) nice_none) (nice_right (kidT n) (partP n) (fun p k star=>ih p k star) x s.xs star)))
structure Mt (F:St→Option St)(R:RS→RS):Prop where
 nil:R none=none
 eqv:∀a b,Eqs a b→Eqv (F a) (R (some b))
theorem Mt.id:Mt some (fun st=>st):=⟨rfl,fun _ _ h=>h⟩
theorem Mt.none:Mt (fun _=>Option.none) (fun _=>Option.none):=⟨rfl,fun _ _ _=>trivial⟩
theorem Mt.dec (p:Int):Mt (fun s=>takeD s p) (decR p):=⟨rfl,fun a b h=>takeD_resp h p⟩
theorem Mt.use (p:Int):Mt (fun s=>takeU s p) (useR p):=⟨rfl,fun a b h=>takeU_resp h p⟩
theorem Mt.comp {F G:St→Option St}{R S:RS→RS}(h:Mt F R)(k:Mt G S):Mt (fun a=>(F a).bind G) (fun st=>S (R st)):=by
 refine⟨by show S (R _)=_;rw[h.nil,k.nil],fun a b e => ?_⟩
 have:=h.eqv a b e
 show Eqv _ (S (R (some b)))
 cases hF:F a with
 | none =>
   cases hR:R (some b) with
   | none=>rw[k.nil];trivial
   | some y=>rw[hF,hR] at this;exact this.elim
 | some x =>
   cases hR:R (some b) with
   | none=>rw[hF,hR] at this;exact this.elim
   | some y =>
     rw[hF,hR] at this
     exact k.eqv x y this
theorem Mt.congr {F F':St→Option St}{R R':RS→RS}(h:Mt F R)(e1:∀a,F' a=F a)(e2:∀st,R' st=R st):Mt F' R' :=
 ⟨by rw[e2,h.nil],fun a b e=>by rw[e1,e2];exact h.eqv a b e⟩
theorem Mt.bound {F:St→Option St}{R:RS→RS}{T:St→RS}(h:Mt F R)(e:∀b,T b=R (some b)):Mt F (fun st=>st.bind T) :=
 ⟨rfl,fun a b k=>by show Eqv _ (T b);rw[e];exact h.eqv a b k⟩
theorem Mt.unbound {F:St→Option St}{T:St→RS}(e:∀a b,Eqs a b→Eqv (F a) (T b)):Mt F (fun st=>st.bind T):=⟨rfl,fun a b k=>e a b k⟩
theorem Mt.swap {F:St→Option St}{R:RS→RS}(hF:Nice F)(h:Mt F R)(p:Int):Mt (fun a=>(takeD a p).bind F) (fun st=>decR p (R st)):=by
 have k:=h.comp (Mt.dec p)
 exact⟨k.nil,fun a b e=>(hF.comm a p).trans (k.eqv a b e)⟩
structure Ok {α:Type}(K:Kid α)(f:UInt8→α→Bool→St→Option St)(g:Nat→α→Bool→RS→RS):Prop where
 nice:∀p k gen,Nice (f p k gen)
 term:∀k gen,Mt (f 101 k gen) (g 0 k gen)
 perh:∀k gen,Mt (f 69 k gen) (g 1 k gen)
 prop:∀k gen,Mt (f 112 k gen) (g 2 k gen)
 item:∀k gen,Mt (f 105 k gen) (g 3 k gen)
 sing:∀k gen,Mt (f 115 k gen) (g 5 k gen)
 brac:∀k gen,Mt (f 98 k gen) (g 6 k gen)
 singE:∀k gen,Mt (f 83 k gen) (fun st=>if K.kd k≠0 then g 5 k gen st else if 0<K.nk k then none else st)
 bracE:∀k gen,Mt (f 66 k gen) (fun st=>if K.kd k≠0 then g 6 k gen st else if 0<K.nk k then none else st)
 given:∀k gen,Mt (f 103 k gen) (fun st=>if K.kd k≠3∧K.kd k≠13 then none else g 0 k gen st)
 param:∀k gen,Mt (f 110 k gen) (paramR K k)
 body:∀k gen,Mt (f 98 k gen) (fun st=>if K.kd k≠44 then none else g 4 k gen st)
section
variable {α:Type}{K:Kid α}{f:UInt8→α→Bool→St→Option St}{g:Nat→α→Bool→RS→RS}
theorem mt_many (p:UInt8)(h:α→RS→RS)(star:Bool)(hk:∀k,Mt (f p k star) (h k))(xs:List α):Mt (kidsP f star (List.replicate xs.length p) xs) (foldR h xs):=by
 induction xs with
 | nil=>exact Mt.id
 | cons k ks ih=>exact(hk k).comp ih
theorem kidsP_append (star:Bool)(ps qs:List UInt8)(ks ls:List α)(h:ps.length=ks.length)(st:St) :
  kidsP f star (ps++qs) (ks++ls) st=(kidsP f star ps ks st).bind (kidsP f star qs ls):=by
 induction ps generalizing ks st with
 | nil=>cases ks with
   | nil=>cases qs <;> cases ls <;> rfl
   | cons k ks=>simp at h
 | cons p ps ih =>
   cases ks with
   | nil=>simp at h
   | cons k ks =>
     simp only[List.cons_append,kidsP]
     cases f p k star st with
     | none=>rfl
     | some s=>exact ih ks (by simpa using h) s
theorem oneB_perm (s:ByteArray):oneB s binaryPL=oneB s binaryRL:=by
 unfold oneB
 rw[Bool.eq_iff_iff,List.contains_iff_mem,List.contains_iff_mem]
 generalize s.toList=l
 simp only[binaryPL,binaryRL,List.mem_cons,List.not_mem_nil,or_false]
 constructor <;> (rintro(h | h | h | h | h | h | h | h | h | h | h | h | h | h | h | h | h | h | h | h | h) <;> simp[h])
theorem mt_funct (h:Ok K f g)(x:Nd)(xs:List α)(hx:x.kind=12∨x.kind=33)(star:Bool) :
  Mt (fun st=>if (partsI x.kind xs.length).length≠xs.length then none else if rightOpB x=false then none else kidsP f (if isFnB x=true then isS x.op [42] else star) (partsI x.kind xs.length) xs st) (functR K g x xs):=by
 have e1:partsI x.kind xs.length=List.replicate (xs.length - 1) 110++[98]:=by
  unfold partsI
  rcases hx with e | e <;> rw[e] <;> simp
 have e2:rightOpB x=(isS x.op [42] || isS x.op []):=by
  unfold rightOpB
  rw[if_pos hx]
 have e3:isFnB x=true:=by unfold isFnB;rcases hx with e | e <;> rw[e] <;> simp
 simp only[e1,e2,e3,if_true]
 rcases List.eq_nil_or_concat xs with c | ⟨ys,b,c⟩
 ·subst c
  refine Mt.none.congr (fun a=>by simp) (fun st => ?_)
  unfold functR
  simp
 ·rw[List.concat_eq_append] at c
  subst c
  have e4:(ys++[b]).length - 1=ys.length:=by simp
  have e5:kd0 K (ys++[b]) ((ys++[b]).length - 1)=K.kd b:=by simp[kd0]
  cases e6:(isS x.op [42] || isS x.op []) with
  | false =>
    refine Mt.none.congr (fun a=>by simp) (fun st => ?_)
    simp at e6
    unfold functR
    rw[if_pos (Or.inr (Or.inl ⟨e6.2,e6.1⟩))]
  | true =>
    have m1:=(mt_many (f:=f) 110 (paramR K) (isS x.op [42]) (fun k=>h.param k _) ys).comp (h.body b (isS x.op [42]))
    refine m1.congr (fun a => ?_) (fun st => ?_)
    ·have q1:(List.replicate ((ys++[b]).length - 1) (110:UInt8)++[98]).length=(ys++[b]).length:=by simp
     rw[if_neg (fun q=>q q1),e4,kidsP_append _ _ _ _ _ (by simp)]
     simp only[Bool.true_eq_false,if_false]
     cases kidsP f (isS x.op [42]) (List.replicate ys.length 110) ys a with
     | none=>rfl
     | some s=>simp[kidsP]
    ·unfold functR
     have k1:¬((ys++[b]).length=0):=by simp
     have k2:¬(isS x.op []=false∧isS x.op [42]=false):=by
      intro q
      rw[q.1,q.2] at e6
      simp at e6
     rw[e5]
     by_cases c44:K.kd b≠44
     ·rw[if_pos (Or.inr (Or.inr c44)),if_pos c44]
     ·rw[if_neg (by rintro(q | q | q);exact k1 q;exact k2 q;exact c44 q),if_neg c44]
      unfold lastR
      rw[e4]
      simp
theorem right_at (x:Nd)(xs:List α)(star:Bool)(hp:(partsI x.kind xs.length).length=xs.length)(ho:rightOpB x=true)(a:St) :
  rightP K f x xs star a=(hereP K x xs star a).bind (kidsP f (if isFnB x=true then isS x.op [42] else star) (partsI x.kind xs.length) xs):=by
 unfold rightP
 rw[if_neg (fun q=>q hp),if_neg (by rw[ho];simp)]
theorem right_len (x:Nd)(xs:List α)(star:Bool)(hp:(partsI x.kind xs.length).length≠xs.length)(a:St):rightP K f x xs star a=none:=by
 unfold rightP
 rw[if_pos hp]
theorem right_op (x:Nd)(xs:List α)(star:Bool)(ho:rightOpB x=false)(a:St):rightP K f x xs star a=none:=by
 unfold rightP
 by_cases q:(partsI x.kind xs.length).length≠xs.length
 ·rw[if_pos q]
 ·rw[if_neg q,if_pos ho]
end
end Go.Proofs.YtihmdcdifakepaaGreat.Sc
