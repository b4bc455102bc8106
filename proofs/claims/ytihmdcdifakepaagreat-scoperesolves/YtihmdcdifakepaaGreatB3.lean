/- RA, RB, RC, RD, RE, RF -/
import Derived.Test.YtihmdcdifakepaaGreatB2
set_option linter.unusedVariables false
set_option linter.unusedSimpArgs false
set_option maxRecDepth 100000
set_option maxHeartbeats 40000000
namespace Go.Proofs.YtihmdcdifakepaaGreat.Rz
open Go.Proofs.YtihmdcdifakepaaGreat.Sc
structure Vr where
 name:ByteArray
 pl:Int
 kind:Int
 fn:Nat
 slot:Nat
 cap:Bool
structure Scp where
 pl:Int
 parent:Int
 params:Nat
 vars:Nat
structure Us where
 pl:Int
 var:Int
structure RS where
 scopes:List Scp
 vars:List Vr
 uses:List Us
 blocks:List (List (ByteArray×Nat))
 fn:Nat
 loops:Nat
 labels:List (ByteArray×Bool)
abbrev Er:=Int×Int
abbrev RM:=RS→Except Er RS
def varsAt (s:RS):Nat:=((s.scopes[s.fn]?).map (·.vars)).getD 0
def bumpP (s:RS):RS:={ s with scopes:=s.scopes.modify s.fn (fun x=>{ x with vars:=x.vars+1 }) }
def putVarP (nm:ByteArray)(pl kd:Int)(slot:Nat)(s:RS):RS :=
 { s with
  blocks:=match s.blocks with
   | []=>[]
   | b :: r=>((nm,s.vars.length) :: b) :: r
  vars:=s.vars++[⟨nm,pl,kd,s.fn,slot,false⟩] }
def declP (nm:ByteArray)(pl kd:Int)(s:RS):Except Er RS :=
 if (s.blocks.headD []).any (fun e=>decide (e.1=nm)) then .error (pl,71)
 else if 200≤varsAt s then .error (pl,72)
 else .ok (putVarP nm pl kd (varsAt s) (bumpP s))
def findP (nm:ByteArray):List (List (ByteArray×Nat))→Option Nat
 | []=>none
 | b :: r=>match b.find? (fun e=>decide (e.1=nm)) with
   | some e=>some e.2
   | none=>findP nm r
def capP (v:Nat)(s:RS):RS:={ s with vars:=s.vars.modify v (fun x=>{ x with cap:=true }) }
def useP (bi:ByteArray→Bool)(nm:ByteArray)(pl:Int)(s:RS):Except Er (Option Nat×RS) :=
 match findP nm s.blocks with
 | some v =>
   let s1:RS:={ s with uses:=s.uses++[⟨pl,(v:Int)⟩] }
   .ok (some v,if ((s.vars[v]?).map (·.fn)).getD 0≠s.fn then capP v s1 else s1)
 | none=>if bi nm then .ok (none,{ s with uses:=s.uses++[⟨pl,-1⟩] }) else .error (pl,73)
def staysP (v:Option Nat)(s:RS):Bool:=match v with
 | none=>true
 | some v=>((s.vars[v]?).map (fun x=>x.kind == 2 || x.kind == 5)).getD false
def eachP {α:Type}(f:α→RM):List α→RM
 | [],s => .ok s
 | k :: r,s=>(f k s).bind (eachP f r)
def ndR:(n:Nat)→Tr n→Nd
 | 0,t=>nomatch (t:Empty)
 | _+1,(x,_)=>x
def openP (s:RS):RS:={ s with blocks:=[] :: s.blocks }
def shutP (s:RS):RS:={ s with blocks:=s.blocks.drop 1 }
def headsP {α:Type}(nd:α→Nd):List α→RM
 | [],s => .ok s
 | k :: r,s =>
   (if (nd k).kind=31 then declP (nd k).name (nd k).pl 1 s
    else if (nd k).kind=32 then declP (nd k).name (nd k).pl 2 s
    else if (nd k).kind=33 then declP (nd k).name (nd k).pl 4 s
    else .ok s).bind (headsP nd r)
def itemsP {α:Type}(nd:α→Nd)(f:α→RM)(l:List α)(s:RS):Except Er RS:=(headsP nd l s).bind (eachP f l)
def blockP {α:Type}(nd:α→Nd)(f:α→RM)(l:List α)(s:RS):Except Er RS:=(itemsP nd f l (openP s)).bind fun s => .ok (shutP s)
def parsP {α:Type}(nd:α→Nd):List α→RM
 | [],s => .ok s
 | k :: r,s=>(declP (nd k).name (nd k).pl 3 s).bind (parsP nd r)
def enterP (x:Nd)(many:Nat)(s:RS):RS :=
 let s1:RS:=openP { s with scopes:=s.scopes++[⟨x.pl,s.fn,many,0⟩],fn:=s.scopes.length,loops:=0,labels:=[] }
 openP (if selfB x then putVarP x.name x.pl 5 many s1 else s1)
def functionP {α:Type}(nd:α→Nd)(body:α→RM)(x:Nd)(l:List α)(s:RS):Except Er RS :=
 if s.scopes.length=200 then .error (x.pl,72)
 else match l.getLast? with
  | none => .ok s
  | some b=>(parsP nd l.dropLast (enterP x (l.length - 1) s)).bind fun s1 =>
    (body b (if selfB x then bumpP s1 else s1)).bind fun s2 => .ok { shutP (shutP s2) with fn:=s.fn,loops:=s.loops,labels:=s.labels }
def loopP {α:Type}(f:α→RM)(l:List α)(s:RS):Except Er RS :=
 (eachP f l { s with loops:=s.loops+1 }).bind fun s1 => .ok { s1 with loops:=s1.loops - 1 }
def loopOfP {α:Type}(f:α→RM)(x:Nd)(l:List α)(s:RS):Except Er RS :=
 (eachP f (l.take 1) s).bind fun s1 =>
  (declP x.name x.pl (if isS x.op [99,111,110,115,116] then 2 else 1) (openP s1)).bind fun s2 =>
   (loopP f (l.drop 1) s2).bind fun s3 => .ok (shutP s3)
def catchP {α:Type}(nd:α→Nd)(body:α→RM)(x:Nd)(c:Option α)(s:RS):Except Er RS :=
 match c with
 | none => .ok s
 | some c=>if (nd c).kind=0 then .ok s else (declP x.name x.pl 6 (openP s)).bind fun s2=>(body c s2).bind fun s3 => .ok (shutP s3)
def tryP {α:Type}(nd:α→Nd)(f body:α→RM)(x:Nd)(l:List α)(s:RS):Except Er RS :=
 (eachP f (l.take 1) s).bind fun s1=>(catchP nd body x l[1]? s1).bind (eachP f (l.drop 2))
def leadT:(n:Nat)→Tr n→Bool
 | 0,t=>nomatch (t:Empty)
 | n+1,(x,s)=>if x.kind=41 then ((s.xs[0]?).map (leadT n)).getD false else decide (36≤x.kind) && decide (x.kind≤38)
def labelP {α:Type}(f:α→RM)(x:Nd)(lead:Bool)(l:List α)(s:RS):Except Er RS :=
 if s.labels.any (fun e=>decide (e.1=x.name)) then .error (x.pl,75)
 else (eachP f l { s with labels:=s.labels++[(x.name,lead)] }).bind fun s1 => .ok { s1 with labels:=s.labels }
def jumpP (x:Nd)(s:RS):Except Er RS :=
 if (if isS x.name [] then decide (0<s.loops) else s.labels.any fun e=>decide (e.1=x.name) && (e.2 || x.kind == 39)) then .ok s else .error (x.pl,75)
def leaveP {α:Type}(f:α→RM)(x:Nd)(l:List α)(s:RS):Except Er RS:=if s.fn=0 then .error (x.pl,76) else eachP f l s
def giveP {α:Type}(bi:ByteArray→Bool)(nd:α→Nd)(f:α→RM)(l:List α)(s:RS):Except Er RS :=
 match l with
 | [] => .ok s
 | t :: r=>if (nd t).kind=3 then
   match useP bi (nd t).name (nd t).pl s with
   | .error e => .error e
   | .ok (v,s1)=>if staysP v s1 then .error ((nd t).pl,74) else eachP f r s1
  else eachP f l s
def resP (bi:ByteArray→Bool):(n:Nat)→(Tr n→RM)×(Tr n→RM)
 | 0=>((fun t=>nomatch (t:Empty)),(fun t=>nomatch (t:Empty)))
 | n+1 =>
   (fun t s =>
    let x:=t.1
    let l:=t.2.xs
    let f:=(resP bi n).1
    if x.kind=3 then (match useP bi x.name x.pl s with | .error e => .error e | .ok (_,s1) => .ok s1)
    else if x.kind=21∨x.kind=17 then giveP bi (ndR n) f l s
    else if x.kind=12∨x.kind=33 then functionP (ndR n) (resP bi n).2 x l s
    else if x.kind=44 then blockP (ndR n) f l s
    else if x.kind=43 then tryP (ndR n) f (resP bi n).2 x l s
    else if x.kind=36∨x.kind=37 then loopP f l s
    else if x.kind=38 then loopOfP f x l s
    else if x.kind=41 then labelP f x (leadT (n+1) t) l s
    else if x.kind=39∨x.kind=40 then jumpP x s
    else if x.kind=34 then leaveP f x l s
    else eachP f l s,
    fun t s=>itemsP (ndR n) (resP bi n).1 t.2.xs s)
def startP (pl:Int):RS:=⟨[⟨pl,-1,0,0⟩],[],[],[],0,0,[]⟩
def resolveP (bi:ByteArray→Bool)(n:Nat)(t:Tr n):Except Er RS :=
 match n,t with
 | 0,t=>nomatch (t:Empty)
 | n+1,t=>blockP (ndR n) (resP bi n).1 t.2.xs (startP t.1.pl)
theorem bind_ok {α β:Type}{x:Except Er α}{f:α→Except Er β}{b:β}(h:x.bind f = .ok b):∃a,x = .ok a∧f a = .ok b:=by
 cases x with
 | error e=>cases h
 | ok a=>exact⟨a,rfl,h⟩
def pr (v:Vr):Nat×Nat:=(v.fn,v.slot)
def slotsOf (l:List (Nat×Nat))(i:Nat):List Nat:=(l.filter (fun p=>p.1 == i)).map (·.2)
theorem map_modify {α β:Type}(g:α→β)(f:α→α)(hf:∀x,g (f x)=g x):∀(l:List α)(i:Nat),(l.modify i f).map g=l.map g
 | [],i=>by cases i <;> rfl
 | x :: l,0=>by simp[hf]
 | x :: l,i+1=>by simp[map_modify g f hf l i]
structure Inv (s:RS)(ex:List Nat)(pm:Bool):Prop where
 fnl:s.fn<s.scopes.length
 par:∀(i:Nat) (x:Scp),s.scopes[i]?=some x→x.parent<(i:Int)∧(x.parent<0↔i=0)
 slo:∀(i:Nat) (x:Scp),s.scopes[i]?=some x→(slotsOf (s.vars.map pr) i).Perm (List.range x.vars++(if i=s.fn then ex else []))
 pms:∀(i:Nat) (x:Scp),s.scopes[i]?=some x→(i≠s.fn∨pm=false)→x.params≤x.vars
 vfn:∀p∈s.vars.map pr,p.1<s.scopes.length
 blk:∀b∈s.blocks,∀e∈b,e.2<s.vars.length
 use:∀u∈s.uses,-1≤u.var∧u.var<(s.vars.length:Int)
theorem Inv.open' {s:RS}{ex:List Nat}{pm:Bool}(h:Inv s ex pm):Inv (openP s) ex pm :=
 ⟨h.fnl,h.par,h.slo,h.pms,h.vfn,fun b hb=>by
  rcases List.mem_cons.1 hb with rfl | hb
  ·intro e he;cases he
  ·exact h.blk b hb,h.use⟩
theorem Inv.shut {s:RS}{ex:List Nat}{pm:Bool}(h:Inv s ex pm):Inv (shutP s) ex pm :=
 ⟨h.fnl,h.par,h.slo,h.pms,h.vfn,fun b hb=>h.blk b (List.mem_of_mem_drop hb),h.use⟩
structure Stp (s s':RS):Prop where
 inv:Inv s' [] false
 fn:s'.fn=s.fn
 len:s.scopes.length≤s'.scopes.length
theorem Stp.refl {s:RS}(h:Inv s [] false):Stp s s:=⟨h,rfl,Nat.le_refl _⟩
theorem Stp.trans {a b c:RS}(h1:Stp a b)(h2:Stp b c):Stp a c:=⟨h2.inv,h2.fn.trans h1.fn,Nat.le_trans h1.len h2.len⟩
theorem Inv.side {s:RS}{ex:List Nat}{pm:Bool}(h:Inv s ex pm)(a:Nat)(b:List (ByteArray×Bool)):Inv { s with loops:=a,labels:=b } ex pm:=⟨h.fnl,h.par,h.slo,h.pms,h.vfn,h.blk,h.use⟩
theorem find_lt (nm:ByteArray)(n:Nat):∀(bs:List (List (ByteArray×Nat)))(v:Nat),(∀b∈bs,∀e∈b,e.2<n)→findP nm bs=some v→v<n
 | [],v,h,e=>by cases e
 | b :: r,v,h,e=>by
   unfold findP at e
   cases hb:b.find? (fun e=>decide (e.1=nm)) with
   | some x =>
     rw[hb] at e
     simp only at e
     obtain rfl:=Option.some.inj e
     exact h b (by simp) x (List.mem_of_find?_eq_some hb)
   | none =>
     rw[hb] at e
     simp only at e
     exact find_lt nm n r v (fun c hc=>h c (by simp[hc])) e
theorem Inv.uses {s:RS}{ex:List Nat}{pm:Bool}(h:Inv s ex pm)(u:Us)(hu : -1≤u.var∧u.var<(s.vars.length:Int)):Inv { s with uses:=s.uses++[u] } ex pm :=
 ⟨h.fnl,h.par,h.slo,h.pms,h.vfn,h.blk,fun x hx=>by
  rcases List.mem_append.1 hx with hx | hx
  ·exact h.use x hx
  ·rw[List.mem_singleton.1 hx];exact hu⟩
theorem Inv.cap {s:RS}{ex:List Nat}{pm:Bool}(h:Inv s ex pm)(v:Nat):Inv (capP v s) ex pm:=by
 have e1:(capP v s).vars.map pr=s.vars.map pr:=map_modify pr (fun x:Vr=>{ x with cap:=true }) (fun x=>rfl) s.vars v
 have e2:(capP v s).vars.length=s.vars.length:=by simp[capP]
 refine⟨h.fnl,h.par,?_,h.pms,?_,?_,?_⟩
 ·rw[e1];exact h.slo
 ·rw[e1];exact h.vfn
 ·rw[e2];exact h.blk
 ·rw[e2];exact h.use
def fixedR (v:Nat)(s:RS):Bool:=((s.vars[v]?).map (fun x=>x.kind == 2 || x.kind == 5)).getD false
def useR (bi:ByteArray→Bool)(nm:ByteArray)(pl:Int)(wr:Bool)(s:RS):Except Er RS :=
 match findP nm s.blocks with
 | some v=>if wr && fixedR v s then .error (pl,74) else
   let s1:RS:={ s with uses:=s.uses++[⟨pl,(v:Int)⟩] }
   .ok (if ((s.vars[v]?).map (·.fn)).getD 0≠s.fn then capP v s1 else s1)
 | none=>if bi nm then (if wr then .error (pl,74) else .ok { s with uses:=s.uses++[⟨pl,-1⟩] }) else .error (pl,73)
def enterR (x:Nd)(many:Nat)(s:RS):RS :=
 let s1:RS:={ s with scopes:=s.scopes++[⟨x.pl,s.fn,many,0⟩],fn:=s.scopes.length,loops:=0,labels:=[] }
 openP (if selfB x then putVarP x.name x.pl 5 many (openP s1) else s1)
def functionR {α:Type}(nd:α→Nd)(body:α→RM)(x:Nd)(l:List α)(s:RS):Except Er RS :=
 if s.scopes.length=200 then .error (x.pl,72)
 else match l.getLast? with
  | none => .ok s
  | some b=>(parsP nd l.dropLast (enterR x (l.length - 1) s)).bind fun s1 =>
    (body b (if selfB x then bumpP s1 else s1)).bind fun s2 => .ok { s2 with blocks:=s2.blocks.drop (if selfB x then 2 else 1),fn:=s.fn,loops:=s.loops,labels:=s.labels }
def giveR {α:Type}(bi:ByteArray→Bool)(nd:α→Nd)(ex:α→RM)(l:List α)(s:RS):Except Er RS:=match l with
 | [] => .ok s
 | t0 :: r=>(if (nd t0).kind=3 then useR bi (nd t0).name (nd t0).pl true s else ex t0 s).bind (eachP ex r)
def resR (bi:ByteArray→Bool):(n:Nat)→(Tr n→RM)×(Tr n→RM)×(Tr n→RM)
 | 0=>((fun t=>nomatch (t:Empty)),(fun t=>nomatch (t:Empty)),(fun t=>nomatch (t:Empty)))
 | n+1 =>
   ((fun t s =>
     let x:=t.1
     let l:=t.2.xs
     let ex:=(resR bi n).1
     if x.kind=3 then useR bi x.name x.pl false s
     else if x.kind=12 then functionR (ndR n) (resR bi n).2.2 x l s
     else if x.kind=17∨x.kind=21 then giveR bi (ndR n) ex l s
     else eachP ex l s),
    (fun t s =>
     let x:=t.1
     let l:=t.2.xs
     let ex:=(resR bi n).1
     let st:=(resR bi n).2.1
     if x.kind=33 then functionR (ndR n) (resR bi n).2.2 x l s
     else if x.kind=34 then leaveP ex x l s
     else if x.kind=35 then (eachP ex (l.take 1) s).bind (eachP st (l.drop 1))
     else if x.kind=36∨x.kind=37 then (eachP ex l.dropLast s).bind (loopP st (l.drop (l.length - 1)))
     else if x.kind=38 then (eachP ex (l.take 1) s).bind fun s1 =>
      (declP x.name x.pl (if isS x.op [99,111,110,115,116] then 2 else 1) (openP s1)).bind fun s2=>(loopP st (l.drop 1) s2).bind fun s3 => .ok (shutP s3)
     else if x.kind=39∨x.kind=40 then jumpP x s
     else if x.kind=41 then labelP st x (leadT (n+1) t) l s
     else if x.kind=42∨x.kind=46∨x.kind=31∨x.kind=32 then eachP ex l s
     else if x.kind=43 then (eachP st (l.take 1) s).bind fun s1=>(catchP (ndR n) (resR bi n).2.2 x l[1]? s1).bind (eachP st (l.drop 2))
     else if x.kind=44 then blockP (ndR n) st l s
     else .ok s),
    (fun t s=>itemsP (ndR n) (resR bi n).2.1 t.2.xs s))
def resolveR (bi:ByteArray→Bool)(n:Nat)(t:Tr n):Except Er RS :=
 match n,t with
 | 0,t=>nomatch (t:Empty)
 | n+1,t=>itemsP (ndR n) (resR bi n).2.1 t.2.xs (openP (startP t.1.pl))
structure Same (s s':RS):Prop where
 blocks:s'.blocks=s.blocks
 fn:s'.fn=s.fn
 loops:s'.loops=s.loops
 labels:s'.labels=s.labels
theorem Same.refl (s:RS):Same s s:=⟨rfl,rfl,rfl,rfl⟩
theorem Same.trans {a b c:RS}(h1:Same a b)(h2:Same b c):Same a c:=⟨h2.blocks.trans h1.blocks,h2.fn.trans h1.fn,h2.loops.trans h1.loops,h2.labels.trans h1.labels⟩
structure Tail (s s':RS):Prop where
 blocks:s'.blocks.drop 1=s.blocks.drop 1
 fn:s'.fn=s.fn
 loops:s'.loops=s.loops
 labels:s'.labels=s.labels
theorem Tail.trans {a b c:RS}(h1:Tail a b)(h2:Tail b c):Tail a c:=⟨h2.blocks.trans h1.blocks,h2.fn.trans h1.fn,h2.loops.trans h1.loops,h2.labels.trans h1.labels⟩
theorem Same.tail {a b:RS}(h:Same a b):Tail a b:=⟨by rw[h.blocks],h.fn,h.loops,h.labels⟩
theorem Tail.refl (s:RS):Tail s s:=⟨rfl,rfl,rfl,rfl⟩
def Keeps (f:RM):Prop:=∀s s',f s = .ok s'→Same s s'
def Tails (f:RM):Prop:=∀s s',f s = .ok s'→Tail s s'
theorem tail_decl (nm:ByteArray)(pl kd:Int):Tails (declP nm pl kd):=fun s s' e=>by
 unfold declP at e
 split at e
 ·cases e
 ·split at e
  ·cases e
  ·obtain rfl:=Except.ok.inj e
   refine⟨?_,rfl,rfl,rfl⟩
   show(putVarP nm pl kd (varsAt s) (bumpP s)).blocks.drop 1=s.blocks.drop 1
   unfold putVarP
   simp only
   have:(bumpP s).blocks=s.blocks:=rfl
   rw[this]
   cases s.blocks <;> rfl
theorem keeps_each {α:Type}{f:α→RM}(hf:∀k,Keeps (f k)):∀l,Keeps (eachP f l)
 | [],s,s',e=>by obtain rfl:=Except.ok.inj e;exact Same.refl s
 | k :: r,s,s',e=>by
   obtain⟨s1,e1,e2⟩:=bind_ok e
   exact(hf k s s1 e1).trans (keeps_each hf r s1 s' e2)
theorem tails_heads {α:Type}(nd:α→Nd):∀l,Tails (headsP nd l)
 | [],s,s',e=>by obtain rfl:=Except.ok.inj e;exact Tail.refl s
 | k :: r,s,s',e=>by
   obtain⟨s1,e1,e2⟩:=bind_ok e
   have h1:Tail s s1:=by
    split at e1
    ·exact tail_decl _ _ _ s s1 e1
    ·split at e1
     ·exact tail_decl _ _ _ s s1 e1
     ·split at e1
      ·exact tail_decl _ _ _ s s1 e1
      ·obtain rfl:=Except.ok.inj e1;exact Tail.refl s
   exact h1.trans (tails_heads nd r s1 s' e2)
theorem tails_items {α:Type}(nd:α→Nd){f:α→RM}(hf:∀k,Keeps (f k))(l:List α):Tails (itemsP nd f l):=fun s s' e=>by
 obtain⟨s1,e1,e2⟩:=bind_ok e
 exact(tails_heads nd l s s1 e1).trans (keeps_each hf l s1 s' e2).tail
theorem Tail.shut {s s':RS}(h:Tail (openP s) s'):Same s (shutP s'):=⟨h.blocks,h.fn,h.loops,h.labels⟩
theorem keeps_block {α:Type}(nd:α→Nd){f:α→RM}(hf:∀k,Keeps (f k))(l:List α):Keeps (blockP nd f l):=fun s s' e=>by
 obtain⟨s1,e1,e2⟩:=bind_ok e
 obtain rfl:=Except.ok.inj e2
 exact(tails_items nd hf l _ s1 e1).shut
theorem keeps_loop {α:Type}{f:α→RM}(hf:∀k,Keeps (f k))(l:List α):Keeps (loopP f l):=fun s s' e=>by
 obtain⟨s1,e1,e2⟩:=bind_ok e
 obtain rfl:=Except.ok.inj e2
 have h:=keeps_each hf l _ s1 e1
 exact⟨h.blocks,h.fn,by show s1.loops - 1=s.loops;rw[h.loops];simp,h.labels⟩
theorem keeps_catch {α:Type}(nd:α→Nd){body:α→RM}(hb:∀k,Tails (body k))(x:Nd)(c:Option α):Keeps (catchP nd body x c):=fun s s' e=>by
 unfold catchP at e
 cases c with
 | none=>obtain rfl:=Except.ok.inj e;exact Same.refl s
 | some c =>
   simp only at e
   split at e
   ·obtain rfl:=Except.ok.inj e;exact Same.refl s
   ·obtain⟨s2,e1,e2⟩:=bind_ok e
    obtain⟨s3,e3,e4⟩:=bind_ok e2
    obtain rfl:=Except.ok.inj e4
    exact((tail_decl _ _ _ _ s2 e1).trans (hb c s2 s3 e3)).shut
theorem keeps_label {α:Type}{f:α→RM}(hf:∀k,Keeps (f k))(x:Nd)(lead:Bool)(l:List α):Keeps (labelP f x lead l):=fun s s' e=>by
 unfold labelP at e
 split at e
 ·cases e
 ·obtain⟨s1,e1,e2⟩:=bind_ok e
  obtain rfl:=Except.ok.inj e2
  have h:=keeps_each hf l _ s1 e1
  exact⟨h.blocks,h.fn,h.loops,rfl⟩
theorem keeps_jump (x:Nd):Keeps (jumpP x):=fun s s' e=>by
 unfold jumpP at e
 generalize (if isS x.name [] then decide (0<s.loops) else s.labels.any fun e=>decide (e.1=x.name) && (e.2 || x.kind == 39))=b at e
 cases b with
 | true=>obtain rfl:=Except.ok.inj e;exact Same.refl s
 | false=>cases e
theorem keeps_leave {α:Type}{f:α→RM}(hf:∀k,Keeps (f k))(x:Nd)(l:List α):Keeps (leaveP f x l):=fun s s' e=>by
 unfold leaveP at e
 split at e
 ·cases e
 ·exact keeps_each hf l s s' e
theorem keeps_bind {f g:RM}(hf:Keeps f)(hg:Keeps g):Keeps (fun s=>(f s).bind g):=fun s s' e=>by
 obtain⟨s1,e1,e2⟩:=bind_ok e
 exact(hf s s1 e1).trans (hg s1 s' e2)
theorem keeps_loopOf {α:Type}{f g:α→RM}(hf:∀k,Keeps (f k))(hg:∀k,Keeps (g k))(x:Nd)(l:List α) :
  Keeps (fun s=>(eachP f (l.take 1) s).bind fun s1=>(declP x.name x.pl (if isS x.op [99,111,110,115,116] then 2 else 1) (openP s1)).bind fun s2=>(loopP g (l.drop 1) s2).bind fun s3 => .ok (shutP s3)):=fun s s' e=>by
 obtain⟨s1,e1,e2⟩:=bind_ok e
 obtain⟨s2,e3,e4⟩:=bind_ok e2
 obtain⟨s3,e5,e6⟩:=bind_ok e4
 obtain rfl:=Except.ok.inj e6
 exact(keeps_each hf _ s s1 e1).trans ((tail_decl _ _ _ _ s2 e3).trans (keeps_loop hg _ s2 s3 e5).tail).shut
theorem use_same (bi:ByteArray→Bool)(nm:ByteArray)(pl:Int)(s s':RS)(v:Option Nat)(e:useP bi nm pl s = .ok (v,s')):Same s s':=by
 unfold useP at e
 cases hf:findP nm s.blocks with
 | some w =>
   rw[hf] at e
   simp only at e
   obtain⟨rfl,rfl⟩:=Prod.mk.inj (Except.ok.inj e)
   split <;> exact⟨rfl,rfl,rfl,rfl⟩
 | none =>
   rw[hf] at e
   simp only at e
   split at e
   ·obtain⟨rfl,rfl⟩:=Prod.mk.inj (Except.ok.inj e)
    exact⟨rfl,rfl,rfl,rfl⟩
   ·cases e
theorem tails_pars {α:Type}(nd:α→Nd):∀l,Tails (parsP nd l)
 | [],s,s',e=>by obtain rfl:=Except.ok.inj e;exact Tail.refl s
 | k :: r,s,s',e=>by
   obtain⟨s1,e1,e2⟩:=bind_ok e
   exact(tail_decl _ _ _ s s1 e1).trans (tails_pars nd r s1 s' e2)
theorem enterP_blocks (x:Nd)(many:Nat)(s:RS):∃b,(enterP x many s).blocks=[] :: b :: s.blocks∧(selfB x=false→b=[])∧(selfB x=true→b=[(x.name,s.vars.length)]):=by
 unfold enterP
 cases selfB x with
 | true=>exact⟨_,rfl,(fun h=>by cases h),fun _=>rfl⟩
 | false=>exact⟨_,rfl,(fun _=>rfl),(fun h=>by cases h)⟩
theorem keeps_functionP {α:Type}(nd:α→Nd){body:α→RM}(hb:∀k,Tails (body k))(x:Nd)(l:List α):Keeps (functionP nd body x l):=fun s s' e=>by
 unfold functionP at e
 split at e
 ·cases e
 ·cases hl:l.getLast? with
  | none=>rw[hl] at e;obtain rfl:=Except.ok.inj e;exact Same.refl s
  | some b =>
    rw[hl] at e
    simp only at e
    obtain⟨s1,e1,e2⟩:=bind_ok e
    obtain⟨s2,e3,e4⟩:=bind_ok e2
    obtain rfl:=Except.ok.inj e4
    have h1:=tails_pars nd _ _ s1 e1
    have h2:=hb b _ s2 e3
    have hbk:(if selfB x then bumpP s1 else s1).blocks=s1.blocks:=by split <;> rfl
    obtain⟨c,hc,_⟩:=enterP_blocks x (l.length - 1) s
    refine⟨?_,rfl,rfl,rfl⟩
    show(s2.blocks.drop 1).drop 1=s.blocks
    rw[h2.blocks,hbk,h1.blocks,hc]
    rfl
theorem keeps_useR (bi:ByteArray→Bool)(nm:ByteArray)(pl:Int)(wr:Bool):Keeps (useR bi nm pl wr):=fun s s' e=>by
 unfold useR at e
 cases hf:findP nm s.blocks with
 | some w =>
   rw[hf] at e
   simp only at e
   split at e
   ·cases e
   ·obtain rfl:=Except.ok.inj e
    split <;> exact⟨rfl,rfl,rfl,rfl⟩
 | none =>
   rw[hf] at e
   simp only at e
   split at e
   ·split at e
    ·cases e
    ·obtain rfl:=Except.ok.inj e
     exact⟨rfl,rfl,rfl,rfl⟩
   ·cases e
theorem keeps_give {α:Type}(bi:ByteArray→Bool)(nd:α→Nd){f:α→RM}(hf:∀k,Keeps (f k))(l:List α):Keeps (giveP bi nd f l):=fun s s' e=>by
 unfold giveP at e
 cases l with
 | nil=>obtain rfl:=Except.ok.inj e;exact Same.refl s
 | cons t r =>
   simp only at e
   split at e
   ·cases hu:useP bi (nd t).name (nd t).pl s with
    | error x=>rw[hu] at e;cases e
    | ok p =>
      obtain⟨v,s1⟩:=p
      rw[hu] at e
      simp only at e
      split at e
      ·cases e
      ·exact(use_same bi _ _ s s1 v hu).trans (keeps_each hf r s1 s' e)
   ·exact keeps_each hf _ s s' e
theorem keeps_resP (bi:ByteArray→Bool):∀n,(∀t,Keeps ((resP bi n).1 t))∧(∀t,Tails ((resP bi n).2 t))
 | 0=>⟨(fun t=>nomatch (t:Empty)),(fun t=>nomatch (t:Empty))⟩
 | n+1=>by
   obtain⟨i1,i2⟩:=keeps_resP bi n
   refine⟨fun t s s' e => ?_,fun t=>tails_items (ndR n) i1 _⟩
   simp only[resP] at e
   split at e
   ·cases hu:useP bi t.1.name t.1.pl s with
    | error x=>rw[hu] at e;cases e
    | ok p =>
      obtain⟨v,s1⟩:=p
      rw[hu] at e
      simp only at e
      obtain rfl:=Except.ok.inj e
      exact use_same bi _ _ s s1 v hu
   ·split at e
    ·exact keeps_give bi _ i1 _ s s' e
    ·split at e
     ·exact keeps_functionP _ i2 _ _ s s' e
     ·split at e
      ·exact keeps_block _ i1 _ s s' e
      ·split at e
       ·exact keeps_bind (keeps_each i1 _) (keeps_bind (keeps_catch _ i2 _ _) (keeps_each i1 _)) s s' e
       ·split at e
        ·exact keeps_loop i1 _ s s' e
        ·split at e
         ·exact keeps_loopOf i1 i1 _ _ s s' e
         ·split at e
          ·exact keeps_label i1 _ _ _ s s' e
          ·split at e
           ·exact keeps_jump _ s s' e
           ·split at e
            ·exact keeps_leave i1 _ _ s s' e
            ·exact keeps_each i1 _ s s' e
theorem keeps_functionR {α:Type}(nd:α→Nd){body:α→RM}(hb:∀k,Tails (body k))(x:Nd)(l:List α):Keeps (functionR nd body x l):=fun s s' e=>by
 unfold functionR at e
 split at e
 ·cases e
 ·cases hl:l.getLast? with
  | none=>rw[hl] at e;obtain rfl:=Except.ok.inj e;exact Same.refl s
  | some b =>
    rw[hl] at e
    simp only at e
    obtain⟨s1,e1,e2⟩:=bind_ok e
    obtain⟨s2,e3,e4⟩:=bind_ok e2
    obtain rfl:=Except.ok.inj e4
    have h1:=tails_pars nd _ _ s1 e1
    have h2:=hb b _ s2 e3
    have hbk:(if selfB x then bumpP s1 else s1).blocks=s1.blocks:=by split <;> rfl
    refine⟨?_,rfl,rfl,rfl⟩
    show s2.blocks.drop (if selfB x then 2 else 1)=s.blocks
    have h3:s2.blocks.drop 1=(enterR x (l.length - 1) s).blocks.drop 1:=by rw[h2.blocks,hbk,h1.blocks]
    unfold enterR at h3
    cases c:selfB x with
    | true =>
      rw[c] at h3
      have:s2.blocks.drop 2=(s2.blocks.drop 1).drop 1:=by rw[List.drop_drop]
      simp only[if_true]
      rw[this,h3]
      rfl
    | false =>
      rw[c] at h3
      simp only[Bool.false_eq_true,if_false]
      rw[h3]
      rfl
theorem keeps_ok:Keeps (fun s => .ok s):=fun s s' e=>by obtain rfl:=Except.ok.inj e;exact Same.refl s
theorem keeps_giveR {α:Type}(bi:ByteArray→Bool)(nd:α→Nd){f:α→RM}(hf:∀k,Keeps (f k))(l:List α):Keeps (giveR bi nd f l):=fun s s' e=>by
 unfold giveR at e
 cases l with
 | nil=>exact keeps_ok s s' e
 | cons t0 r =>
   simp only at e
   obtain⟨s1,e1,e2⟩:=bind_ok e
   have h1:Same s s1:=by
    split at e1
    ·exact keeps_useR bi _ _ _ s s1 e1
    ·exact hf t0 s s1 e1
   exact h1.trans (keeps_each hf r s1 s' e2)
theorem keeps_resR (bi:ByteArray→Bool):∀n,(∀t,Keeps ((resR bi n).1 t))∧(∀t,Keeps ((resR bi n).2.1 t))∧(∀t,Tails ((resR bi n).2.2 t))
 | 0=>⟨(fun t=>nomatch (t:Empty)),(fun t=>nomatch (t:Empty)),(fun t=>nomatch (t:Empty))⟩
 | n+1=>by
   obtain⟨i1,i2,i3⟩:=keeps_resR bi n
   refine⟨fun t s s' e => ?_,fun t s s' e => ?_,fun t=>tails_items (ndR n) i2 _⟩
   ·simp only[resR] at e
    split at e
    ·exact keeps_useR bi _ _ _ s s' e
    ·split at e
     ·exact keeps_functionR _ i3 _ _ s s' e
     ·split at e
      ·exact keeps_giveR bi _ i1 _ s s' e
      ·exact keeps_each i1 _ s s' e
   ·simp only[resR] at e
    split at e
    ·exact keeps_functionR _ i3 _ _ s s' e
    ·split at e
     ·exact keeps_leave i1 _ _ s s' e
     ·split at e
      ·exact keeps_bind (keeps_each i1 _) (keeps_each i2 _) s s' e
      ·split at e
       ·exact keeps_bind (keeps_each i1 _) (keeps_loop i2 _) s s' e
       ·split at e
        ·exact keeps_loopOf i1 i2 _ _ s s' e
        ·split at e
         ·exact keeps_jump _ s s' e
         ·split at e
          ·exact keeps_label i2 _ _ _ s s' e
          ·split at e
           ·exact keeps_each i1 _ s s' e
           ·split at e
            ·exact keeps_bind (keeps_each i2 _) (keeps_bind (keeps_catch _ i3 _ _) (keeps_each i2 _)) s s' e
            ·split at e
             ·exact keeps_block _ i2 _ s s' e
             ·exact keeps_ok s s' e
end Go.Proofs.YtihmdcdifakepaaGreat.Rz
