/- RG, RH, ZB -/
import Derived.Test.YtihmdcdifakepaaGreatB3
import Derived.Test.YtihmdcdifakepaaGreatB7
import Derived.Test.YtihmdcdifakepaaGreatMD
set_option linter.unusedVariables false
set_option linter.unusedSimpArgs false
set_option maxRecDepth 100000
set_option maxHeartbeats 40000000
namespace Go.Proofs.YtihmdcdifakepaaGreat.Rz
open Go.Proofs.YtihmdcdifakepaaGreat.Sc
abbrev Blk:=List (ByteArray×Nat)
def ne (bs:List Blk):List Blk:=bs.filter fun b => !b.isEmpty
theorem ne_nil (bs:List Blk):ne ([] :: bs)=ne bs:=rfl
theorem ne_cons (h:Blk)(a b:List Blk)(e:ne a=ne b):ne (h :: a)=ne (h :: b):=by
 unfold ne at *
 rw[List.filter_cons,List.filter_cons,e]
theorem find_ne (nm:ByteArray):∀bs:List Blk,findP nm (ne bs)=findP nm bs
 | []=>rfl
 | [] :: bs=>by
   rw[ne_nil,find_ne nm bs]
   rfl
 | (x :: b) :: bs=>by
   have:ne ((x :: b) :: bs)=(x :: b) :: ne bs:=rfl
   rw[this]
   unfold findP
   rw[find_ne nm bs]
theorem find_same {a b:List Blk}(e:ne a=ne b)(nm:ByteArray):findP nm a=findP nm b:=by rw[←find_ne,e,find_ne]
structure Core (s r:RS):Prop where
 scopes:s.scopes=r.scopes
 vars:s.vars=r.vars
 uses:s.uses=r.uses
 fn:s.fn=r.fn
structure Rl (lp:Bool)(s r:RS):Prop where
 core:Core s r
 blocks:ne s.blocks=ne r.blocks
 side:lp=true→s.loops=r.loops∧s.labels=r.labels
structure Hd (s r:RS):Prop where
 core:Core s r
 blocks:∃h a b,s.blocks=h :: a∧r.blocks=h :: b∧ne a=ne b
 side:s.loops=r.loops∧s.labels=r.labels
theorem Hd.rl {s r:RS}(h:Hd s r):Rl true s r:=by
 obtain⟨x,a,b,e1,e2,e3⟩:=h.blocks
 exact⟨h.core,by rw[e1,e2];exact ne_cons x a b e3,fun _=>h.side⟩
theorem Rl.low {lp:Bool}{s r:RS}(h:Rl lp s r):Rl false s r:=⟨h.core,h.blocks,fun e=>by cases e⟩
theorem Rl.open' {s r:RS}(h:Rl true s r):Hd (openP s) (openP r):=⟨⟨h.core.scopes,h.core.vars,h.core.uses,h.core.fn⟩,⟨[],s.blocks,r.blocks,rfl,rfl,h.blocks⟩,h.side rfl⟩
def Eqv (R:RS→RS→Prop):Except Er RS→Except Er RS→Prop
 | .error e,.error e'=>e=e'
 | .ok s,.ok r=>R s r
 | _,_=>False
theorem Eqv.bind {R R':RS→RS→Prop}{a b:Except Er RS}{f g:RM}(h:Eqv R a b)(hf:∀s r,R s r→Eqv R' (f s) (g r)):Eqv R' (a.bind f) (b.bind g):=by
 cases a with
 | error e=>cases b with
   | error e'=>exact h
   | ok r=>exact h.elim
 | ok s=>cases b with
   | error e'=>exact h.elim
   | ok r=>exact hf s r h
theorem Eqv.mono {R R':RS→RS→Prop}{a b:Except Er RS}(h:Eqv R a b)(hr:∀s r,a = .ok s→b = .ok r→R s r→R' s r):Eqv R' a b:=by
 cases a with
 | error e=>cases b with
   | error e'=>exact h
   | ok r=>exact h.elim
 | ok s=>cases b with
   | error e'=>exact h.elim
   | ok r=>exact hr s r rfl rfl h
theorem Eqv.up {lp:Bool}{s r:RS}{f g:RM}(h:Rl lp s r)(hf:Keeps f)(hg:Keeps g)(e:Eqv (Rl false) (f s) (g r)):Eqv (Rl lp) (f s) (g r) :=
 e.mono fun s' r' e1 e2 q=>by
  have k1:=hf s s' e1
  have k2:=hg r r' e2
  refine⟨q.core,q.blocks,fun hl => ?_⟩
  obtain⟨h1,h2⟩:=h.side hl
  exact⟨by rw[k1.loops,k2.loops,h1],by rw[k1.labels,k2.labels,h2]⟩
theorem eqv_each {α:Type}{lp:Bool}{f g:α→RM}:∀(l:List α),(∀k∈l,∀s r,Rl lp s r→Eqv (Rl lp) (f k s) (g k r))→∀s r,Rl lp s r→Eqv (Rl lp) (eachP f l s) (eachP g l r)
 | [],_,s,r,h=>h
 | k :: l,hk,s,r,h=>(hk k (by simp) s r h).bind fun s1 r1 h1=>eqv_each l (fun j hj=>hk j (by simp[hj])) s1 r1 h1
theorem vars_same {s r:RS}(h:Core s r):varsAt s=varsAt r:=by unfold varsAt;rw[h.scopes,h.fn]
theorem eqv_decl (nm:ByteArray)(pl kd:Int)(s r:RS)(h:Hd s r):Eqv Hd (declP nm pl kd s) (declP nm pl kd r):=by
 obtain⟨x,a,b,e1,e2,e3⟩:=h.blocks
 have g1:s.blocks.headD []=r.blocks.headD []:=by rw[e1,e2];rfl
 unfold declP
 rw[g1,vars_same h.core]
 by_cases c:((r.blocks.headD []).any fun e=>decide (e.1=nm))=true
 ·rw[if_pos c,if_pos c]
  rfl
 ·rw[if_neg c,if_neg c]
  by_cases d:200≤varsAt r
  ·rw[if_pos d,if_pos d]
   rfl
  ·rw[if_neg d,if_neg d]
   refine⟨⟨?_,?_,h.core.uses,h.core.fn⟩,⟨(nm,s.vars.length) :: x,a,b,?_,?_,e3⟩,h.side⟩
   ·show s.scopes.modify s.fn _=r.scopes.modify r.fn _
    rw[h.core.scopes,h.core.fn]
   ·show s.vars++[_]=r.vars++[_]
    have g2:(bumpP s).fn=(bumpP r).fn:=h.core.fn
    rw[h.core.vars,g2]
   ·show(putVarP nm pl kd _ (bumpP s)).blocks=_
    unfold putVarP
    simp only
    have:(bumpP s).blocks=x :: a:=e1
    rw[this]
    rfl
   ·show(putVarP nm pl kd _ (bumpP r)).blocks=_
    unfold putVarP
    simp only
    have:(bumpP r).blocks=x :: b:=e2
    rw[this,h.core.vars]
    rfl
theorem eqv_heads {α:Type}(nd:α→Nd):∀(l:List α)(s r:RS),Hd s r→Eqv Hd (headsP nd l s) (headsP nd l r)
 | [],s,r,h=>h
 | k :: l,s,r,h=>by
   unfold headsP
   refine Eqv.bind (R:=Hd) ?_ fun s1 r1 h1=>eqv_heads nd l s1 r1 h1
   split
   ·exact eqv_decl _ _ _ s r h
   ·split
    ·exact eqv_decl _ _ _ s r h
    ·split
     ·exact eqv_decl _ _ _ s r h
     ·exact h
theorem eqv_pars {α:Type}(nd:α→Nd):∀(l:List α)(s r:RS),Hd s r→Eqv Hd (parsP nd l s) (parsP nd l r)
 | [],s,r,h=>h
 | k :: l,s,r,h=>(eqv_decl _ _ _ s r h).bind fun s1 r1 h1=>eqv_pars nd l s1 r1 h1
theorem eqv_items {α:Type}(nd:α→Nd){f g:α→RM}(l:List α)(hk:∀k∈l,∀s r,Rl true s r→Eqv (Rl true) (f k s) (g k r))(s r:RS)(h:Hd s r):Eqv (Rl true) (itemsP nd f l s) (itemsP nd g l r) :=
 (eqv_heads nd l s r h).bind fun s1 r1 h1=>eqv_each l hk s1 r1 h1.rl
theorem eqv_block {α:Type}(nd:α→Nd){f g:α→RM}(hf:∀k,Keeps (f k))(hg:∀k,Keeps (g k))(l:List α)(hk:∀k∈l,∀s r,Rl true s r→Eqv (Rl true) (f k s) (g k r))(s r:RS)(h:Rl true s r):Eqv (Rl true) (blockP nd f l s) (blockP nd g l r):=by
 have e:Eqv Core (blockP nd f l s) (blockP nd g l r):=(eqv_items nd l hk _ _ h.open').bind fun s1 r1 h1=>⟨h1.core.scopes,h1.core.vars,h1.core.uses,h1.core.fn⟩
 refine e.mono fun s' r' e1 e2 q => ?_
 have k1:=keeps_block nd hf l s s' e1
 have k2:=keeps_block nd hg l r r' e2
 obtain⟨h1,h2⟩:=h.side rfl
 exact⟨q,by rw[k1.blocks,k2.blocks];exact h.blocks,fun _=>⟨by rw[k1.loops,k2.loops,h1],by rw[k1.labels,k2.labels,h2]⟩⟩
theorem eqv_loop {α:Type}{f g:α→RM}(hf:∀k,Keeps (f k))(hg:∀k,Keeps (g k))(l:List α)(hk:∀k∈l,∀s r,Rl true s r→Eqv (Rl true) (f k s) (g k r))(s r:RS)(h:Rl true s r):Eqv (Rl true) (loopP f l s) (loopP g l r):=by
 obtain⟨h1,h2⟩:=h.side rfl
 have h0:Rl true { s with loops:=s.loops+1 } { r with loops:=r.loops+1 }:=⟨⟨h.core.scopes,h.core.vars,h.core.uses,h.core.fn⟩,h.blocks,fun _=>⟨by show s.loops+1=r.loops+1;rw[h1],h2⟩⟩
 exact(eqv_each l hk _ _ h0).bind fun s1 r1 q=>⟨⟨q.core.scopes,q.core.vars,q.core.uses,q.core.fn⟩,q.blocks,fun _=>⟨by show s1.loops - 1=r1.loops - 1;rw[(q.side rfl).1],(q.side rfl).2⟩⟩
theorem eqv_label {α:Type}{f g:α→RM}(x:Nd)(lead:Bool)(l:List α)(hk:∀k∈l,∀s r,Rl true s r→Eqv (Rl true) (f k s) (g k r))(s r:RS)(h:Rl true s r):Eqv (Rl true) (labelP f x lead l s) (labelP g x lead l r):=by
 obtain⟨h1,h2⟩:=h.side rfl
 unfold labelP
 rw[h2]
 split
 ·rfl
 ·have h0:Rl true { s with labels:=r.labels++[(x.name,lead)] } { r with labels:=r.labels++[(x.name,lead)] }:=⟨⟨h.core.scopes,h.core.vars,h.core.uses,h.core.fn⟩,h.blocks,fun _=>⟨h1,rfl⟩⟩
  exact(eqv_each l hk _ _ h0).bind fun s1 r1 q=>⟨⟨q.core.scopes,q.core.vars,q.core.uses,q.core.fn⟩,q.blocks,fun _=>⟨(q.side rfl).1,rfl⟩⟩
theorem eqv_jump (x:Nd)(s r:RS)(h:Rl true s r):Eqv (Rl true) (jumpP x s) (jumpP x r):=by
 obtain⟨h1,h2⟩:=h.side rfl
 unfold jumpP
 rw[h1,h2]
 generalize (if isS x.name [] then decide (0<r.loops) else r.labels.any fun e=>decide (e.1=x.name) && (e.2 || x.kind == 39))=b
 cases b with
 | true=>exact h
 | false=>rfl
theorem eqv_leave {α:Type}{lp:Bool}{f g:α→RM}(x:Nd)(l:List α)(hk:∀k∈l,∀s r,Rl lp s r→Eqv (Rl lp) (f k s) (g k r))(s r:RS)(h:Rl lp s r):Eqv (Rl lp) (leaveP f x l s) (leaveP g x l r):=by
 unfold leaveP
 rw[h.core.fn]
 split
 ·rfl
 ·exact eqv_each l hk s r h
theorem eqv_use (bi:ByteArray→Bool)(nm:ByteArray)(pl:Int)(s r:RS)(h:Rl false s r):Eqv (Rl false) (match useP bi nm pl s with | .error e => .error e | .ok (_,s1) => .ok s1) (useR bi nm pl false r):=by
 unfold useP useR
 rw[find_same h.blocks nm]
 cases findP nm r.blocks with
 | some v =>
   simp only[Bool.false_and,Bool.false_eq_true,if_false]
   rw[h.core.vars,h.core.fn]
   by_cases c:((r.vars[v]?).map (·.fn)).getD 0≠r.fn
   ·rw[if_pos c,if_pos c]
    exact⟨⟨h.core.scopes,rfl,by show s.uses++_=r.uses++_;rw[h.core.uses],rfl⟩,h.blocks,fun e=>by cases e⟩
   ·rw[if_neg c,if_neg c]
    exact⟨⟨h.core.scopes,rfl,by show s.uses++_=r.uses++_;rw[h.core.uses],rfl⟩,h.blocks,fun e=>by cases e⟩
 | none =>
   simp only
   cases bi nm with
   | true=>exact⟨⟨h.core.scopes,h.core.vars,by show s.uses++_=r.uses++_;rw[h.core.uses],h.core.fn⟩,h.blocks,fun e=>by cases e⟩
   | false=>rfl
theorem fixed_cap (v w:Nat)(s:RS):((capP w s).vars[v]?).map (fun x=>x.kind == 2 || x.kind == 5)=(s.vars[v]?).map (fun x=>x.kind == 2 || x.kind == 5):=by
 unfold capP
 simp only[List.getElem?_modify]
 cases s.vars[v]? with
 | none=>rfl
 | some y =>
   by_cases c:w=v <;> simp[c]
theorem eqv_written (bi:ByteArray→Bool)(nm:ByteArray)(pl:Int)(s r:RS)(h:Rl false s r) :
  Eqv (Rl false) (match useP bi nm pl s with | .error e => .error e | .ok (v,s1)=>if staysP v s1 then .error (pl,74) else .ok s1) (useR bi nm pl true r):=by
 unfold useP useR
 rw[find_same h.blocks nm]
 cases findP nm r.blocks with
 | some v =>
   simp only[Bool.true_and]
   have hst:∀u:List Us,staysP (some v) (if ((s.vars[v]?).map (·.fn)).getD 0≠s.fn then capP v { s with uses:=u } else { s with uses:=u })=fixedR v r:=by
    intro u
    unfold staysP fixedR
    simp only
    split
    ·rw[fixed_cap]
     show((s.vars[v]?).map _).getD false=_
     rw[h.core.vars]
    ·show((s.vars[v]?).map _).getD false=_
     rw[h.core.vars]
   rw[hst]
   cases fixedR v r with
   | true=>rfl
   | false =>
     simp only[Bool.false_eq_true,if_false]
     rw[h.core.vars,h.core.fn]
     by_cases c:((r.vars[v]?).map (·.fn)).getD 0≠r.fn
     ·rw[if_pos c,if_pos c]
      exact⟨⟨h.core.scopes,rfl,by show s.uses++_=r.uses++_;rw[h.core.uses],rfl⟩,h.blocks,fun e=>by cases e⟩
     ·rw[if_neg c,if_neg c]
      exact⟨⟨h.core.scopes,rfl,by show s.uses++_=r.uses++_;rw[h.core.uses],rfl⟩,h.blocks,fun e=>by cases e⟩
 | none =>
   simp only
   cases bi nm with
   | true=>rfl
   | false=>rfl
theorem enter_hd {lp:Bool}(x:Nd)(many:Nat)(s r:RS)(h:Rl lp s r):Hd (enterP x many s) (enterR x many r):=by
 unfold enterP enterR
 cases selfB x with
 | true =>
   simp only[if_true]
   refine⟨⟨?_,?_,h.core.uses,?_⟩,⟨[],_,_,rfl,rfl,?_⟩,rfl,rfl⟩
   ·show s.scopes++_=r.scopes++_
    rw[h.core.scopes,h.core.fn]
   ·show s.vars++[_]=r.vars++[_]
    rw[h.core.vars]
    congr 2
    show Vr.mk _ _ _ s.scopes.length _ _=Vr.mk _ _ _ r.scopes.length _ _
    rw[h.core.scopes]
   ·show s.scopes.length=r.scopes.length
    rw[h.core.scopes]
   ·show ne ([(x.name,s.vars.length)] :: s.blocks)=ne ([(x.name,r.vars.length)] :: r.blocks)
    rw[h.core.vars]
    exact ne_cons _ _ _ h.blocks
 | false =>
   simp only[Bool.false_eq_true,if_false]
   refine⟨⟨?_,h.core.vars,h.core.uses,?_⟩,⟨[],_,_,rfl,rfl,?_⟩,rfl,rfl⟩
   ·show s.scopes++_=r.scopes++_
    rw[h.core.scopes,h.core.fn]
   ·show s.scopes.length=r.scopes.length
    rw[h.core.scopes]
   ·show ne ([] :: s.blocks)=ne r.blocks
    rw[ne_nil]
    exact h.blocks
theorem bump_hd {s r:RS}(h:Hd s r):Hd (bumpP s) (bumpP r) :=
 ⟨⟨by show s.scopes.modify s.fn _=r.scopes.modify r.fn _;rw[h.core.scopes,h.core.fn],h.core.vars,h.core.uses,h.core.fn⟩,h.blocks,h.side⟩
theorem eqv_function {α:Type}{lp:Bool}(nd:α→Nd){f g:α→RM}(hf:∀k,Tails (f k))(hg:∀k,Tails (g k))(x:Nd)(l:List α)
  (hk:∀b,l.getLast?=some b→∀s r,Hd s r→Eqv Core (f b s) (g b r)) (s r:RS) (h:Rl lp s r):Eqv (Rl lp) (functionP nd f x l s) (functionR nd g x l r):=by
 have e:Eqv Core (functionP nd f x l s) (functionR nd g x l r):=by
  unfold functionP functionR
  rw[h.core.scopes]
  by_cases c:r.scopes.length=200
  ·rw[if_pos c,if_pos c]
   rfl
  ·rw[if_neg c,if_neg c]
   cases hl:l.getLast? with
   | none=>exact h.core
   | some b =>
     simp only
     refine(eqv_pars nd _ _ _ (enter_hd x _ s r h)).bind fun s1 r1 h1 => ?_
     have h2:Hd (if selfB x then bumpP s1 else s1) (if selfB x then bumpP r1 else r1):=by
      cases selfB x with
      | true=>exact bump_hd h1
      | false=>exact h1
     exact(hk b hl _ _ h2).bind fun s2 r2 q=>⟨q.scopes,q.vars,q.uses,h.core.fn⟩
 refine e.mono fun s' r' e1 e2 q => ?_
 have k1:=keeps_functionP nd hf x l s s' e1
 have k2:=keeps_functionR nd hg x l r r' e2
 refine⟨q,by rw[k1.blocks,k2.blocks];exact h.blocks,fun hl => ?_⟩
 obtain⟨h1,h2⟩:=h.side hl
 exact⟨by rw[k1.loops,k2.loops,h1],by rw[k1.labels,k2.labels,h2]⟩
def Good (n:Nat)(p:UInt8)(t:Tr n):Prop:=∃star st st',partP n p t star st=some st'
theorem kids_good {α:Type}(f:UInt8→α→Bool→St→Option St)(star:Bool):∀(ps:List UInt8)(ks:List α)(st st':St),kidsP f star ps ks st=some st' →
  ∀(i:Nat) (p:UInt8) (k:α),ps[i]?=some p→ks[i]?=some k→∃st st',f p k star st=some st'
 | [],ks,st,st',h,i,p,k,hp,hk=>by simp at hp
 | p0 :: ps,[],st,st',h,i,p,k,hp,hk=>by simp at hk
 | p0 :: ps,k0 :: ks,st,st',h,i,p,k,hp,hk=>by
   unfold kidsP at h
   obtain⟨s1,h1,h2⟩:=Option.bind_eq_some_iff.1 h
   cases i with
   | zero =>
     simp at hp hk
     subst hp hk
     exact⟨st,s1,h1⟩
   | succ i=>exact kids_good f star ps ks s1 st' h2 i p k (by simpa using hp) (by simpa using hk)
theorem good_parts (n:Nat)(p:UInt8)(t:Tr (n+1))(h:Good (n+1) p t) :
  (t.1.kind=0∧mayLackB p=true∧t.2.xs=[])∨(t.1.kind≠0∧isPartB p t.1.kind=true∧(p=110∨((partsI t.1.kind t.2.xs.length).length=t.2.xs.length∧∀(i:Nat) (q:UInt8) (k:Tr n),(partsI t.1.kind t.2.xs.length)[i]?=some q→t.2.xs[i]?=some k→Good n q k))):=by
 obtain⟨star,st,st',h⟩:=h
 obtain⟨x,s⟩:=t
 simp only[partP] at h
 split at h
 ·rename_i c
  split at h
  ·rename_i d
   exact Or.inl ⟨c,d.1,List.length_eq_zero_iff.1 d.2⟩
  ·cases h
 ·rename_i c
  split at h
  ·cases h
  ·rename_i d
   refine Or.inr ⟨c,by simpa using d,?_⟩
   split at h
   ·rename_i e
    exact Or.inl e
   ·refine Or.inr ?_
    unfold rightP at h
    split at h
    ·cases h
    ·rename_i e1
     split at h
     ·cases h
     ·obtain⟨s1,h1,h2⟩:=Option.bind_eq_some_iff.1 h
      refine⟨by simpa using e1,fun i q k hq hk => ?_⟩
      obtain⟨a,b,hab⟩:=kids_good _ _ _ _ _ _ h2 i q k hq hk
      exact⟨_,a,b,hab⟩
theorem good_all {n:Nat}{ps:List UInt8}{ks:List (Tr n)}(hl:ps.length=ks.length)(hg:∀(i:Nat)(q:UInt8)(k:Tr n),ps[i]?=some q→ks[i]?=some k→Good n q k)(P:UInt8→Prop)(hp:∀q∈ps,P q):∀k∈ks,∃q,P q∧Good n q k:=by
 intro k hk
 obtain⟨i,hi,e⟩:=List.getElem_of_mem hk
 have h1:ks[i]?=some k:=by rw[List.getElem?_eq_getElem hi,e]
 have h2:ps[i]?=some (ps[i]'(by omega)):=List.getElem?_eq_getElem _
 exact⟨_,hp _ (List.getElem_mem _),hg i _ k h2 h1⟩
end Go.Proofs.YtihmdcdifakepaaGreat.Rz
namespace Go.Proofs.YtihmdcdifakepaaGreat.Rv.Rx
open Go.RowKit Go.Proofs.YtihmdcdifakepaaGreat.Sc Go.Proofs.YtihmdcdifakepaaGreat.Rz
structure Lk (s s':Rz.RS):Prop where
 blen:s'.blocks.length=s.blocks.length
 fn:s'.fn=s.fn
 loops:s'.loops=s.loops
 labels:s'.labels=s.labels
 scs:s.scopes.length≤s'.scopes.length
theorem Lk.refl (s:Rz.RS):Lk s s:=⟨rfl,rfl,rfl,rfl,Nat.le_refl _⟩
theorem Lk.trans {a b d:Rz.RS}(h:Lk a b)(k:Lk b d):Lk a d:=⟨k.blen.trans h.blen,k.fn.trans h.fn,k.loops.trans h.loops,k.labels.trans h.labels,Nat.le_trans h.scs k.scs⟩
theorem Lk.dp {s s':Rz.RS}(h:Lk s s'):dp s'=dp s:=by unfold Rv.dp;rw[h.blen,h.loops,h.labels]
def Said (r:Except Rz.Er Rz.RS)(s':Rz.RS)(c' a':Int):Prop:=match r with
 | .ok s1=>s'=s1∧c'=0
 | .error (p,e)=>c'=e∧a'=p∧c'≠0
structure Told (k:Nat)(r:Except Rz.Er Rz.RS)(s:Rz.RS)(c a:Int)(s':Rz.RS)(c' a':Int):Prop where
 lk:Lk s s'
 cr:cr s'≤cr s+k
 bad:c≠0→s'=s∧c'=c∧a'=a
 good:c=0→Said r s' c' a'
theorem Told.mono {k k':Nat}{r:Except Rz.Er Rz.RS}{s s':Rz.RS}{c a c' a':Int}(h:Told k r s c a s' c' a')(hk:k≤k'):Told k' r s c a s' c' a':=⟨h.lk,by have:=h.cr;omega,h.bad,h.good⟩
theorem Told.ok (s:Rz.RS)(c a:Int):Told 0 (.ok s) s c a s c a:=⟨Lk.refl s,by omega,fun _=>⟨rfl,rfl,rfl⟩,fun h=>⟨rfl,h⟩⟩
theorem Told.idle {r:Except Rz.Er Rz.RS}{s:Rz.RS}{c a:Int}(h:c≠0):Told 0 r s c a s c a:=⟨Lk.refl s,by omega,fun _=>⟨rfl,rfl,rfl⟩,fun e=>absurd e h⟩
theorem Told.bind {k k':Nat}{f g:RM}{s s1 s2:Rz.RS}{c a c1 a1 c2 a2:Int}(h:Told k (f s) s c a s1 c1 a1)(h2:Told k' (g s1) s1 c1 a1 s2 c2 a2):Told (k+k') ((f s).bind g) s c a s2 c2 a2:=by
 refine⟨h.lk.trans h2.lk,by have:=h.cr;have:=h2.cr;omega,fun hc => ?_,fun hc => ?_⟩
 ·obtain⟨e1,e2,e3⟩:=h.bad hc
  obtain⟨d1,d2,d3⟩:=h2.bad (by rw[e2];exact hc)
  exact⟨d1.trans e1,d2.trans e2,d3.trans e3⟩
 ·have hg:=h.good hc
  cases hf:f s with
  | ok t =>
    rw[hf] at hg
    obtain⟨e1,e2⟩:=hg
    subst e1
    exact h2.good e2
  | error er =>
    rw[hf] at hg
    obtain⟨p,e⟩:=er
    obtain⟨e1,e2,e3⟩:=hg
    obtain⟨d1,d2,d3⟩:=h2.bad e3
    exact⟨d2.trans e1,d3.trans e2,by rw[d2];exact e3⟩
theorem Told.to {k:Nat}{r r':Except Rz.Er Rz.RS}{s s':Rz.RS}{c a c' a':Int}(h:Told k r s c a s' c' a')(e:c=0→r=r'):Told k r' s c a s' c' a':=⟨h.lk,h.cr,h.bad,fun hc=>by rw[←e hc];exact h.good hc⟩
def FitD:(n:Nat)→Tr n→Prop
 | 0,t=>nomatch (t:Empty)
 | n+1,(x,s)=>((x.kind=21∨x.kind=17∨x.kind=12∨x.kind=33∨x.kind=36∨x.kind=37)→1≤s.xs.length)∧(x.kind=38→s.xs.length=2)∧((x.kind=43∨x.kind=35)→s.xs.length=3)∧(x.kind=41→s.xs.length=1)∧∀k∈s.xs,FitD n k
def okD (n:Nat)(W0:World)(t:Tr n):Prop:=okT n W0 t∧FitD n t
theorem parts_lenD {k:Int}{n:Nat}(h:(partsI k n).length=n):((k=21∨k=17∨k=12∨k=33∨k=36∨k=37)→1≤n)∧(k=38→n=2)∧((k=43∨k=35)→n=3)∧(k=41→n=1):=by
 refine⟨fun q => ?_,fun q => ?_,fun q => ?_,fun q => ?_⟩
 ·rcases q with rfl | rfl | rfl | rfl | rfl | rfl <;> (simp[partsI] at h;omega)
 ·subst q;simp[partsI] at h;omega
 ·rcases q with rfl | rfl <;> (simp[partsI] at h;omega)
 ·subst q;simp[partsI] at h;omega
theorem name_kindD {k:Int}(h:isPartB 110 k=true):k=3:=by
 unfold isPartB at h
 simpa using h
theorem fitD_good:∀(n:Nat)(p:UInt8)(t:Tr n),Rz.Good n p t→FitD n t
 | 0,p,t,h=>nomatch (t:Empty)
 | n+1,p,(x,s),⟨star,st,st',h⟩=>by
   simp only[partP] at h
   split at h
   ·rename_i c
    split at h
    ·rename_i d
     have hx:s.xs=[]:=List.length_eq_zero_iff.1 d.2
     refine⟨fun q=>by omega,fun q=>by omega,fun q=>by omega,fun q=>by omega,fun k hk=>by rw[hx] at hk;cases hk⟩
    ·cases h
   ·rename_i c
    split at h
    ·cases h
    ·rename_i d
     split at h
     ·rename_i e
      subst e
      have hk3:=name_kindD (by simpa using d:isPartB 110 x.kind=true)
      split at h
      ·rename_i e0
       have hx:s.xs=[]:=List.length_eq_zero_iff.1 e0
       refine⟨fun q=>by omega,fun q=>by omega,fun q=>by omega,fun q=>by omega,fun k hk=>by rw[hx] at hk;cases hk⟩
      ·cases h
     ·unfold rightP at h
      split at h
      ·cases h
      ·rename_i e1
       split at h
       ·cases h
       ·obtain⟨s1,h1,h2⟩:=Option.bind_eq_some_iff.1 h
        have hl:(partsI x.kind s.xs.length).length=s.xs.length:=by simpa using e1
        obtain⟨l1,l2,l3,l4⟩:=parts_lenD hl
        refine⟨l1,l2,l3,l4,fun k hk => ?_⟩
        obtain⟨i,hi⟩:=List.getElem?_of_mem hk
        have hil:i<(partsI x.kind s.xs.length).length:=by rw[hl];exact(List.getElem?_eq_some_iff.1 hi).1
        obtain⟨a,b,hab⟩:=kids_good _ _ _ _ _ _ h2 i _ k (List.getElem?_eq_getElem hil) hi
        exact fitD_good n _ k ⟨_,a,b,hab⟩
structure OnD (W0:World)(wb:Nat)(O:Nat→Prop)(s:Rz.RS)(c a:Int)(v6:Value)(w:World):Prop where
 mem:RMem w W0.heap.size wb O s c a v6
 bel:Below W0.heap.size W0 w
def Tl (W:World)(B wb:Nat)(O:Nat→Prop)(v6:Value)(k:Nat)(r:Except Rz.Er Rz.RS)(s:Rz.RS)(c a:Int)(e:Ending)(w':World):Prop :=
 e = .returned (.tuple #[])∧∃s' c' a',Told k r s c a s' c' a'∧RWent W B wb O s' c' a' v6 w'
section
variable {W0 w w1 w':World}{wb:Nat}{O O1:Nat→Prop}{s s1 s2:Rz.RS}{c a c1 a1 c2 a2:Int}{v6 v6':Value}{e:Ending}{k k':Nat}
theorem OnD.below (h:OnD W0 wb O s c a v6 w)(hb:Below w.heap.size w w'):OnD W0 wb O s c a v6 w':=⟨h.mem.below hb,h.bel.trans (hb.mono h.bel.size)⟩
theorem OnD.went (h:OnD W0 wb O s c a v6 w)(hw:RWent w W0.heap.size wb O s1 c1 a1 v6' w'):∃O',OnD W0 wb O' s1 c1 a1 v6' w'∧Chg O w w'∧∀b,O' b→O b∨w.heap.size≤b:=by
 have hlt:=h.mem.lt
 obtain⟨O',h1,h2,h3⟩:=hw
 exact⟨O',⟨h1,h2.below h.bel h.bel.size (fun b q=>(hlt b q).1)⟩,h2,h3⟩
theorem rwent_then {W:World}{B:Nat}(h1:Chg O w W)(h3:∀b,O1 b→O b∨w.heap.size≤b)(k:RWent W B wb O1 s c a v6 w'):RWent w B wb O s c a v6 w':=by
 obtain⟨O2,k1,k2,k3⟩:=k
 refine⟨O2,k1,h1.trans k2 (fun a ha q => ?_),fun b q => ?_⟩
 ·rcases h3 a q with q | q
  ·exact q
  ·omega
 ·rcases k3 b q with q | q
  ·exact h3 b q
  ·exact Or.inr (Nat.le_trans h1.size q)
theorem relT {f:Nat}{args:Array Value}{r:Except Rz.Er Rz.RS}(h:OnD W0 wb O s c a v6 w)(hw:RWent w W0.heap.size wb O s1 c1 a1 v6' w1)(q:∀O1,OnD W0 wb O1 s1 c1 a1 v6' w1→Calls Tryz.prog f args w1 (Tl w1 W0.heap.size wb O1 v6' k r s1 c1 a1)) :
  Calls Tryz.prog f args w1 (fun e w'=>e = .returned (.tuple #[])∧∃s' c' a',Told k r s1 c1 a1 s' c' a'∧RWent w W0.heap.size wb O s' c' a' v6' w'):=by
 obtain⟨O1,o1,o2,o3⟩:=h.went hw
 refine(q O1 o1).mono ?_
 rintro e w' ⟨he,s',c',a',ht,hg⟩
 exact⟨he,s',c',a',ht,rwent_then o2 o3 hg⟩
theorem relG {f:Nat}{args:Array Value}{val:Value}(h:OnD W0 wb O s c a v6 w)(hw:RWent w W0.heap.size wb O s1 c1 a1 v6' w1)(q:∀O1,OnD W0 wb O1 s1 c1 a1 v6' w1→Calls Tryz.prog f args w1 (fun e w'=>e = .returned val∧RWent w1 W0.heap.size wb O1 s2 c2 a2 v6' w')) :
  Calls Tryz.prog f args w1 (fun e w'=>e = .returned val∧RWent w W0.heap.size wb O s2 c2 a2 v6' w'):=by
 obtain⟨O1,o1,o2,o3⟩:=h.went hw
 refine(q O1 o1).mono ?_
 rintro e w' ⟨he,hg⟩
 exact⟨he,rwent_then o2 o3 hg⟩
theorem Tl.behind {r:Except Rz.Er Rz.RS}{W w1:World}{B:Nat}(hb:Below W.heap.size W w1)(h:Tl w1 B wb O v6 k r s c a e w'):Tl W B wb O v6 k r s c a e w':=by
 obtain⟨h0,s',c',a',h1,h2⟩:=h
 exact⟨h0,s',c',a',h1,h2.behind hb⟩
end
end Go.Proofs.YtihmdcdifakepaaGreat.Rv.Rx
