/- ZD, ZQ -/
import Derived.Test.YtihmdcdifakepaaGreatB9
import Derived.Test.YtihmdcdifakepaaGreatB6
import Derived.OrdersHeld
set_option linter.unusedVariables false
set_option linter.unusedSimpArgs false
set_option maxRecDepth 100000
set_option maxHeartbeats 40000000
namespace Go.Proofs.YtihmdcdifakepaaGreat.Rv.Rx
open Go.RowKit Go.Proofs.YtihmdcdifakepaaGreat.Sc Go.Proofs.YtihmdcdifakepaaGreat.Rz
theorem modify_setD {α:Type}(f:α→α):∀(l:List α)(i:Nat)(x:α),l[i]?=some x→l.modify i f=l.set i (f x)
 | [],i,x,h=>by simp at h
 | y :: l,0,x,h=>by simp at h;subst h;rfl
 | y :: l,i+1,x,h=>by
   have:=modify_setD f l i x (by simpa using h)
   simp[this]
section
variable {w w' w5:World}{B wb:Nat}{O O' S:Nat→Prop}{s s':Rz.RS}{c a c' a':Int}{M M':DV}{tg:Nat→Nat}{v6 v6':Value}{b0:Blk}{bs:List Blk}
theorem At.last (h:At w B wb tg s c a M)(hbs:s.blocks=b0 :: bs):∃ms0 m g cap ma mc,M.bs=ms0++[m]∧ms0.length=bs.length∧M.v3 = .slice (some ⟨g,0,none⟩) (ms0.length+1) cap∧ms0.length+1≤cap∧cap≤maxLen∧tg g=5∧m=⟨ma,b0.length,mc⟩∧b0.length≤mc∧mc≤maxLen∧OwnR nmC 2 86 B w m.val b0.reverse∧(∀b,m.val.ownBlock=some b→tg b=ms0.length+7)∧w.cell? ⟨g,ms0.length,none⟩=some m.val∧(∀n,w.frozen? ⟨g,n,none⟩=false)∧(b0≠[]→∃q,ma=some ⟨q,0,none⟩):=by
 have hml:=h.len
 rw[hbs,List.length_cons] at hml
 obtain⟨ms0,m,hms⟩:∃ms0 m,M.bs=ms0++[m]:=by
  rcases List.eq_nil_or_concat M.bs with e | ⟨x,y,e⟩
  ·rw[e] at hml;simp at hml
  ·exact⟨x,y,by rw[e,List.concat_eq_append]⟩
 have h5:RowIn slC 1 54 B w (fun b=>tg b=5) M.v3 M.bs:=h.prt 5
 obtain⟨ad,cap,hv3,l1,l2,hg⟩:=own_slice h5.1
 obtain⟨g,rfl⟩:=hg (by rw[hms];simp)
 have hln:M.bs.length=ms0.length+1:=by rw[hms];simp
 have h5':=h5.1
 rw[hv3] at h5 h5'
 obtain⟨_,_,_,_,_,r6,r7⟩:=h5'.read rxSl.len
 have hlast:M.bs[ms0.length]?=some m:=by rw[hms];simp
 have d0:=r6 ms0.length m hlast 0 _ rfl
 rw[Nat.mul_one,Nat.add_zero] at d0
 have h7:RowIn nmC 2 _ B w (fun b=>tg b=ms0.length+7) m.val b0.reverse:=h.prt (ms0.length+7) m b0 hlast (by rw[hbs,List.reverse_cons,List.getElem?_append_right (by rw[List.length_reverse];omega),List.length_reverse,show ms0.length - bs.length=0 by omega];rfl)
 obtain⟨ma,mc,hm,k1,k2,k3⟩:=own_slice h7.1
 rw[List.length_reverse] at hm k1
 refine⟨ms0,m,g,cap,ma,mc,hms,by omega,by rw[hv3,hln],by omega,l2,h5.2 g rfl,?_,k1,k2,h7.1,h7.2,d0,fun n=>r7 n,fun q=>k3 (fun e=>q (List.reverse_eq_nil_iff.1 e))⟩
 obtain⟨x,y,z⟩:=m
 unfold SV.val at hm
 injection hm with e1 e2 e3
 simp only at e1 e2 e3
 rw[e1,e2,e3]
theorem At.name (h:At w B wb tg s c a M)(hbs:s.blocks=b0 :: bs){ms0:List SV}{m m':SV}{g cap:Nat}(hms:M.bs=ms0++[m])(hml:ms0.length=bs.length)(hv3:M.v3 = .slice (some ⟨g,0,none⟩) (ms0.length+1) cap){e:ByteArray×Nat}
  (hc:Chg (fun b=>m.val.ownBlock=some b) w w5) (ht:∀b,m.val.ownBlock=some b→tg b=ms0.length+7) (ho:OwnR nmC 2 86 B w5 m'.val (b0.reverse++[e])) (hat:∀b,m'.val.ownBlock=some b→m.val.ownBlock=some b∨w.heap.size≤b) :
  At (w5.setCell ⟨g,ms0.length,none⟩ m'.val) B wb (rtg tg w.heap.size w5.heap.size (ms0.length+7)) { s with blocks:=(e :: b0) :: bs } c a { M with bs:=ms0++[m'] }∧Chg (fun b=>tg b=5∨tg b=ms0.length+7) w (w5.setCell ⟨g,ms0.length,none⟩ m'.val):=by
 have h5:RowIn slC 1 54 B w (fun b=>tg b=5) M.v3 M.bs:=h.prt 5
 have h5':=h5
 rw[hv3] at h5
 have hg:tg g=5:=h5.2 g rfl
 have hgl:=(h.lt g (by omega)).2
 have hsz:(w5.setCell ⟨g,ms0.length,none⟩ m'.val).heap.size=w5.heap.size:=by simp
 have hall:Chg (fun b=>tg b=5∨tg b=ms0.length+7) w (w5.setCell ⟨g,ms0.length,none⟩ m'.val):=(hc.mono (fun b q=>Or.inr (ht b q))).trans (Chg.set (S:=fun b=>tg b=5∨tg b=ms0.length+7) w5 _ _ (Or.inl hg)) (fun _ _ q=>q)
 have hup:=h.up (w':=w5.setCell ⟨g,ms0.length,none⟩ m'.val) (s':={ s with blocks:=(e :: b0) :: bs }) (c':=c) (a':=a) (M':={ M with bs:=ms0++[m'] }) hall (fun i=>i=5∨i=ms0.length+7) (ms0.length+7) (fun b hb q=>⟨q,by omega⟩) ?_ ?_ ?_
 ·rw[hsz] at hup
  exact⟨hup,hall⟩
 ·rintro i (rfl | rfl)
  ·show RowIn slC 1 _ B _ _ M.v3 (ms0++[m'])
   refine⟨?_,fun b q => ?_⟩
   ·have h6:OwnR slC 1 54 B w5 (.slice (some ⟨g,0,none⟩) (ms0.length+1) cap) M.bs:=h5.1.kept hc (fun b q x=>by have:=h5.2 b q;have:=ht b x;omega)
    have h7:=h6.put rxSl.len (i:=ms0.length) (j:=0) (y:=m) (y':=m') (u:=m'.val) (by rw[hms];simp) (by omega) rfl
    rw[Nat.mul_one,Nat.add_zero,hms,List.set_append_right _ _ (Nat.le_refl _)] at h7
    simp only[Nat.sub_self,List.set_cons_zero] at h7
    rw[hv3]
    exact h7
   ·have z:=h5'.2 b q
    have zl:=(h.lt b (by omega)).2
    show rtg _ _ _ _ b=5
    rw[rtg_old zl];exact z
  ·intro v b x1 x2
   have x1:(ms0++[m'])[ms0.length]?=some v:=x1
   have x2:((e :: b0) :: bs).reverse[ms0.length]?=some b:=x2
   rw[List.getElem?_append_right (Nat.le_refl _)] at x1
   rw[List.reverse_cons,List.getElem?_append_right (by rw[List.length_reverse];omega),List.length_reverse,show ms0.length - bs.length=0 by omega] at x2
   simp at x1 x2
   subst x1
   subst x2
   refine⟨?_,fun b q => ?_⟩
   ·rw[List.reverse_cons]
    refine ho.set (fun b q x => ?_) _
    have x:b=g:=x
    rcases hat b q with z | z
    ·have:=ht b z;rw[x] at this;omega
    ·omega
   ·rcases hat b q with z | z
    ·have z2:=ht b z
     show rtg _ _ _ _ b=_
     rw[rtg_old (h.lt b (by omega)).2];exact z2
    ·show rtg _ _ _ _ b=_
     exact rtg_new z (by rw[hsz];exact(ho.lt b q).2)
 ·intro j' O' hn q
  match j',hn,q with
  | 0,_,_=>trivial
  | 1,_,q=>exact q
  | 2,_,q=>exact q
  | 3,_,q=>exact q
  | 4,_,q=>exact q
  | 5,hn,_=>exact absurd (Or.inl rfl) hn
  | 6,_,q=>exact q
  | j+7,hn,q =>
    intro v b x1 x2
    have hj:j≠ms0.length:=fun x=>hn (Or.inr (by rw[x]))
    have x1:(ms0++[m'])[j]?=some v:=x1
    have x2:((e :: b0) :: bs).reverse[j]?=some b:=x2
    have hjl:j<(ms0++[m']).length:=(List.getElem?_eq_some_iff.1 x1).1
    rw[List.length_append,List.length_singleton] at hjl
    rw[List.getElem?_append_left (by omega)] at x1
    rw[List.reverse_cons,List.getElem?_append_left (by rw[List.length_reverse];omega)] at x2
    exact q v b (by rw[hms,List.getElem?_append_left (by omega)];exact x1) (by rw[hbs,List.reverse_cons,List.getElem?_append_left (by rw[List.length_reverse];omega)];exact x2)
 ·show(ms0++[m']).length=((e :: b0) :: bs).length
  simp[hml]
theorem At.bump (h:At w B wb tg s c a M)(hf:s.fn<s.scopes.length):∃g cap,M.v0 = .slice (some ⟨g,0,none⟩) s.scopes.length cap∧s.scopes.length≤cap∧cap≤maxLen∧tg g=2∧w.cell? ⟨g,s.fn*4+3,none⟩=some (.int .i64 (varsAt s:Int))∧(∀n,w.frozen? ⟨g,n,none⟩=false)∧At (w.setCell ⟨g,s.fn*4+3,none⟩ (.int .i64 ((varsAt s:Int)+1))) B wb (rtg tg w.heap.size w.heap.size 0) (bumpP s) c a M∧Chg (fun b=>tg b=2) w (w.setCell ⟨g,s.fn*4+3,none⟩ (.int .i64 ((varsAt s:Int)+1))):=by
 obtain⟨y,hy⟩:∃y,s.scopes[s.fn]?=some y:=⟨_,List.getElem?_eq_getElem hf⟩
 have hva:varsAt s=y.vars:=by unfold varsAt;rw[hy];rfl
 have h2:RowIn scpC 4 53 B w (fun b=>tg b=2) M.v0 s.scopes:=h.prt 2
 obtain⟨ad,cap,hv0,l1,l2,hg⟩:=own_slice h2.1
 obtain⟨g,rfl⟩:=hg (by intro e;rw[e] at hf;simp at hf)
 have h2':=h2.1
 rw[hv0] at h2'
 obtain⟨_,_,_,_,_,r6,r7⟩:=h2'.read rxScp.len
 have d3:=r6 s.fn y hy 3 _ rfl
 have hg2:tg g=2:=h2.2 g (by rw[hv0];rfl)
 have e1:bumpP s={ s with scopes:=s.scopes.set s.fn { y with vars:=y.vars+1 } }:=by
  unfold bumpP
  rw[modify_setD _ _ _ y hy]
 have hp:=h.put (k:=2) (g:=g) (j:=s.fn*4+3) (u := .int .i64 ((varsAt s:Int)+1)) (s':=bumpP s) (by omega) hg2 rfl (fun O q => ?_) (Prt.hold 2 (fun q=>absurd rfl q) (fun _=>⟨rfl,rfl⟩) (fun _=>⟨rfl,rfl⟩) (fun _=>⟨rfl,rfl⟩) (fun _=>⟨rfl,rfl⟩) (fun j v b _ x1 x2=>Or.inl ⟨x1,x2⟩)) h.len
 ·exact⟨g,cap,hv0,l1,l2,hg2,by rw[hva];exact d3,fun n=>r7 n,hp.1,hp.2⟩
 ·have q:RowIn scpC 4 53 B w O M.v0 s.scopes:=q
  show RowIn scpC 4 53 B _ O M.v0 (bumpP s).scopes
  have q1:=q.1
  rw[hv0] at q1
  have z:=q1.put rxScp.len (i:=s.fn) (j:=3) (y:=y) (y':={ y with vars:=y.vars+1 }) (u := .int .i64 ((varsAt s:Int)+1)) hy (by omega) (by rw[hva];simp[scpC])
  refine⟨?_,q.2⟩
  rw[e1,hv0]
  exact z
theorem At.row1 (h:At w B wb tg s c a M){v':Value}{xs':List Rz.Vr}(hc:Chg (fun b=>M.v1.ownBlock=some b) w w5)(ho:OwnR vrC 6 61 B w5 v' xs')(hat:∀b,v'.ownBlock=some b→M.v1.ownBlock=some b∨w.heap.size≤b) :
  At (w5.setCell ⟨wb,1,none⟩ v') B wb (rtg tg w.heap.size w5.heap.size 3) { s with vars:=xs' } c a { M with v1:=v' }∧Chg (fun b=>tg b=1∨tg b=3) w (w5.setCell ⟨wb,1,none⟩ v'):=by
 have hv:∀b,M.v1.ownBlock=some b→tg b=3:=(show RowIn vrC 6 61 B w (fun b=>tg b=3) M.v1 s.vars from h.prt 3).2
 have hold:∀(j':Nat) (W:World) (O':Nat→Prop),j'≠1→j'≠3→Prt W B wb s c a M O' j'→Prt W B wb { s with vars:=xs' } c a { M with v1:=v' } O' j':=Prt.hold 3 (fun _=>⟨rfl,rfl⟩) (fun q=>absurd rfl q) (fun _=>⟨rfl,rfl⟩) (fun _=>⟨rfl,rfl⟩) (fun _=>⟨rfl,rfl⟩) (fun j v b _ x1 x2=>Or.inl ⟨x1,x2⟩)
 exact h.row (k:=3) (j:=1) (u:=v') (s':={ s with vars:=xs' }) (by omega) (hc.mono hv) { M with v1:=v' } rfl (fun O' h1 h2=>h.rowin (by omega) hv ho hat h1 h2) hold h.len
theorem At.row2 (h:At w B wb tg s c a M){v':Value}{xs':List Rz.Us}(hc:Chg (fun b=>M.v2.ownBlock=some b) w w5)(ho:OwnR usC 2 57 B w5 v' xs')(hat:∀b,v'.ownBlock=some b→M.v2.ownBlock=some b∨w.heap.size≤b) :
  At (w5.setCell ⟨wb,2,none⟩ v') B wb (rtg tg w.heap.size w5.heap.size 4) { s with uses:=xs' } c a { M with v2:=v' }∧Chg (fun b=>tg b=1∨tg b=4) w (w5.setCell ⟨wb,2,none⟩ v'):=by
 have hv:∀b,M.v2.ownBlock=some b→tg b=4:=(show RowIn usC 2 57 B w (fun b=>tg b=4) M.v2 s.uses from h.prt 4).2
 have hold:∀(j':Nat) (W:World) (O':Nat→Prop),j'≠1→j'≠4→Prt W B wb s c a M O' j'→Prt W B wb { s with uses:=xs' } c a { M with v2:=v' } O' j':=Prt.hold 4 (fun _=>⟨rfl,rfl⟩) (fun _=>⟨rfl,rfl⟩) (fun q=>absurd rfl q) (fun _=>⟨rfl,rfl⟩) (fun _=>⟨rfl,rfl⟩) (fun j v b _ x1 x2=>Or.inl ⟨x1,x2⟩)
 exact h.row (k:=4) (j:=2) (u:=v') (s':={ s with uses:=xs' }) (by omega) (hc.mono hv) { M with v2:=v' } rfl (fun O' h1 h2=>h.rowin (by omega) hv ho hat h1 h2) hold h.len
theorem At.row0 (h:At w B wb tg s c a M){v':Value}{xs':List Rz.Scp}(hc:Chg (fun b=>M.v0.ownBlock=some b) w w5)(ho:OwnR scpC 4 53 B w5 v' xs')(hat:∀b,v'.ownBlock=some b→M.v0.ownBlock=some b∨w.heap.size≤b) :
  At (w5.setCell ⟨wb,0,none⟩ v') B wb (rtg tg w.heap.size w5.heap.size 2) { s with scopes:=xs' } c a { M with v0:=v' }∧Chg (fun b=>tg b=1∨tg b=2) w (w5.setCell ⟨wb,0,none⟩ v'):=by
 have hv:∀b,M.v0.ownBlock=some b→tg b=2:=(show RowIn scpC 4 53 B w (fun b=>tg b=2) M.v0 s.scopes from h.prt 2).2
 have hold:∀(j':Nat) (W:World) (O':Nat→Prop),j'≠1→j'≠2→Prt W B wb s c a M O' j'→Prt W B wb { s with scopes:=xs' } c a { M with v0:=v' } O' j':=Prt.hold 2 (fun q=>absurd rfl q) (fun _=>⟨rfl,rfl⟩) (fun _=>⟨rfl,rfl⟩) (fun _=>⟨rfl,rfl⟩) (fun _=>⟨rfl,rfl⟩) (fun j v b _ x1 x2=>Or.inl ⟨x1,x2⟩)
 exact h.row (k:=2) (j:=0) (u:=v') (s':={ s with scopes:=xs' }) (by omega) (hc.mono hv) { M with v0:=v' } rfl (fun O' h1 h2=>h.rowin (by omega) hv ho hat h1 h2) hold h.len
structure Stp (w:World)(tg:Nat→Nat)(w':World)(tg':Nat→Nat):Prop where
 chg:Chg (fun b=>tg b≠0) w w'
 old:∀b,tg' b≠0→tg b≠0∨w.heap.size≤b
theorem Stp.trans {w1 w2:World}{t1 t2:Nat→Nat}(h:Stp w tg w1 t1)(k:Stp w1 t1 w2 t2):Stp w tg w2 t2 :=
 ⟨h.chg.trans k.chg (fun i hi q=>(h.old i q).resolve_right (by omega)),fun b q=>(k.old b q).elim (h.old b) (fun z=>Or.inr (Nat.le_trans h.chg.size z))⟩
theorem Stp.rtg {hi k:Nat}(hc:Chg S w w')(hS:∀b,S b→tg b≠0):Stp w tg w' (rtg tg w.heap.size hi k) :=
 ⟨hc.mono hS,fun b q=>by
  by_cases cb:b<w.heap.size
  ·rw[rtg_old cb] at q;exact Or.inl q
  ·exact Or.inr (by omega)⟩
theorem Stp.below (hb:Below w.heap.size w w'):Stp w tg w' tg:=⟨Chg.of_below hb,fun b q=>Or.inl q⟩
theorem Stp.went {tg':Nat→Nat}(h:Stp w tg w' tg')(hO:∀b,O b↔tg b≠0)(h':At w' B wb tg' s' c' a' M')(hg:GdD s')(hv:M'.v6=v6'):RWent w B wb O s' c' a' v6' w' :=
 ⟨fun b=>tg' b≠0,⟨tg',M',h',hg,hv,fun b=>Iff.rfl⟩,h.chg.mono (fun b q=>(hO b).2 q),fun b q=>(h.old b q).imp (fun q=>(hO b).2 q) id⟩
end
end Go.Proofs.YtihmdcdifakepaaGreat.Rv.Rx
namespace Go.Proofs.YtihmdcdifakepaaGreat.Rv.Rx
open Go.RowKit
section
variable {P:Program}{ops:Array Oper}{Q:Exit→Act→World→Prop}{md:Region.Mode}{S:World→Prop}{s:Nat}
def anyE (P:Program)(md:Region.Mode)(ops:Array Oper)(Q:Exit→Act→World→Prop)(S:World→Prop)(s:Nat):Nat→Array Bool→Act→World→Prop
 | 0,l,a,w=>Region.ready md ops l=[]∧Q .normal a w
 | n+1,l,a,w=>(Region.ready md ops l=[]→Q .normal a w)∧∀i∈Region.ready md ops l,wpOp P ops Q i (fun a' w'=>(i≠s→S w')∧anyE P md ops Q S s n (l.setIfInBounds i true) a' w') a w
theorem any_of_E:∀(n:Nat)(l:Array Bool)(a:Act)(w:World),anyE P md ops Q S s n l a w→wpAny P md ops Q n l a w
 | 0,_,_,_,h=>h
 | n+1,_,_,_,h=>⟨h.1,fun i hi=>wpOp_mono (fun a' w' r=>any_of_E n _ a' w' r.2) (h.2 i hi)⟩
def waitsB (md:Region.Mode)(ops:Array Oper)(s i:Nat):Bool:=((ops[s]?).map (fun o=>o.after.any (fun e=>Region.binds md e && e.on == i))).getD false
theorem not_s {l:Array Bool}{i j:Nat}(hw:waitsB md ops s i=true)(hi:i∈Region.ready md ops l)(hj:j∈Region.ready md ops l):j≠s:=by
 intro e
 subst e
 obtain⟨_,oj,hoj,hall⟩:=mem_ready.1 hj
 unfold waitsB at hw
 rw[hoj] at hw
 obtain⟨x,hx1,hx2⟩:=Array.any_eq_true'.1 (show oj.after.any (fun e=>Region.binds md e && e.on == i)=true from hw)
 rw[Bool.and_eq_true] at hx2
 have hon:x.on=i:=by simpa using hx2.2
 have h1:=hall x hx1 hx2.1
 rw[hon] at h1
 have h0:=(mem_ready.1 hi).1
 rcases Nat.lt_or_ge i l.size with c | c
 ·simp[c] at h0 h1
  rw[h0] at h1
  cases h1
 ·simp[Array.getElem?_eq_none c] at h1
theorem anyE_first {i:Nat}{oi:Oper}{v:Value}(hi:ops[i]?=some oi)(hsel:∀(j:Nat)(o:Oper) cs b,ops[j]?=some o→o.op ≠ .select cs b)
  (hQ:∀c a w,Q (.panic c) (a.put oi.dst v) w→Q (.panic c) a w) (hw:waitsB md ops s i=true) :
  ∀(n:Nat) (l:Array Bool) (a:Act) (w:World),
   (∀j oj,ops[j]?=some oj→j≠i→l.getD j true=false→(∀e∈oj.after,Region.binds md e=true→e.on≠i)→oi.apart ops oj=true) →
   i∈Region.ready md ops l→YieldsIf P ops S oi v a→S w→anyE P md ops Q S s n (l.setIfInBounds i true) (a.put oi.dst v) w→anyE P md ops Q S s (n+1) l a w
 | 0,l,a,w,_,hr,hy,hS,H=>by
   refine⟨fun e=>(by rw[e] at hr;cases hr),fun j hj => ?_⟩
   by_cases c:j=i
   ·rw[c]
    exact hy.wpOp hi hS ⟨fun _=>hS,H⟩
   ·have:=ready_mono hj c
    rw[H.1] at this
    cases this
 | n+1,l,a,w,hf,hr,hy,hS,H=>by
   refine⟨fun e=>(by rw[e] at hr;cases hr),fun j hj => ?_⟩
   by_cases c:j=i
   ·rw[c]
    exact hy.wpOp hi hS ⟨fun _=>hS,H⟩
   ·have hjs:=not_s hw hr hj
    have h1:=H.2 j (ready_mono hj c)
    obtain⟨hju,oj,hoj,hall⟩:=mem_ready.1 hj
    have hno:∀e∈oj.after,Region.binds md e=true→e.on≠i:=fun e he hb hq=>by
     have k1:=hall e he hb
     have k0:=(mem_ready.1 hr).1
     rw[hq] at k1
     rcases Nat.lt_or_ge i l.size with d | d
     ·simp[d] at k0 k1
      rw[k0] at k1
      cases k1
     ·simp[Array.getElem?_eq_none d] at k1
    have h2:=wpOp_putIf hoj (hf j oj hoj c hju hno) (fun cs b=>hsel i oi cs b hi) (fun cs b=>hsel j oj cs b hoj) hQ hy h1
    refine wpOp_mono (fun a' w' r=>⟨r.2.1,?_⟩) h2
    refine anyE_first hi hsel hQ hw n (l.setIfInBounds j true) a' w' (fun k ok hk hki hun hnk=>hf k ok hk hki ?_ hnk) (ready_mono hr (Ne.symm c)) r.1 (r.2.1 hjs) ?_
    ·by_cases d:j=k
     ·rw[←d];exact hju
     ·rw[getD_set_ne true d] at hun;exact hun
    ·rw[Array.setIfInBounds_comm _ _ c]
     exact r.2.2
theorem anyE_take {i:Nat}{oi:Oper}{v:Value}{n:Nat}{l:Array Bool}{a:Act}{w:World}(hi:ops[i]?=some oi)
  (hs:Region.noSelect ops=true) (hf:Region.free md ops l i=true) (hr:(Region.ready md ops l).contains i=true) (hw:waitsB md ops s i=true)
  (hQ:∀c a w,Q (.panic c) (a.put oi.dst v) w→Q (.panic c) a w) (hy:YieldsIf P ops S oi v a) (hS:S w)
  (h:anyE P md ops Q S s n (l.setIfInBounds i true) (a.put oi.dst v) w):anyE P md ops Q S s (n+1) l a w :=
 anyE_first hi (Region.noSelect_spec hs) hQ hw n l a w (Region.free_spec hi hf) (by simpa using hr) hy hS h
theorem anyE_only {i:Nat}{n:Nat}{l:Array Bool}{a:Act}{w:World}(hr:Region.ready md ops l=[i])(h:wpOp P ops Q i (fun a' w'=>(i≠s→S w')∧anyE P md ops Q S s n (l.setIfInBounds i true) a' w') a w):anyE P md ops Q S s (n+1) l a w :=
 ⟨fun e=>(by rw[hr] at e;cases e),fun j hj=>by rw[hr] at hj;rw[List.mem_singleton.1 hj];exact h⟩
theorem anyE_done {l:Array Bool}{a:Act}{w:World}(hr:Region.ready md ops l=[])(h:Q .normal a w):∀n,anyE P md ops Q S s n l a w
 | 0=>⟨hr,h⟩
 | _+1=>⟨fun _=>h,by rw[hr];simp⟩
theorem region_E {id:Nat}{a:Act}{w:World}(hm:P.follows .mixedOrders=true)(h:anyE P .any ops Q S s ops.size (Array.replicate ops.size false) a w.drew):(Code.region id ops true).wp P Q a w :=
 wp_region_any hm (any_of_E _ _ _ _ h)
end
theorem op_step {P:Program}{ops:Array Oper}{Q:Exit→Act→World→Prop}{i:Nat}{o:Oper}{K:Act→World→Prop}{a:Act}{w:World}(ho:ops[i]?=some o)
  (h:∀K':Act→World→Prop,Hid (∀a w,K a w→K' a w)→if Region.wanted o (yielded ops a.tmps)=true then Oper.wp P o a w K' Q else K' (a.put o.dst undef) w):wpOp P ops Q i K a w:=by
 have h1:=h K (show ∀a w,K a w→K a w from fun _ _ q=>q)
 unfold wpOp
 simp only[ho]
 split
 ·rename_i c
  rw[if_pos c] at h1
  exact Or.inl h1
 ·rename_i c
  rw[if_neg c] at h1
  exact h1
end Go.Proofs.YtihmdcdifakepaaGreat.Rv.Rx
