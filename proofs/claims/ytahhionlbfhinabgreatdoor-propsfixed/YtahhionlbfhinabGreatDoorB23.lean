/- VC, PI, PJ, PM -/
import Derived.Test.YtahhionlbfhinabGreatDoorB22
import Derived.Deep.LoopGhost
import Derived.Test.YtahhionlbfhinabGreatDoorB3
import Derived.OwnWalk
set_option linter.unusedVariables false
set_option linter.unusedSimpArgs false
set_option maxRecDepth 100000
set_option maxHeartbeats 40000000
namespace Go.Proofs.YtahhionlbfhinabGreatDoor.Hp
open Go.RowKit
section
variable {w w' w1:World}{B hb:Nat}{O S:Nat→Prop}{H H':He}{M M':HV}{tg:Nat→Nat}
structure SaAt (w W:World)(H:He)(o:Int)(R:Bool)(p:Int)(g:Nat):Prop where
 o0:0≤p
 o1:p<18446744073709551616
 same:W=w
 en:EndsH H g p
 lk:R=abvF H o g p
theorem above_loop (h:HeapAt w B hb tg H M)(o p:Int)(o0:0≤o)(o1:o<18446744073709551616)(p0:0≤p)(p1:p<18446744073709551616)(hne:¬p=o){i:Nat}{ob:Ob}(ho:obI H o=some i)(hi:H.obs[i]?=some ob)(hab:ob.above=true)(N:Nat)(he:EndsH H N p) :
  Calls Tryz.prog 102 #[.pointer (some ⟨hb,0,none⟩),.int .u64 o,.int .u64 p] w fun e w'=>e = .returned (.bool (abvF H o N p))∧w'=w:=by
 generalize hR:abvF H o N p=R at *
 obtain⟨g,cap,ov,hvo,hov,t4,hne2,hgl,hcell,hfz,hl1,hl2,hrow⟩:=h.obj hi
 have ka:=at_hit h o o0 o1 i g cap ho hvo
 have d3:=hcell 3 _ rfl
 simp only at d3
 rw[hab] at d3
 have HS:Hid (SaAt w w H o R p N):=⟨p0,p1,rfl,he,hR.symm⟩
 have HH:Hid (HeapAt w B hb tg H M):=h
 have hp:(p == o)=false:=by simpa using hne
 have kp:=fun (p':Int) (q0:0≤p') (q1:p'<18446744073709551616)=>at_any h p' q0 q1
 clear h hi ho hvo hov t4 hne2 hgl hcell hfz hl1 hl2 hrow hR he hab hne
 have kq:=kp p p0 p1
 go_enter Tryz.func102,Tryz.ntmps102
 go_wp2_with fail
 refine ka.mono ?_
 rintro e w2 ⟨rfl,rfl⟩
 clear ka
 go_wp2_with fail
 refine kq.mono ?_
 rintro e w2 ⟨rfl,rfl⟩
 clear kq
 go_wp2_with fail
 go_loopg [7] N (fun g s1 W0=>∃p',s1=atV H M p'∧Hid (SaAt w2 W0 H o R p' g))
 case atStart=>exact⟨p,rfl,HS⟩
 case round =>
  clear HS
  obtain⟨p',rfl,HL⟩:=hrel
  obtain rfl:=HL.out.same
  have hl0:=HL.out.o0
  have hl1:=HL.out.o1
  cases hq:obO H p' with
  | none =>
    have HR:Hid (R=false):=by show R=_;rw[HL.out.lk];exact abv_none hq _
    have hv:atV H M p' = .pointer none:=by unfold atV;rw[obO_none hq]
    rw[hv]
    clear HL kp HH hq hv d3
    go_wp2_with fail
    go_ret
    rw[HR.out]
    exact⟨rfl,rfl⟩
  | some ob2 =>
    obtain⟨j,hj,hob⟩:=obO_some hq
    obtain⟨g2,cap2,ov2,hvo2,_,_,_,_,hcell2,_⟩:=HH.out.obj hob
    have hv:atV H M p' = .pointer (some ⟨g2,j*12,none⟩):=by unfold atV;rw[hj];simp only[hvo2,Option.map_some]
    rw[hv]
    have d1:=hcell2 1 _ rfl
    simp only at d1
    obtain⟨g',rfl,hen⟩:=ends_step HL.out.en hq
    have hlk:=HL.out.lk
    rw[abv_step hq] at hlk
    have hpr:=(HH.out.wf.ob ob2 (List.mem_of_getElem? hob)).pr
    have ka:=kp ob2.proto hpr.1 hpr.2
    by_cases c:ob2.proto=o
    ·rw[if_pos c] at hlk
     have HR:Hid (R=true):=hlk
     have hc:(ob2.proto == o)=true:=by simpa using c
     generalize ob2.proto=q at *
     clear HL kp HH hq hv d3 hj hob hvo2 hcell2 hen hlk hpr ka c
     go_wp2_with fail
     go_ret
     rw[HR.out]
     exact⟨rfl,rfl⟩
    ·rw[if_neg c] at hlk
     have hc:(ob2.proto == o)=false:=by simpa using c
     have HNX:Hid (SaAt wr wr H o R ob2.proto g'):=⟨hpr.1,hpr.2,rfl,hen,hlk⟩
     generalize ob2.proto=q at *
     clear HL hq hv d3 hj hob hvo2 hcell2 hen hlk hpr c
     go_wp2_with fail
     refine ka.mono ?_
     rintro e w3 ⟨rfl,rfl⟩
     clear ka
     go_wp2_with fail
     go_roundg g'
     case measure=>omega
     case rel=>exact⟨q,rfl,HNX⟩
def saB (H:He)(o p:Int):Bool:=decide (p=o) || abvF H o H.obs.length p
def AbvOk (H:He):Prop:=∀ob∈H.obs,∀ob2,obO H ob.proto=some ob2→ob2.above=true
theorem abv_not {H:He}{o:Int}{ob:Ob}(ha:AbvOk H)(hq:obO H o=some ob)(hb:ob.above=false):∀(N:Nat)(p:Int),abvF H o N p=false
 | 0,p=>rfl
 | N+1,p=>by
   cases hp:obO H p with
   | none=>exact abv_none hp _
   | some ob2 =>
     rw[abv_step hp]
     by_cases c:ob2.proto=o
     ·obtain⟨i,_,hi⟩:=obO_some hp
      have:=ha ob2 (List.mem_of_getElem? hi) ob (by rw[c];exact hq)
      rw[hb] at this
      cases this
     ·rw[if_neg c]
      exact abv_not ha hq hb N ob2.proto
theorem stands_any (h:HeapAt w B hb tg H M)(hac:Acy H)(hab:AbvOk H)(o p:Int)(o0:0≤o)(o1:o<18446744073709551616)(p0:0≤p)(p1:p<18446744073709551616){ob:Ob}(hq:obO H o=some ob) :
  Calls Tryz.prog 102 #[.pointer (some ⟨hb,0,none⟩),.int .u64 o,.int .u64 p] w fun e w'=>e = .returned (.bool (saB H o p))∧w'=w:=by
 obtain⟨i,ho,hi⟩:=obO_some hq
 by_cases c:p=o
 ·have e:saB H o p=true:=by unfold saB;rw[decide_eq_true c];rfl
  rw[e]
  have hp:(p == o)=true:=by simpa using c
  clear h hac hab hq ho hi e c
  go_enter Tryz.func102,Tryz.ntmps102
  go_wp2_with fail
  go_ret
  exact⟨rfl,rfl⟩
 ·have e:saB H o p=abvF H o H.obs.length p:=by unfold saB;rw[decide_eq_false c];rfl
  rw[e]
  cases hb2:ob.above with
  | true=>exact above_loop h o p o0 o1 p0 p1 c ho hi hb2 _ (hac p)
  | false =>
    rw[abv_not hab hq hb2]
    obtain⟨g,cap,ov,hvo,hov,t4,hne2,hgl,hcell,hfz,hl1,hl2,hrow⟩:=h.obj hi
    have ka:=at_hit h o o0 o1 i g cap ho hvo
    have d3:=hcell 3 _ rfl
    simp only at d3
    rw[hb2] at d3
    have hp:(p == o)=false:=by simpa using c
    clear h hac hab hq ho hi e c hvo hov t4 hne2 hgl hcell hfz hl1 hl2 hrow hb2
    go_enter Tryz.func102,Tryz.ntmps102
    go_wp2_with fail
    refine ka.mono ?_
    rintro e w2 ⟨rfl,rfl⟩
    clear ka
    go_wp2_with fail
    go_ret
    exact⟨rfl,rfl⟩
end
end Go.Proofs.YtahhionlbfhinabGreatDoor.Hp
namespace Go.Proofs.YtahhionlbfhinabGreatDoor.Sp
open Go.RowKit Go.Proofs.YtahhionlbfhinabGreatDoor.Hp
structure Pr where
 ke:ByteArray
 fl:Int
 la:Bool
def prC (p:Pr):List Value:=[.string p.ke,.int .i64 p.fl,.bool p.la]
theorem prC_len (p:Pr):(prC p).length=3:=rfl
def PrAt (w:World)(g:Nat)(ps:List Pr):Prop:=∃cur,w.heap[g]?=some (.cells cur 179 (0,0))∧cur.toList=ps.flatMap prC
theorem flat_set:∀(ps:List Pr)(i:Nat)(p:Pr),i<ps.length→(((ps.flatMap prC).set (i*3) (.string p.ke)).set (i*3+1) (.int .i64 p.fl)).set (i*3+2) (.bool p.la)=(ps.set i p).flatMap prC
 | [],i,p,h=>by simp at h
 | x :: ps,0,p,h=>by simp[prC]
 | x :: ps,i+1,p,h=>by
   have ih:=flat_set ps i p (by simpa using h)
   rw[List.set_cons_succ,List.flatMap_cons,List.flatMap_cons,←ih]
   rw[List.set_append_right _ _ (by rw[prC_len];omega),List.set_append_right _ _ (by rw[prC_len];omega),List.set_append_right _ _ (by rw[prC_len];omega),prC_len]
   rw[show(i+1)*3 - 3=i*3 by omega,show(i+1)*3+1 - 3=i*3+1 by omega,show(i+1)*3+2 - 3=i*3+2 by omega]
theorem PrAt.put {w:World}{g:Nat}{ps:List Pr}(h:PrAt w g ps)(i:Nat)(p:Pr)(hi:i<ps.length) :
  PrAt (((w.setCell ⟨g,i*3,none⟩ (.string p.ke)).setCell ⟨g,i*3+1,none⟩ (.int .i64 p.fl)).setCell ⟨g,i*3+2,none⟩ (.bool p.la)) g (ps.set i p):=by
 obtain⟨cur,h1,h2⟩:=h
 refine⟨_,heap_setCell_same _ g _ _ 179 _ (heap_setCell_same _ g _ _ 179 _ (heap_setCell_same w g _ cur 179 _ h1)),?_⟩
 simp only[Array.toList_setIfInBounds,h2]
 exact flat_set ps i p hi
theorem PrAt.cell {w:World}{g:Nat}{ps:List Pr}(h:PrAt w g ps)(i:Nat)(p:Pr)(hp:ps[i]?=some p)(j:Nat)(u:Value)(hu:(prC p)[j]?=some u):w.cell? ⟨g,i*3+j,none⟩=some u∧w.frozen? ⟨g,i*3+j,none⟩=false:=by
 obtain⟨cur,h1,h2⟩:=h
 refine⟨?_,frozen_of_row w g _ cur 179 h1⟩
 rw[cell_of_row w g _ cur 179 (0,0) h1]
 have:=flat_at prC_len ps i p hp j u hu
 rw[←h2] at this
 simpa using this
theorem PrAt.kept {w w':World}{g:Nat}{ps:List Pr}{S:Nat→Prop}(h:PrAt w g ps)(hc:Chg S w w')(hs:¬S g):PrAt w' g ps:=by
 obtain⟨cur,h1,h2⟩:=h
 exact⟨cur,by rw[hc.block g (Array.getElem?_eq_some_iff.1 h1).1 hs];exact h1,h2⟩
theorem PrAt.lt {w:World}{g:Nat}{ps:List Pr}(h:PrAt w g ps):g<w.heap.size:=by
 obtain⟨cur,h1,h2⟩:=h
 exact(Array.getElem?_eq_some_iff.1 h1).1
theorem made_flat (n:Nat):(madeCells (Value.agg #[.string ⟨#[]⟩,.int .i64 0,.bool false]).cells (n*3)).toList=(List.replicate n (⟨⟨#[]⟩,0,false⟩:Pr)).flatMap prC:=by
 apply List.ext_getElem?
 intro i
 have hz:(Value.agg #[.string ⟨#[]⟩,.int .i64 0,.bool false]).cells=#[.string ⟨#[]⟩,.int .i64 0,.bool false]:=rfl
 rw[hz]
 rcases Nat.lt_or_ge i (n*3) with c | c
 ·have e1:(List.replicate n (⟨⟨#[]⟩,0,false⟩:Pr))[i / 3]?=some ⟨⟨#[]⟩,0,false⟩:=by rw[List.getElem?_replicate,if_pos (by omega)]
  have hi:i=i / 3*3+i % 3:=by omega
  have h3:i % 3<3:=Nat.mod_lt _ (by omega)
  have:(madeCells #[.string ⟨#[]⟩,.int .i64 0,.bool false] (n*3)).toList[i]?=(prC ⟨⟨#[]⟩,0,false⟩)[i % 3]?:=by
   simp only[madeCells,Array.toList_map,Array.toList_range,List.getElem?_map,List.getElem?_range c,Option.map_some]
   show some (#[Value.string ⟨#[]⟩,.int .i64 0,.bool false][i % 3]!)=_
   generalize i % 3=r at h3
   match r,h3 with
   | 0,_=>rfl
   | 1,_=>rfl
   | 2,_=>rfl
  rw[this]
  have hl:i % 3<(prC ⟨⟨#[]⟩,0,false⟩).length:=h3
  have e2:=flat_at prC_len _ (i / 3) _ e1 (i % 3) _ (List.getElem?_eq_getElem hl)
  rw[←hi] at e2
  rw[e2]
  exact List.getElem?_eq_getElem hl
 ·rw[List.getElem?_eq_none (by rw[Array.length_toList,size_madeCells];exact c),List.getElem?_eq_none (by rw[flat_len prC_len,List.length_replicate];exact c)]
theorem prAt_made {w':World}{B g n:Nat}(h:w'.ownsRow B 179 3 (.slice (some ⟨g,0,none⟩) n n) n (madeCells (Value.agg #[.string ⟨#[]⟩,.int .i64 0,.bool false]).cells (n*3)).toList):PrAt w' g (List.replicate n ⟨⟨#[]⟩,0,false⟩):=by
 rcases h.2 with⟨h0,_⟩ | ⟨g',cap,cur,hv,_,hg,_,_,hs,ht⟩
 ·cases h0
 ·cases hv
  refine⟨cur,hg,?_⟩
  rw[←made_flat,←ht,List.take_of_length_le (by rw[Array.length_toList,hs];exact Nat.le_refl _)]
structure PrInv (ps:List Pr)(y S:Sh):Prop where
 len:ps.length=S.ks.length
 le:y.ks.length≤S.ks.length
 all:∀(i:Nat) (p:Pr),ps[i]?=some p→(p.la=true∧S.ks[i]?=some p.ke∧S.fs[i]?=some p.fl)∨(p.la=false∧y.ks[i]?=S.ks[i]?∧y.fs[i]?=S.fs[i]?)
theorem PrInv.start (S:Sh):PrInv (List.replicate S.ks.length ⟨⟨#[]⟩,0,false⟩) S S:=by
 refine⟨by simp,Nat.le_refl _,fun i p h => ?_⟩
 rw[List.getElem?_replicate] at h
 split at h
 ·cases h
  exact Or.inr ⟨rfl,rfl,rfl⟩
 ·cases h
def propsOf (S:Sh):List Pr:=(S.ks.zip S.fs).map fun x=>⟨x.1,x.2,true⟩
theorem PrInv.done {ps:List Pr}{y S:Sh}(h:PrInv ps y S)(hf:S.fs.length=S.ks.length)(hy:y.ks=[]):ps=propsOf S:=by
 apply List.ext_getElem?
 intro i
 unfold propsOf
 rw[List.getElem?_map]
 cases hp:ps[i]? with
 | none =>
   have:ps.length≤i:=List.getElem?_eq_none_iff.1 hp
   rw[List.getElem?_eq_none (by rw[List.length_zip];have:=h.len;omega)]
   rfl
 | some p =>
   have hil:i<ps.length:=(List.getElem?_eq_some_iff.1 hp).1
   rcases h.all i p hp with⟨a,b,c⟩ | ⟨a,b,c⟩
   ·have:(S.ks.zip S.fs)[i]?=some (p.ke,p.fl):=List.getElem?_zip_eq_some.2 ⟨b,c⟩
    rw[this]
    obtain⟨pk,pf,pl⟩:=p
    simp only at a
    subst a
    rfl
   ·rw[hy] at b
    have hil2:i<S.ks.length:=by rw[←h.len];exact hil
    rw[List.getElem?_eq_getElem hil2] at b
    simp at b
theorem PrInv.step {T:List Ly}{L:List Sh}(hr:Rel T L){j:Nat}{x:Ly}{y S:Sh}(hx:T[j]?=some x)(hy:L[j]?=some y){ps:List Pr}(h:PrInv ps y S) :
  (x.kd=0∧y.ks=[])∨(x.kd≠0∧x.sl<ps.length∧∃p q,ps[x.sl]?=some p∧x.fr<j∧L[x.fr]?=some q∧((p.la=true∧PrInv ps q S)∨(p.la=false∧PrInv (ps.set x.sl ⟨x.ke,x.fl,true⟩) q S))):=by
 rcases prop_step hr hx hy with a | ⟨a1,a2,a3,a4,q,a5,a6,a7,a8⟩
 ·exact Or.inl a
 ·have hl:x.sl<ps.length:=by have:=h.len;have:=h.le;omega
  refine Or.inr ⟨a1,hl,ps[x.sl],q,List.getElem?_eq_getElem hl,a5,a6,?_⟩
  have hp:=List.getElem?_eq_getElem hl
  generalize ps[x.sl]=p at hp
  have hle:q.ks.length≤S.ks.length:=Nat.le_trans a7 h.le
  rcases h.all _ _ hp with⟨b1,b2,b3⟩ | ⟨b1,b2,b3⟩
  ·refine Or.inl ⟨b1,⟨h.len,hle,fun i p' hi => ?_⟩⟩
   by_cases c:i=x.sl
   ·subst c
    rw[hp] at hi
    cases hi
    exact Or.inl ⟨b1,b2,b3⟩
   ·rcases h.all i p' hi with d | ⟨d1,d2,d3⟩
    ·exact Or.inl d
    ·exact Or.inr ⟨d1,by rw[←(a8 i c).1];exact d2,by rw[←(a8 i c).2];exact d3⟩
  ·refine Or.inr ⟨b1,⟨by rw[List.length_set];exact h.len,hle,fun i p' hi => ?_⟩⟩
   by_cases c:i=x.sl
   ·subst c
    rw[List.getElem?_set_self hl] at hi
    cases hi
    exact Or.inl ⟨rfl,by rw[←b2];exact a3,by rw[←b3];exact a4⟩
   ·rw[List.getElem?_set_ne (fun e=>c e.symm)] at hi
    rcases h.all i p' hi with d | ⟨d1,d2,d3⟩
    ·exact Or.inl d
    ·exact Or.inr ⟨d1,by rw[←(a8 i c).1];exact d2,by rw[←(a8 i c).2];exact d3⟩
theorem info179:(Tryz.prog.info? 179).map (fun i=>(i.zero,i.size,i.bytes))=some (some (.agg #[.string ⟨#[]⟩,.int .i64 0,.bool false]),3,32):=by kernel_rfl
structure PpAt (w wr:World)(L:List Sh)(S:Sh)(g i:Nat):Prop where
 at':∃y ps,L[i]?=some y∧PrInv ps y S∧PrAt wr g ps
 bel:Below w.heap.size w wr
theorem props_any (w:World)(B tb:Nat)(O:Nat→Prop)(most:Int)(L:List Sh)(h:Tree w B tb O most L)(j:Nat)(S:Sh)(hS:L[j]?=some S) :
  Calls Tryz.prog 117 #[.pointer (some ⟨tb,0,none⟩),.int .i64 (j:Int)] w fun e w'=>∃g,e = .returned (.slice (some ⟨g,0,none⟩) S.ks.length S.ks.length)∧PrAt w' g (propsOf S)∧w.heap.size≤g∧Below w.heap.size w w':=by
 obtain⟨T,v,mb,h⟩:=h
 have hcap:=h.cap
 obtain⟨b,off,cap,l,c1,hc0,hw0,hpr,hsz,hj,hlim,hlen⟩:=h.lay hS
 have d6:=hc0 6 _ rfl
 rw[hsz] at d6
 obtain⟨⟨ad,cap',xs⟩,rfl,h2,h3,_,c1',_⟩:=h.open
 simp only at h2
 subst h2
 obtain⟨b',off',e1,hc⟩:=h3.cells (by intro e;simp only at e;rw[e] at hj;simp at hj)
 simp only at e1 c1'
 subst e1
 rw[c1] at c1'
 simp only[Option.some.injEq,Value.slice.injEq,Addr.mk.injEq,and_true,true_and] at c1'
 obtain⟨⟨rfl,rfl⟩,rfl⟩:=c1'
 have hfin:=h.rel.fin hS
 have hkl:=hfin.kl
 have hks:(S.ks.length:Int)≤1700000000000:=by unfold top at hcap;omega
 have HKS:Hid (S.ks.length≤1700000000000):=by show _≤_;omega
 have hjj:(j:Int)<xs.length:=by omega
 have HR:Hid (Rel xs L∧(∀x∈xs,x.wf)):=⟨h.rel,h.wf⟩
 have HC:Hid (∀(i:Nat) (y:Ly),xs[i]?=some y→∀(j:Nat) (u:Value),(lyC y)[j]?=some u→w.cell? ⟨b,off+i*7+j,none⟩=some u):=hc
 have HT:Hid (w.cell? ⟨tb,1,none⟩=some (.slice (some ⟨b,off,none⟩) xs.length cap)):=c1
 have HF:Hid (S.fs.length=S.ks.length):=hfin.fl
 have HI:Hid (∀w1,PrAt w1 w.heap.size (List.replicate S.ks.length ⟨⟨#[]⟩,0,false⟩)→Below w.heap.size w w1→PpAt w w1 L S w.heap.size j):=fun w1 h1 h2=>⟨⟨S,_,hS,PrInv.start S,h1⟩,h2⟩
 obtain⟨i0,hi,hz0,hz1,hz2⟩:=info_parts info179
 have HBLT:Hid (b<w.heap.size∧tb<w.heap.size):=⟨World.block_lt_of_cell? w _ (hc0 0 _ rfl),World.block_lt_of_cell? w _ c1⟩
 clear h h3 hc hc0 hw0 hpr hsz hfin hcap hkl hS
 generalize hN:S.ks.length=N at *
 go_enter Tryz.func117,Tryz.ntmps117
 go_wp2_with (at_make;refine wpList_make_full _ rfl _ _ 176 rfl w.heap.size 179 i0 (.agg #[.string ⟨#[]⟩,.int .i64 0,.bool false]) 3 Tryz.underlying176 hi hz0 hz1 _ _ _ _ N rfl rfl (by omega) (by omega) ?m1 ?m2 (Nat.le_refl _) ?_)
 case m1=>rw[hz2];omega
 case m2=>unfold maxLen;omega
 intro w1 hmade hg1
 have hst:=HI.out w1 (prAt_made hmade) (below_grown hg1)
 have c1b:=cells_below (below_grown hg1) _ _ HT.out
 have HST:=(show Hid _ from hst)
 clear hmade hg1 HI hi hz0 hz1 hz2 c1 d6 hst
 go_wp2_with fail
 go_loopw [6] (fun p wr=>∃i:Nat,PpAt w wr L S w.heap.size i∧p = .pointer (some ⟨b,off+i*7,none⟩)) (fun p wr=>offOf p)
 case atStart=>exact⟨j,HST.out,rfl⟩
 case round =>
  clear HST c1b hjj hj
  obtain⟨i,hr,rfl⟩:=hrel
  have HB:Hid (Below w.heap.size w wr):=hr.bel
  obtain⟨y,ps,hy,hq,hps⟩:=hr.at'
  have hix:i<xs.length:=by rw[HR.out.1.len];exact(List.getElem?_eq_some_iff.1 hy).1
  have hex:∃x,xs[i]?=some x:=⟨_,List.getElem?_eq_getElem hix⟩
  obtain⟨x,hx⟩:=hex
  have hcc:=HC.out i x hx
  have d0:=cells_below HB.out _ _ (hcc 0 _ rfl)
  have d2:=cells_below HB.out _ _ (hcc 2 _ rfl)
  have d3:=cells_below HB.out _ _ (hcc 3 _ rfl)
  have d4:=cells_below HB.out _ _ (hcc 4 _ rfl)
  have d5:=cells_below HB.out _ _ (hcc 5 _ rfl)
  have c1:=cells_below HB.out _ _ HT.out
  rw[Nat.add_zero] at d0
  have hw:=HR.out.2 x (List.mem_of_getElem? hx)
  have hfq:=hq.step HR.out.1 hx hy
  have hf:=hw.fr
  have hsl:=hw.sl
  have HPS:Hid (PrAt wr w.heap.size ps∧ps.length=N):=⟨hps,by rw[hq.len,hN]⟩
  have HDN:Hid (y.ks=[]→ps=propsOf S):=fun e=>hq.done (by rw[hN];exact HF.out) e
  clear hr hcc hq hw hps
  obtain⟨xk,xp,xf,xe,xl,xs',xz⟩:=x
  simp only at *
  rcases hfq with⟨h1,h2⟩ | ⟨h1,h2,p,q,h3,h4,h5,h6⟩
  ·subst h1
   have HE:Hid (ps=propsOf S):=HDN.out h2
   clear HR HC HT HDN hy h2 hx
   go_wp2_with fail
   go_ret
   refine⟨_,rfl,?_,Nat.le_refl _,HB.out⟩
   rw[←HE.out]
   exact HPS.out.1
  ·have hk0:((xk:Int) == 0)=false:=by simp;omega
   have hk1:¬(xk:Int)=0:=by omega
   have hfx:(xf:Int)<xs.length:=by have:=HR.out.1.len;omega
   have hsx:(xs':Int)<N:=by have:=HPS.out.2;omega
   obtain⟨p2,f2⟩:=HPS.out.1.cell xs' p h3 2 _ rfl
   obtain⟨p0,f0⟩:=HPS.out.1.cell xs' p h3 0 _ rfl
   obtain⟨p1,f1⟩:=HPS.out.1.cell xs' p h3 1 _ rfl
   rw[Nat.add_zero] at p0 f0
   have HLT:Hid (xs'<ps.length∧L[xf]?=some q):=⟨h2,h5⟩
   have hnb:¬b=w.heap.size:=by have:=HBLT.out.1;omega
   have hnt:¬tb=w.heap.size:=by have:=HBLT.out.2;omega
   rcases h6 with⟨h6,h7⟩ | ⟨h6,h7⟩
   ·rw[h6] at p2
    have HN:Hid (∀w5,PrAt w5 w.heap.size ps→Below w.heap.size w w5→PpAt w w5 L S w.heap.size xf):=fun w5 h1 h2=>⟨⟨q,ps,HLT.out.2,h7,h1⟩,h2⟩
    clear HR HC HT HDN hy h7 h5 h3 hx
    go_wp2_with fail
    go_region
    all_goals
     go_wp2_with fail
     refine⟨⟨xf,HN.out _ (HPS.out.1.kept (S:=fun _=>False) (Chg.of_below (Below.refl _ _).drew) id) HB.out.drew,rfl⟩,?_⟩
     simp[offOf]
     omega
   ·rw[h6] at p2
    have HN:Hid (∀w5,PrAt w5 w.heap.size (ps.set xs' ⟨xe,xl,true⟩)→Below w.heap.size w w5→PpAt w w5 L S w.heap.size xf):=fun w5 h1 h2=>⟨⟨q,_,HLT.out.2,h7,h1⟩,h2⟩
    have HX:Hid (xs[i]?=some ⟨xk,xp,xf,xe,xl,xs',xz⟩):=hx
    clear HR HDN hy h7 h5 h3 hx
    go_wp2_with fail
    go_region
    go_upto_region 4 with fail
    obtain⟨w6,hw6⟩:∃w6,w6=(((wr.setCell ⟨w.heap.size,xs'*3,none⟩ (.string xe)).setCell ⟨w.heap.size,xs'*3+1,none⟩ (.int .i64 xl)).setCell ⟨w.heap.size,xs'*3+2,none⟩ (.bool true)).drew:=⟨_,rfl⟩
    have hb6:Below w.heap.size w w6:=by
     rw[hw6]
     exact(((HB.out.setCell (p:=⟨w.heap.size,xs'*3,none⟩) (Nat.le_refl _) _).setCell (p:=⟨w.heap.size,xs'*3+1,none⟩) (Nat.le_refl _) _).setCell (p:=⟨w.heap.size,xs'*3+2,none⟩) (Nat.le_refl _) _).drew
    have hp6:PrAt w6 w.heap.size (ps.set xs' ⟨xe,xl,true⟩):=by
     rw[hw6]
     exact HPS.out.1.put xs' ⟨xe,xl,true⟩ HLT.out.1
    have HN6:Hid (PpAt w w6.drew L S w.heap.size xf):=HN.out _ (hp6.kept (S:=fun _=>False) (Chg.of_below (Below.refl _ _).drew) id) hb6.drew
    have hcc:=HC.out i _ HX.out
    have d0:=cells_below hb6 _ _ (hcc 0 _ rfl)
    have d2:=cells_below hb6 _ _ (hcc 2 _ rfl)
    have c1:=cells_below hb6 _ _ HT.out
    rw[Nat.add_zero] at d0
    simp only at d0 d2
    rw[←hw6]
    clear hw6 hb6 hp6 HN hcc HPS HB HC HT HLT HX p0 p1 p2 f0 f1 f2 d3 d4 d5
    go_wp2_with fail
    go_region
    all_goals
     go_wp2_with fail
     refine⟨⟨xf,HN6.out,rfl⟩,?_⟩
     simp[offOf]
     omega
theorem props_at {S:Sh}(hf:S.fs.length=S.ks.length)(i:Nat)(hi:i<S.ks.length):∃k f,S.ks[i]?=some k∧S.fs[i]?=some f∧(propsOf S)[i]?=some ⟨k,f,true⟩:=by
 have h1:=List.getElem?_eq_getElem hi
 have h2:=List.getElem?_eq_getElem (show i<S.fs.length by omega)
 refine⟨_,_,h1,h2,?_⟩
 unfold propsOf
 rw[List.getElem?_map,show(S.ks.zip S.fs)[i]?=some (S.ks[i],S.fs[i]'(by omega)) from List.getElem?_zip_eq_some.2 ⟨h1,h2⟩]
 rfl
theorem lay_false (most:Int)(L:List Sh)(s:Sh)(h:(layD most L s).2.2=false):(layD most L s).2.1=0:=by
 unfold layD at *
 cases e:hit L s with
 | some i=>rw[e] at h;simp at h
 | none =>
   rw[e] at h
   simp only at *
   split
   ·rfl
   ·rename_i c
    rw[if_neg c] at h
    simp at h
theorem lay_len (most:Int)(L:List Sh)(s:Sh):(layD most L s).1.length≤L.length+1∧L.length≤(layD most L s).1.length:=by
 unfold layD
 cases hit L s with
 | some i=>simp
 | none =>
   simp only
   split <;> simp
theorem lay_at {T:List Ly}{L:List Sh}(h:Rel T L){l:Ly}{s:Sh}(hp:Pair L L.length l s)(most:Int)(ho:(layD most L s).2.2=true):∃m:Nat,(layD most L s).2.1=(m:Int)∧(layD most L s).1[m]?=some s:=by
 unfold layD at *
 cases e:hit L s with
 | some i =>
   obtain⟨y,g1,g2,g3,_⟩:=hit_some e
   obtain⟨x,k1,_⟩:=h.at' g1
   have hs:=(step_iff h (Nat.le_refl _) hp k1 g1)
   have:=hs.2 (hs.1.2 ⟨g2,g3⟩)
   exact⟨i,rfl,by simp only;rw[g1,this]⟩
 | none =>
   rw[e] at ho
   simp only at *
   by_cases c:most≤(L.length:Int)
   ·rw[if_pos c] at ho
    simp at ho
   ·rw[if_neg c]
    exact⟨L.length,rfl,by simp⟩
theorem mov_stop (most:Int)(l:List (ByteArray×Int))(r:List Sh×Int×Bool)(h:r.2.2=false):movD most l r=r:=by
 cases l with
 | nil=>rfl
 | cons x l=>rw[movD,h];rfl
theorem add_lay {L:List Sh}{m:Nat}{q:Sh}(hq:L[m]?=some q){k:ByteArray}(hn:idx q.ks k=none)(most:Int)(f:Int):addD most L m k f=layD most L (grow q k f):=by
 have hs:shOf L (m:Int)=some q:=by unfold shOf;rw[if_pos (by omega),Int.toNat_natCast];exact hq
 unfold addD
 rw[hs]
 simp only
 rw[hn]
structure MvP (most:Int)(L:List Sh)(S:Sh)(R:List Sh×Int×Bool)(i:Nat)(r:List Sh×Int×Bool):Prop where
 le:i≤S.ks.length
 val:R=movD most ((S.ks.zip S.fs).drop i) r
 len:r.1.length≤L.length+1+i
 no:r.2.2=false→r.2.1=0
 yes:r.2.2=true→∃(m:Nat) (q:Sh),r.2.1=(m:Int)∧r.1[m]?=some q∧q.ks=S.ks.take i
theorem zip_drop {S:Sh}{i:Nat}{k:ByteArray}{f:Int}(h1:S.ks[i]?=some k)(h2:S.fs[i]?=some f):(S.ks.zip S.fs).drop i=(k,f) :: (S.ks.zip S.fs).drop (i+1):=by
 have h3:(S.ks.zip S.fs)[i]?=some (k,f):=List.getElem?_zip_eq_some.2 ⟨h1,h2⟩
 obtain⟨h4,h5⟩:=List.getElem?_eq_some_iff.1 h3
 rw[List.drop_eq_getElem_cons h4,h5]
theorem key_new {S:Sh}{n:Nat}(hf:Fine S n){i:Nat}{k:ByteArray}(h:S.ks[i]?=some k):idx (S.ks.take i) k=none:=by
 refine idx_no (fun j hj => ?_)
 rw[List.getElem?_take] at hj
 split at hj
 ·rename_i c
  have:=(idx_some (hf.own i k h)).2 j c
  exact this hj
 ·cases hj
theorem MvP.next {T:List Ly}{most:Int}{L:List Sh}{S:Sh}{R r:List Sh×Int×Bool}{i n:Nat}(h:MvP most L S R i r)(hf:Fine S n)(hr:Rel T r.1){m:Nat}{q:Sh}{k:ByteArray}{f:Int}(ho:r.2.2=true)(hm:r.2.1=(m:Int))(hq:r.1[m]?=some q)(hqk:q.ks=S.ks.take i)(h1:S.ks[i]?=some k)(h2:S.fs[i]?=some f) :
  idx q.ks k=none∧MvP most L S R (i+1) (layD most r.1 (grow q k f)):=by
 have hn:idx q.ks k=none:=by rw[hqk];exact key_new hf h1
 have hl:m<r.1.length:=(List.getElem?_eq_some_iff.1 hq).1
 have hp:Pair r.1 r.1.length ⟨1,q.pr,m,k,f,q.ks.length,q.ks.length+1⟩ (grow q k f):=Or.inr (Or.inl ⟨q,hl,hq,rfl,rfl,rfl,rfl,hn,rfl⟩)
 refine⟨hn,⟨(List.getElem?_eq_some_iff.1 h1).1,?_,?_,lay_false _ _ _,?_⟩⟩
 ·rw[h.val,zip_drop h1 h2,movD,if_pos ho,hm,add_lay hq hn]
 ·have:=(lay_len most r.1 (grow q k f)).1
  have:=h.len
  omega
 ·intro ho2
  obtain⟨m',g1,g2⟩:=lay_at hr hp most ho2
  refine⟨m',_,g1,g2,?_⟩
  show q.ks++[k]=_
  rw[hqk,take_at _ _ _ h1]
theorem MvP.start {T:List Ly}{most:Int}{L:List Sh}(S:Sh)(p:Int)(hr:Rel T L):MvP most L S (movD most (S.ks.zip S.fs) (rootD most L p)) 0 (rootD most L p):=by
 refine⟨Nat.zero_le _,by rw[List.drop_zero],?_,lay_false _ _ _,?_⟩
 ·have:=(lay_len most L ⟨p,[],[],[]⟩).1
  unfold rootD
  omega
 ·intro ho
  obtain⟨m,g1,g2⟩:=lay_at (l:=⟨0,p,0,ByteArray.empty,0,0,0⟩) hr (Or.inl ⟨rfl,rfl⟩) most ho
  exact⟨m,_,g1,g2,by simp⟩
structure MvAt (w wr:World)(B tb:Nat)(O:Nat→Prop)(most:Int)(L:List Sh)(S:Sh)(R:List Sh×Int×Bool)(g i:Nat)(n:Int)(ok:Bool):Prop where
 at':∃r O',r.2.1=n∧r.2.2=ok∧MvP most L S R i r∧Tree wr B tb O' most r.1∧¬O' g∧(∀b,O' b→O b∨w.heap.size≤b)
 pr:PrAt wr g (propsOf S)
 chg:Chg O w wr
theorem MvAt.went {w wr:World}{B tb:Nat}{O:Nat→Prop}{most:Int}{L:List Sh}{S:Sh}{R:List Sh×Int×Bool}{g i:Nat}{n:Int}{ok:Bool}(h:MvAt w wr B tb O most L S R g i n ok)(he:ok=false∨i=S.ks.length)(hf:S.fs.length=S.ks.length):R.2.1=n∧R.2.2=ok∧Went w B tb O most R.1 wr:=by
 obtain⟨r,O',h1,h2,h3,h4,h5,h6⟩:=h.at'
 have e:R=r:=by
  rw[h3.val]
  rcases he with q | q
  ·exact mov_stop _ _ _ (by rw[h2,q])
  ·rw[List.drop_eq_nil_of_le (by rw[List.length_zip];omega)]
   rfl
 rw[e]
 exact⟨h1,h2,O',h4,h.chg,h6⟩
theorem MvAt.zero {w wr:World}{B tb:Nat}{O:Nat→Prop}{most:Int}{L:List Sh}{S:Sh}{R:List Sh×Int×Bool}{g i:Nat}{n:Int}(h:MvAt w wr B tb O most L S R g i n false):n=0:=by
 obtain⟨r,O',h1,h2,h3,h4,h5,h6⟩:=h.at'
 rw[←h1]
 exact h3.no h2
end Go.Proofs.YtahhionlbfhinabGreatDoor.Sp
