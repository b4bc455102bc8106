/- IO, MQ, VA, VP -/
import Derived.Test.YtahhionlbfhinabGreatDoorB21
import Derived.Test.YtahhionlbfhinabGreatDoorB16
import Derived.Test.YtahhionlbfhinabGreatDoorB20
import Derived.Test.YtahhionlbfhinabGreatDoorB15
set_option linter.unusedVariables false
set_option linter.unusedSimpArgs false
set_option maxRecDepth 100000
set_option maxHeartbeats 40000000
namespace Go.Proofs.YtahhionlbfhinabGreatDoor.Hp
open Go.RowKit
def prAt (ps:List Pr)(n:Nat):Pr:=(ps[n]?).getD ⟨⟨#[]⟩,0,0,0,0⟩
def putH (H0:He)(i:Nat)(ob:Ob)(k:ByteArray)(d0:De):He :=
 match plc ob.ps k with
 | some n=>replH (touchH H0 ob.cell) i ob n (prAt ob.ps n) (keptD d0)
 | none=>if ob.shaped=true∧ob.ps.length+1≤16 then layH (touchH H0 ob.cell) i ob k (keptD d0) else { touchH H0 ob.cell with obs:=H0.obs.set i (ob.bare k (keptD d0)) }
section
variable {w w' w1:World}{B hb:Nat}{O S:Nat→Prop}{H H':He}{M M':HV}{tg:Nat→Nat}
theorem put_any (h:HeapAt w B hb tg H M)(o:Int)(o0:0≤o)(o1:o<18446744073709551616){i:Nat}{ob:Ob}(ho:obI H o=some i)(hi:H.obs[i]?=some ob)(hnt:ob.neat)(hms:ob.shaped=true→ob.hm=false)(k:ByteArray)(hk:k.size≤maxLen)(d:De)(hnx:ob.next<2000000000000) :
  Calls Tryz.prog 94 #[.pointer (some ⟨hb,0,none⟩),.int .u64 o,.string k,deV d] w fun e w'=>e = .returned (.tuple #[])∧∃M',M'.vo=M.vo∧WentM w B hb tg (putH H i ob k d) M' w':=by
 obtain⟨wb,hwb⟩:∃wb,wb=w.alloc (.cells #[.int .u64 d.va,.int .u64 d.se,.int .i64 d.fl] 39):=⟨_,rfl⟩
 have hB:Below w.heap.size w wb:=by rw[hwb];exact(Below.refl _ _).alloc (Nat.le_refl _) _
 have hbx:wb.heap[w.heap.size]?=some (.cells #[.int .u64 d.va,.int .u64 d.se,.int .i64 d.fl] 39 (0,0)):=by rw[hwb];exact at_new _ _
 have h2:HeapAt wb B hb tg H M:=h.below hB
 obtain⟨g,cap,ov,hvo,hov,_⟩:=h2.obj hi
 have ka:=at_hit h2 o o0 o1 i g cap ho hvo
 have kt:=touch_at h2 hi hvo
 have kk:=fun w=>kept_any w d.fl
 have htx:tg w.heap.size=0:=by
  by_cases c:tg w.heap.size=0
  ·exact c
  ·have:=(h.lt _ c).2;omega
 have hxs:w.heap.size<wb.heap.size:=(Array.getElem?_eq_some_iff.1 hbx).1
 have HA:Hid (∀w2,WentM wb B hb tg (touchH H ob.cell) M w2 →
   (w2.cell? ⟨w.heap.size,0,none⟩=some (.int .u64 d.va)∧w2.cell? ⟨w.heap.size,1,none⟩=some (.int .u64 d.se)∧w2.cell? ⟨w.heap.size,2,none⟩=some (.int .i64 d.fl)∧w2.frozen? ⟨w.heap.size,2,none⟩=false) ∧
   ∀w3,w3=w2.setCell ⟨w.heap.size,2,none⟩ (.int .i64 (keptI d.fl)) →
   Calls Tryz.prog 59 #[.pointer (some ⟨g,i*12+4,none⟩),.string k] w3 (fun e w6=>e = .returned (.tuple #[.int .i64 (nOf (plc ob.ps k)),.bool (plc ob.ps k).isSome]) ∧
    (w6.cell? ⟨w.heap.size,0,none⟩=some (.int .u64 d.va)∧w6.cell? ⟨w.heap.size,1,none⟩=some (.int .u64 d.se)∧w6.cell? ⟨w.heap.size,2,none⟩=some (.int .i64 (keptI d.fl))) ∧
    (∀n,plc ob.ps k=some n→Calls Tryz.prog 112 #[.pointer (some ⟨hb,0,none⟩),.pointer (some ⟨g,i*12,none⟩),.int .i64 (n:Int),.agg #[.int .u64 d.va,.int .u64 d.se,.int .i64 (keptI d.fl)]] w6 (fun e w'=>e = .returned (.tuple #[])∧∃M',M'.vo=M.vo∧WentM w B hb tg (putH H i ob k d) M' w')) ∧
    (plc ob.ps k=none→Calls Tryz.prog 113 #[.pointer (some ⟨hb,0,none⟩),.pointer (some ⟨g,i*12,none⟩),.string k,.agg #[.int .u64 d.va,.int .u64 d.se,.int .i64 (keptI d.fl)]] w6 (fun e w'=>e = .returned (.tuple #[])∧∃M',M'.vo=M.vo∧WentM w B hb tg (putH H i ob k d) M' w')))):=fun w2 hw2=>by
  obtain⟨tg2,p1,p2,p3⟩:=hw2
  have hbx2:w2.heap[w.heap.size]?=some (.cells #[.int .u64 d.va,.int .u64 d.se,.int .i64 d.fl] 39 (0,0)):=by
   rw[p2.block _ hxs (fun q=>q htx)]
   exact hbx
  refine⟨⟨cell_of_row w2 w.heap.size 0 _ _ (0,0) hbx2,cell_of_row w2 w.heap.size 1 _ _ (0,0) hbx2,cell_of_row w2 w.heap.size 2 _ _ (0,0) hbx2,frozen_of_row w2 w.heap.size 2 _ _ hbx2⟩,?_⟩
  rintro w3 rfl
  have hbx3:=heap_setCell_same w2 w.heap.size 2 _ _ (.int .i64 (keptI d.fl)) hbx2
  have hx2:tg2 w.heap.size=0:=by
   by_cases c:tg2 w.heap.size=0
   ·exact c
   ·rcases p3 _ c with q | q
    ·exact absurd htx q
    ·omega
  have cs:Chg (fun b=>b=w.heap.size) w2 (w2.setCell ⟨w.heap.size,2,none⟩ (.int .i64 (keptI d.fl))):=Chg.set (S:=fun b=>b=w.heap.size) w2 ⟨w.heap.size,2,none⟩ _ rfl
  have h3:=p1.kept cs (fun b q e=>by rw[show b=w.heap.size from e] at q;exact q hx2)
  refine(show FindB _ _ _ _ _ from find_any (ob:=ob) h3 hi hvo hnt k hk).mono ?_
  rintro e w6 ⟨rfl,hB6⟩
  have h6:=h3.below hB6
  have p2w:Chg (fun b=>tg b≠0) w w6:=(((Chg.of_below (S:=fun b=>tg b≠0) hB).trans p2 (fun _ _ q=>q)).trans cs (fun b hb q=>by have q:b=w.heap.size:=q;omega)).trans (Chg.of_below (S:=fun b=>tg b≠0) hB6) (fun _ _ q=>q)
  have p3w:∀b,tg2 b≠0→tg b≠0∨w.heap.size≤b:=fun b q=>by rcases p3 b q with c | c;exact Or.inl c;exact Or.inr (by omega)
  refine⟨rfl,⟨cells_below hB6 _ _ (cell_of_row _ w.heap.size 0 _ _ (0,0) hbx3),cells_below hB6 _ _ (cell_of_row _ w.heap.size 1 _ _ (0,0) hbx3),cells_below hB6 _ _ (cell_of_row _ w.heap.size 2 _ _ (0,0) hbx3)⟩,fun n hn => ?_,fun hn => ?_⟩
  ·obtain⟨⟨p,hp,_⟩,_⟩:=plc_some hn
   refine(replace_at (ob:=ob) h6 hi hvo hp (keptD d) (kept_bd d.fl)).mono ?_
   rintro e w' ⟨rfl,hq⟩
   refine⟨rfl,M,rfl,?_⟩
   have e:putH H i ob k d=replH (touchH H ob.cell) i ob n p (keptD d):=by
    unfold putH
    rw[hn]
    simp only
    unfold prAt
    rw[hp]
    rfl
   rw[e]
   exact WentM.next p2w p3w hq
  ·by_cases c:ob.shaped=true∧ob.ps.length+1≤16
   ·refine(lay_small (ob:=ob) h6 hi hov hvo (hms c.1) c.1 k hk (keptD d) (kept_bd d.fl) c.2 hnx).mono ?_
    rintro e w' ⟨rfl,vl',hq⟩
    refine⟨rfl,{ M with ovs:=M.ovs.set i { ov with vl:=vl' } },rfl,?_⟩
    have e:putH H i ob k d=layH (touchH H ob.cell) i ob k (keptD d):=by
     unfold putH
     rw[hn]
     simp only
     rw[if_pos c]
    rw[e]
    exact WentM.next p2w p3w hq
   ·refine(lay_bare (ob:=ob) h6 hi hvo hnt (by
     cases hs:ob.shaped with
     | false=>exact Or.inr rfl
     | true=>exact Or.inl (by rcases Nat.lt_or_ge 16 (ob.ps.length+1) with q | q;exact q;exact absurd ⟨hs,q⟩ c)) k hk hn (keptD d) (kept_bd d.fl) hnx).mono ?_
    rintro e w' ⟨rfl,M',hM',hq⟩
    refine⟨rfl,M',hM',?_⟩
    have e:putH H i ob k d={ touchH H ob.cell with obs:=(touchH H ob.cell).obs.set i (ob.bare k (keptD d)) }:=by
     unfold putH
     rw[hn]
     simp only
     rw[if_neg c]
     rfl
    rw[e]
    exact WentM.next p2w p3w hq
 have b0:wb.cell? ⟨w.heap.size,0,none⟩=some (.int .u64 d.va):=cell_of_row wb w.heap.size 0 _ _ (0,0) hbx
 have b1:wb.cell? ⟨w.heap.size,1,none⟩=some (.int .u64 d.se):=cell_of_row wb w.heap.size 1 _ _ (0,0) hbx
 have b2:wb.cell? ⟨w.heap.size,2,none⟩=some (.int .i64 d.fl):=cell_of_row wb w.heap.size 2 _ _ (0,0) hbx
 generalize putH H i ob k d=HL at *
 generalize touchH H ob.cell=HT at *
 generalize plc ob.ps k=R at *
 unfold deV
 obtain⟨va,se,fl⟩:=d
 simp only at *
 generalize keptI fl=kf at *
 clear h h2 hB hbx ho hi hnt hms hk hnx hvo hov htx hxs
 go_enter Tryz.func94,Tryz.ntmps94
 go_upto_region 1 with fail
 rw[←hwb]
 clear hwb
 generalize w.heap.size=xb at b0 b1 b2 HA ⊢
 go_wp2_with fail
 refine ka.mono ?_
 rintro e w2 ⟨rfl,rfl⟩
 clear ka
 go_wp2_with fail
 refine kt.mono ?_
 rintro e w3 ⟨rfl,hw3⟩
 obtain⟨⟨a0,a1,a2,a3⟩,HB0⟩:=HA.out w3 hw3
 have kfd:=HB0 _ rfl
 clear hw3 kt HB0 HA b0 b1 b2
 go_wp2_with fail
 refine(kk _).mono ?_
 rintro e w4 ⟨rfl,rfl⟩
 clear kk
 go_upto_region 5 with fail
 generalize (w4.setCell ⟨xb,2,none⟩ (.int .i64 kf))=w5 at *
 clear a0 a1 a2 a3
 go_wp2_with fail
 refine kfd.mono ?_
 rintro e w6 ⟨rfl,⟨y0,y1,y2⟩,krp,kly⟩
 clear kfd
 cases R with
 | none =>
   have kl:=kly rfl
   clear krp kly
   rw[show nOf none=0 from rfl]
   simp only[Option.isSome_none]
   go_wp2_with fail
   refine kl.mono ?_
   rintro e w7 ⟨rfl,hq⟩
   have HQ:=(show Hid _ from hq)
   clear kl hq
   go_wp2_with fail
   go_end0
   exact⟨rfl,HQ.out⟩
 | some n =>
   have kr:=krp n rfl
   clear krp kly
   rw[show nOf (some n)=(n:Int) from rfl]
   simp only[Option.isSome_some]
   go_wp2_with fail
   refine kr.mono ?_
   rintro e w7 ⟨rfl,hq⟩
   have HQ:=(show Hid _ from hq)
   clear kr hq
   go_wp2_with fail
   go_end0
   exact⟨rfl,HQ.out⟩
end
section
variable {H:He}{S:List So}{ob ob':Ob}{x:So}{k:ByteArray}{d:De}
theorem RelO.add (h:RelO ob x)(hx:ob.kind=1→k≠lenS∧ixI k=none)(c:Int)(e1:ob'.kind=ob.kind)(e2:ob'.proto=ob.proto)(e3:ob'.shut=ob.shut)(e4:ob'.ps=ob.ps++[⟨k,c,d⟩])(e5:ob'.el=ob.el)(e6:ob'.inn=ob.inn) :
  RelO ob' { x with nm:=x.nm++[k],ds:=x.ds++[d] }:=by
 refine⟨e1.trans h.kd,e2.trans h.pr,e3.trans h.sh,?_,?_,e5.trans h.el,e6.trans h.inn,fun hk p hp => ?_⟩
 ·show x.nm++[k]=_
  rw[e4,List.map_append,h.nm];rfl
 ·show x.ds++[d]=_
  rw[e4,List.map_append,h.ds];rfl
 ·rw[e1] at hk
  rw[e4] at hp
  rcases List.mem_append.1 hp with q | q
  ·exact h.ix hk p q
  ·rw[List.mem_singleton.1 q]
   exact hx hk
theorem RelO.put (h:RelO ob x){n:Nat}{p:Pr}(hp:ob.ps[n]?=some p)(e1:ob'.kind=ob.kind)(e2:ob'.proto=ob.proto)(e3:ob'.shut=ob.shut)(e4:ob'.ps=setD ob.ps n p d)(e5:ob'.el=ob.el)(e6:ob'.inn=ob.inn) :
  RelO ob' { x with ds:=x.ds.set n d }:=by
 refine⟨e1.trans h.kd,e2.trans h.pr,e3.trans h.sh,?_,?_,e5.trans h.el,e6.trans h.inn,fun hk q hq => ?_⟩
 ·show x.nm=_
  rw[e4,h.nm]
  unfold setD
  rw[List.map_set]
  apply List.ext_getElem?
  intro j
  by_cases c:n=j
  ·subst c
   have hl:n<(ob.ps.map Pr.key).length:=by rw[List.length_map];exact(List.getElem?_eq_some_iff.1 hp).1
   rw[List.getElem?_set_self hl,List.getElem?_map,hp]
   rfl
  ·rw[List.getElem?_set_ne c]
 ·show x.ds.set n d=_
  rw[e4,h.ds]
  unfold setD
  rw[List.map_set]
 ·rw[e1] at hk
  rw[e4] at hq
  unfold setD at hq
  rcases List.mem_or_eq_of_mem_set hq with r | r
  ·exact h.ix hk q r
  ·rw[r]
   exact h.ix hk p (List.mem_of_getElem? hp)
theorem RelO.putH (h:RelO ob x)(i:Nat)(hx:ob.kind=1→k≠lenS∧ixI k=none)(d:De):∃ob',(Hp.putH H i ob k d).obs=H.obs.set i ob'∧RelO ob' (putS x k d):=by
 unfold Hp.putH putS
 rw[h.nm,plc_plS]
 cases hp:plc ob.ps k with
 | none =>
   simp only
   rw[←h.nm]
   split
   ·exact⟨layO (touchH H ob.cell) ob k (keptD d),rfl,h.add hx ob.next rfl rfl rfl rfl rfl rfl⟩
   ·refine⟨ob.bare k (keptD d),rfl,?_⟩
    unfold Ob.bare Ob.plus
    split
    ·split
     ·exact h.add hx ob.next rfl rfl rfl rfl rfl rfl
     ·exact h.add hx ob.next rfl rfl rfl rfl rfl rfl
    ·split
     ·exact h.add hx ob.next rfl rfl rfl rfl rfl rfl
     ·exact h.add hx ob.next rfl rfl rfl rfl rfl rfl
 | some n =>
   simp only
   obtain⟨⟨p,hn,hk⟩,_⟩:=plc_some hp
   have hpa:prAt ob.ps n=p:=by unfold prAt;rw[hn];rfl
   rw[hpa,←h.nm]
   unfold replH
   split
   ·refine⟨_,rfl,?_⟩
    exact h.put hn rfl rfl rfl rfl rfl rfl
   ·refine⟨_,rfl,?_⟩
    exact h.put hn rfl rfl rfl rfl rfl rfl
end
section
variable {w w' w1:World}{B hb:Nat}{O S:Nat→Prop}{H H':He}{M M':HV}{tg:Nat→Nat}
def closeH (H:He)(o:Int):He:=match obI H o with
 | none=>H
 | some i=>match H.obs[i]? with
   | none=>H
   | some ob=>H.setO i { ob with shut:=true }
theorem close_any (h:HeapAt w B hb tg H M)(o:Int)(o0:0≤o)(o1:o<18446744073709551616) :
  Calls Tryz.prog 38 #[.pointer (some ⟨hb,0,none⟩),.int .u64 o] w fun e w'=>e = .returned (.tuple #[])∧WentM w B hb tg (closeH H o) M w':=by
 cases hq:obO H o with
 | none =>
   have ka:=at_miss h o o0 o1 (obO_none hq)
   have e:closeH H o=H:=by unfold closeH;rw[obO_none hq]
   rw[e]
   have HW:Hid (WentM w B hb tg H M w):=WentM.same h (Below.refl _ _)
   clear h hq e
   go_enter Tryz.func38,Tryz.ntmps38
   go_wp2_with fail
   refine ka.mono ?_
   rintro e w2 ⟨rfl,rfl⟩
   clear ka
   go_wp2_with fail
   go_end0
   exact⟨rfl,HW.out⟩
 | some ob =>
   obtain⟨i,ho,hi⟩:=obO_some hq
   obtain⟨g,cap,ov,hvo,hov,t4,hne,hgl,hcell,hfz,hl1,hl2,hrow⟩:=h.obj hi
   have ka:=at_hit h o o0 o1 i g cap ho hvo
   have e:closeH H o=H.setO i { ob with shut:=true }:=by unfold closeH;rw[ho];simp only;rw[hi]
   rw[e]
   have hwf:=h.wf.ob ob (List.mem_of_getElem? hi)
   have hf:=h.fld hi hov hvo { ob with shut:=true } (j:=2) (u := .bool true) (by omega) rfl rfl rfl rfl ⟨hwf.kd,hwf.pr,hwf.ks,hwf.fl,hwf.nx,hwf.el,hwf.inn⟩
   have HW:Hid (WentM w B hb tg (H.setO i { ob with shut:=true }) M (w.setCell ⟨g,i*12+2,none⟩ (.bool true))):=HeapAt.wentF h hf.2 (fun b q=>by omega) hf.1
   have d2:=hcell 2 _ rfl
   have f2:=hfz (i*12+2)
   simp only at d2
   generalize H.setO i { ob with shut:=true }=HN at *
   generalize ob.shut=sh at *
   clear h hi ho hvo hov t4 hne hgl hcell hfz hl1 hl2 hrow hq hwf hf e
   go_enter Tryz.func38,Tryz.ntmps38
   go_wp2_with fail
   refine ka.mono ?_
   rintro e w2 ⟨rfl,rfl⟩
   clear ka
   go_wp2_with fail
   go_end0
   exact⟨rfl,HW.out⟩
end
theorem ends_mono {H:He}:∀(N M:Nat)(o:Int),EndsH H N o→N≤M→EndsH H M o
 | 0,0,o,h,_=>h
 | 0,M+1,o,h,_=>Or.inl h
 | N+1,0,o,h,hm=>by omega
 | N+1,M+1,o,h,hm=>by
   have h:obO H o=none∨∃ob,obO H o=some ob∧EndsH H N ob.proto:=h
   rcases h with h | ⟨ob,h1,h2⟩
   ·exact Or.inl h
   ·exact Or.inr ⟨ob,h1,ends_mono N M ob.proto h2 (by omega)⟩
def depF (H:He):Nat→Int→Nat
 | 0,_=>0
 | n+1,o=>match obO H o with
   | none=>0
   | some ob=>1+depF H n ob.proto
theorem dep_none {H:He}{o:Int}(h:obO H o=none):∀n,depF H n o=0
 | 0=>rfl
 | n+1=>by unfold depF;rw[h]
theorem dep_step {H:He}{o:Int}{n:Nat}{ob:Ob}(h:obO H o=some ob):depF H (n+1) o=1+depF H n ob.proto:=by rw[depF,h]
theorem dep_ends {H:He}:∀(N M:Nat)(p:Int),EndsH H N p→N≤M→depF H N p=depF H M p
 | 0,M,p,he,_=>by
   have he:obO H p=none:=he
   rw[dep_none he,dep_none he]
 | N+1,0,p,_,hm=>by omega
 | N+1,M+1,p,he,hm=>by
   cases hq:obO H p with
   | none=>rw[dep_none hq,dep_none hq]
   | some ob =>
     obtain⟨g',e,h2⟩:=ends_step he hq
     obtain rfl:N=g':=by omega
     rw[dep_step hq,dep_step hq,dep_ends N M ob.proto h2 (by omega)]
theorem ends_dep {H:He}:∀(N:Nat)(p:Int),EndsH H N p→EndsH H (depF H N p) p
 | 0,p,he=>he
 | N+1,p,he=>by
   cases hq:obO H p with
   | none=>rw[dep_none hq];exact hq
   | some ob =>
     obtain⟨g',e,h2⟩:=ends_step he hq
     obtain rfl:N=g':=by omega
     rw[dep_step hq,Nat.add_comm]
     exact Or.inr ⟨ob,hq,ends_dep N ob.proto h2⟩
theorem few_places:∀(n:Nat)(l:List Nat),l.Nodup→(∀x∈l,x<n)→l.length≤n
 | 0,[],_,_=>Nat.le_refl _
 | 0,x :: l,_,h=>by have:=h x (List.mem_cons_self ..);omega
 | n+1,l,hn,h=>by
   by_cases c:n∈l
   ·have h1:=few_places n (l.erase n) (hn.erase n) (fun x hx=>by
     obtain⟨a,b⟩:=(List.Nodup.mem_erase_iff hn).1 hx
     have:=h x b
     omega)
    rw[List.length_erase_of_mem c] at h1
    omega
   ·have:=few_places n l hn (fun x hx=>by
     have:=h x hx
     have hne:x≠n:=fun e=>c (e ▸ hx)
     omega)
    omega
theorem chain_ex {H:He}{M:Nat}:∀(N:Nat)(o:Int),N≤M→EndsH H N o→∃l:List Nat,l.length=depF H N o∧l.Nodup∧∀i∈l,∃ob,H.obs[i]?=some ob∧1+depF H M ob.proto≤depF H N o
 | 0,o,_,he=>⟨[],rfl,List.nodup_nil,fun i hi=>by cases hi⟩
 | N+1,o,hm,he=>by
   cases hq:obO H o with
   | none=>exact⟨[],by rw[dep_none hq];rfl,List.nodup_nil,fun i hi=>by cases hi⟩
   | some ob =>
     obtain⟨g',e,h2⟩:=ends_step he hq
     obtain rfl:N=g':=by omega
     obtain⟨l,l1,l2,l3⟩:=chain_ex (M:=M) N ob.proto (by omega) h2
     obtain⟨i,ho,hi⟩:=obO_some hq
     have hd:=dep_ends N M ob.proto h2 (by omega)
     rw[dep_step hq]
     refine⟨i :: l,by rw[List.length_cons,l1];omega,List.nodup_cons.2 ⟨fun hin => ?_,l2⟩,fun j hj => ?_⟩
     ·obtain⟨ob2,q1,q2⟩:=l3 i hin
      rw[hi] at q1
      cases q1
      omega
     ·rcases List.mem_cons.1 hj with rfl | hj
      ·exact⟨ob,hi,by omega⟩
      ·obtain⟨ob2,q1,q2⟩:=l3 j hj
       exact⟨ob2,q1,by omega⟩
theorem ends_len {H:He}{N:Nat}{o:Int}(h:EndsH H N o):EndsH H H.obs.length o:=by
 obtain⟨l,l1,l2,l3⟩:=chain_ex (M:=N) N o (Nat.le_refl _) h
 have:=few_places H.obs.length l l2 (fun i hi=>by
  obtain⟨ob,q,_⟩:=l3 i hi
  exact(List.getElem?_eq_some_iff.1 q).1)
 exact ends_mono _ _ _ (ends_dep N o h) (by omega)
def Acy (H:He):Prop:=∀o,EndsH H H.obs.length o
theorem setO_I (H:He)(i:Nat)(ob:Ob)(o:Int):obI (H.setO i ob) o=obI H o:=by
 unfold obI He.setO
 simp only[List.length_set]
theorem setO_at {H:He}{i:Nat}{ob':Ob}{o:Int}(hi:i<H.obs.length):obO (H.setO i ob') o=if obI H o=some i then some ob' else obO H o:=by
 unfold obO
 rw[setO_I]
 cases hq:obI H o with
 | none=>rw[if_neg (by simp)];rfl
 | some j =>
   simp only[Option.bind_some]
   by_cases c:j=i
   ·subst c
    rw[if_pos rfl]
    exact List.getElem?_set_self hi
   ·rw[if_neg (by simpa using c)]
    exact List.getElem?_set_ne (fun e=>c e.symm)
theorem ends_same {H H':He}(hs:∀o,(obO H' o).map Ob.proto=(obO H o).map Ob.proto):∀(N:Nat)(o:Int),EndsH H N o→EndsH H' N o
 | 0,o,h=>by
   have h:obO H o=none:=h
   have:=hs o
   rw[h] at this
   show obO H' o=none
   simpa using this
 | N+1,o,h=>by
   have h:obO H o=none∨∃ob,obO H o=some ob∧EndsH H N ob.proto:=h
   have hh:=hs o
   rcases h with h | ⟨ob,h1,h2⟩
   ·rw[h] at hh
    exact Or.inl (by simpa using hh)
   ·rw[h1] at hh
    cases hq:obO H' o with
    | none=>exact Or.inl hq
    | some ob' =>
      rw[hq] at hh
      have e:ob'.proto=ob.proto:=by simpa using hh
      exact Or.inr ⟨ob',hq,by rw[e];exact ends_same hs N ob.proto h2⟩
theorem acy_proto {H:He}{o p:Int}{i:Nat}{ob:Ob}(ha:Acy H)(ho:obI H o=some i)(hi:H.obs[i]?=some ob)(huniq:∀q,obI H q=some i→q=o)(hne:¬p=o)(hab:abvF H o H.obs.length p=false):Acy (H.setO i { ob with proto:=p }):=by
 have hil:=(List.getElem?_eq_some_iff.1 hi).1
 have hp:∀(N:Nat) (q:Int),¬q=o→EndsH H N q→abvF H o N q=false→EndsH (H.setO i { ob with proto:=p }) N q:=by
  intro N
  induction N with
  | zero =>
    intro q hq he _
    have he:obO H q=none:=he
    show obO _ q=none
    rw[setO_at hil,if_neg (fun e=>hq (huniq q e))]
    exact he
  | succ N ih =>
    intro q hq he hb
    have he:obO H q=none∨∃ob,obO H q=some ob∧EndsH H N ob.proto:=he
    rcases he with h | ⟨ob2,h1,h2⟩
    ·refine Or.inl ?_
     rw[setO_at hil,if_neg (fun e=>hq (huniq q e))]
     exact h
    ·rw[abv_step h1] at hb
     by_cases c:ob2.proto=o
     ·rw[if_pos c] at hb;cases hb
     ·rw[if_neg c] at hb
      refine Or.inr ⟨ob2,?_,ih ob2.proto c h2 hb⟩
      rw[setO_at hil,if_neg (fun e=>hq (huniq q e))]
      exact h1
 have hpe:=hp H.obs.length p hne (ha p) hab
 have hall:∀(N:Nat) (q:Int),EndsH H N q→EndsH (H.setO i { ob with proto:=p }) (N+(H.obs.length+1)) q:=by
  intro N
  induction N with
  | zero =>
    intro q he
    have he:obO H q=none:=he
    refine ends_mono 0 _ q ?_ (by omega)
    show obO _ q=none
    rw[setO_at hil,if_neg (fun e=>by
     unfold obO at he
     rw[e] at he
     have he:H.obs[i]?=none:=he
     rw[hi] at he
     cases he)]
    exact he
  | succ N ih =>
    intro q he
    have he:obO H q=none∨∃ob,obO H q=some ob∧EndsH H N ob.proto:=he
    by_cases c:obI H q=some i
    ·have:EndsH (H.setO i { ob with proto:=p }) (H.obs.length+1) q:=Or.inr ⟨{ ob with proto:=p },by rw[setO_at hil,if_pos c],hpe⟩
     exact ends_mono _ _ _ this (by omega)
    ·rcases he with h | ⟨ob2,h1,h2⟩
     ·refine ends_mono 0 _ q ?_ (by omega)
      show obO _ q=none
      rw[setO_at hil,if_neg c]
      exact h
     ·rw[show N+1+(H.obs.length+1)=(N+(H.obs.length+1))+1 by omega]
      refine Or.inr ⟨ob2,?_,ih ob2.proto h2⟩
      rw[setO_at hil,if_neg c]
      exact h1
 intro q
 exact ends_len (hall _ q (ha q))
end Go.Proofs.YtahhionlbfhinabGreatDoor.Hp
