/- HH, HI, HJ, HK -/
import Derived.Test.YtahhionlbfhinabGreatDoorB7
import Derived.Deep.RegionWith
set_option linter.unusedVariables false
set_option linter.unusedSimpArgs false
set_option maxRecDepth 100000
set_option maxHeartbeats 40000000
namespace Go.Proofs.YtahhionlbfhinabGreatDoor.Hp
open Go.RowKit
theorem round_cnt (i:Nat)(r:List Ce.Cel×Nat):(Ce.roundD i r).2+(Ce.roundD i r).1.countP Ce.Cel.ok=r.2+r.1.countP Ce.Cel.ok∧(Ce.roundD i r).1.length=r.1.length:=by
 unfold Ce.roundD
 cases h:r.1[i]? with
 | none=>exact⟨rfl,rfl⟩
 | some c =>
   simp only
   split
   ·rename_i q
    obtain⟨hi,he⟩:=List.getElem?_eq_some_iff.1 h
    have hp:Ce.Cel.ok r.1[i]=true:=by rw[he];exact q.1
    have hpos:0<r.1.countP Ce.Cel.ok:=List.countP_pos_iff.2 ⟨_,List.getElem_mem hi,hp⟩
    refine⟨?_,by simp⟩
    simp only
    rw[List.countP_set hi,if_pos hp]
    simp only[Bool.false_eq_true,if_false]
    omega
   ·exact⟨rfl,rfl⟩
theorem rounds_cnt:∀(n i:Nat)(r:List Ce.Cel×Nat),(Ce.roundsD i n r).2+(Ce.roundsD i n r).1.countP Ce.Cel.ok=r.2+r.1.countP Ce.Cel.ok∧(Ce.roundsD i n r).1.length=r.1.length
 | 0,i,r=>⟨rfl,rfl⟩
 | n+1,i,r=>by
   rw[Ce.roundsD]
   have h1:=rounds_cnt n (i+1) (Ce.roundD i r)
   have h2:=round_cnt i r
   omega
theorem break_cnt (l:List Ce.Cel)(n:Int):(Ce.breakD l n).2+(Ce.breakD l n).1.countP Ce.Cel.ok=l.countP Ce.Cel.ok∧(Ce.breakD l n).1.length=l.length:=by
 unfold Ce.breakD
 split
 ·rename_i q
  cases h:l[n.toNat]? with
  | none=>exact⟨by simp,rfl⟩
  | some c =>
    simp only
    obtain⟨hi,he⟩:=List.getElem?_eq_some_iff.1 h
    have hp:Ce.Cel.ok l[n.toNat]=true:=by
     have:=q.2
     unfold Ce.okAt at this
     rw[h] at this
     rw[he]
     simpa using this
    have hpos:0<l.countP Ce.Cel.ok:=List.countP_pos_iff.2 ⟨_,List.getElem_mem hi,hp⟩
    have h1:=rounds_cnt (l.length - (n.toNat+1)) (n.toNat+1) (l.set n.toNat ⟨false,c.on⟩,1)
    simp only at h1
    rw[List.countP_set hi,if_pos hp,List.length_set] at h1
    simp only[Bool.false_eq_true,if_false] at h1
    omega
 ·exact⟨by simp,rfl⟩
section
variable {w w' w1:World}{B hb:Nat}{O S:Nat→Prop}{H H':He}{M M':HV}{tg:Nat→Nat}
def WentM (w:World)(B hb:Nat)(tg:Nat→Nat)(H:He)(M:HV)(w':World):Prop:=∃tg',HeapAt w' B hb tg' H M∧Chg (fun b=>tg b≠0) w w'∧∀b,tg' b≠0→tg b≠0∨w.heap.size≤b
theorem WentM.same (h:HeapAt w B hb tg H M)(hb':Below w.heap.size w w'):WentM w B hb tg H M w':=⟨tg,h.below hb',Chg.of_below hb',fun b q=>Or.inl q⟩
theorem WentM.behind (hb':Below w.heap.size w w1)(h:WentM w1 B hb tg H M w'):WentM w B hb tg H M w':=by
 obtain⟨O',g1,g2,g3⟩:=h
 exact⟨O',g1,(Chg.of_below hb').trans g2 (fun _ _ q=>q),fun b q=>(g3 b q).imp id (fun q=>Nat.le_trans hb'.size q)⟩
theorem WentM.trans (h:WentM w B hb tg H M w1)(k:∀tg',HeapAt w1 B hb tg' H M→WentM w1 B hb tg' H' M' w'):WentM w B hb tg H' M' w':=by
 obtain⟨O1,h1,h2,h3⟩:=h
 obtain⟨O2,k1,k2,k3⟩:=k O1 h1
 refine⟨O2,k1,h2.trans k2 (fun i hi q => ?_),fun b q => ?_⟩
 ·rcases h3 i q with c | c
  ·exact c
  ·omega
 ·rcases k3 b q with c | c
  ·exact h3 b c
  ·exact Or.inr (Nat.le_trans h2.size c)
theorem HeapAt.wentM (h:HeapAt w B hb tg H M){k0:Nat}(hc:Chg S w w')(hS:∀b,b<w.heap.size→S b→tg b≠0)(h':HeapAt w' B hb (rtg tg w.heap.size w'.heap.size k0) H' M'):WentM w B hb tg H' M' w':=by
 refine⟨_,h',⟨hc.os,hc.tape,hc.output,hc.size,fun k hk hn=>hc.block k hk (fun s=>hn (hS k hk s))⟩,fun b q => ?_⟩
 by_cases c:b<w.heap.size
 ·rw[rtg_old c] at q
  exact Or.inl q
 ·exact Or.inr (by omega)
theorem HeapAt.wentF (h:HeapAt w B hb tg H M)(hc:Chg S w w')(hS:∀b,S b→tg b≠0)(h':HeapAt w' B hb tg H' M'):WentM w B hb tg H' M' w' :=
 ⟨_,h',hc.mono hS,fun b q=>Or.inl q⟩
theorem HeapAt.tree (h:HeapAt w B hb tg H M){Ot:Nat→Prop}{L':List Sp.Sh}(hO:∀b,Ot b→tg b=5)(hw:Sp.Went w B M.tb Ot H.most L' w'):WentM w B hb tg { H with L:=L' } M w'∧Chg (fun b=>tg b=5) w w':=by
 obtain⟨O',k1,k2,k3⟩:=hw
 have hc:Chg (fun b=>tg b=5) w w':=k2.mono hO
 refine⟨h.wentM (k0:=5) hc (fun b _ q=>by omega) ?_,hc⟩
 refine h.up (H':={ H with L:=L' }) (M':=M) hc (fun k=>k=5) 5 (fun b _ q=>⟨q,by omega⟩) (fun k q => ?_) (fun k O q hk => ?_) h.len ⟨h.wf.ob,h.wf.ol,h.wf.tn,h.wf.ts,h.wf.tl,h.wf.mo,h.wf.br⟩
 ·subst q
  refine⟨O',k1,fun b q => ?_⟩
  have hl:=k1.lt b q
  show rtg _ _ _ _ _=5
  rcases k3 b q with c | c
  ·have:=h.lt b (by have:=hO b c;omega)
   rw[rtg_old this.2]
   exact hO b c
  ·rw[rtg_new c hl.2]
 ·match k,hk,q with
  | 0,hk,q=>trivial
  | 1,hk,q=>exact hk
  | 2,hk,q=>exact hk
  | 3,hk,q=>exact hk
  | 4,hk,q=>exact hk
  | 5,hk,q=>exact absurd rfl q
  | 6,hk,q=>exact hk
  | k+7,hk,q=>exact hk
theorem HeapAt.cels (h:HeapAt w B hb tg H M){Oc:Nat→Prop}{n:Int}(hO:∀b,Oc b→tg b=6)(hw:Ce.Went w B M.cb Oc (Ce.breakD H.C n).1 w'):WentM w B hb tg { H with C:=(Ce.breakD H.C n).1,br:=H.br+((Ce.breakD H.C n).2:Int) } M (w'.setCell ⟨hb,5,none⟩ (.int .i64 (H.br+((Ce.breakD H.C n).2:Int)))):=by
 obtain⟨O',k1,k2,k3⟩:=hw
 have hB0:=h.B0
 have hc:Chg (fun b=>tg b=6∨b=hb) w (w'.setCell ⟨hb,5,none⟩ (.int .i64 (H.br+((Ce.breakD H.C n).2:Int)))):=(k2.mono (S':=fun b=>tg b=6∨b=hb) (fun b q=>Or.inl (hO b q))).trans (Chg.set (S:=fun b=>b=hb) w' ⟨hb,5,none⟩ _ rfl) (fun b _ q=>Or.inr q)
 have hsz:(w'.setCell ⟨hb,5,none⟩ (.int .i64 (H.br+((Ce.breakD H.C n).2:Int)))).heap.size=w'.heap.size:=by simp
 have hset:Chg (fun b=>b=hb) w' (w'.setCell ⟨hb,5,none⟩ (.int .i64 (H.br+((Ce.breakD H.C n).2:Int)))):=Chg.set (S:=fun b=>b=hb) w' ⟨hb,5,none⟩ _ rfl
 have hcnt:=break_cnt H.C n
 have hbr:=h.wf.br
 refine h.wentM (k0:=6) hc (fun b _ q=>by rcases q with q | q;omega;rw[q];omega) ?_
 refine h.up (H':={ H with C:=(Ce.breakD H.C n).1,br:=H.br+((Ce.breakD H.C n).2:Int) }) (M':=M) hc (fun k=>k=6∨k=1) 6 (fun b _ q=>by rcases q with q | q;exact⟨Or.inl q,by omega⟩;exact⟨Or.inr (by rw[q];exact hB0.1),by rw[q];omega⟩) (fun k q => ?_) (fun k O q hk => ?_) h.len ⟨h.wf.ob,h.wf.ol,h.wf.tn,h.wf.ts,h.wf.tl,h.wf.mo,by simp only;omega⟩
 ·rw[hsz]
  rcases q with rfl | rfl
  ·have hne:¬O' hb:=fun q=>by
    rcases k3 hb q with c | c
    ·have:=hO hb c;omega
    ·omega
   refine⟨O',k1.kept hset (fun b q e=>by rw[show b=hb from e] at q;exact hne q),fun b q => ?_⟩
   have hl:=k1.lt b q
   show rtg _ _ _ _ _=6
   rcases k3 b q with c | c
   ·have:=h.lt b (by have:=hO b c;omega)
    rw[rtg_old this.2]
    exact hO b c
   ·rw[rtg_new c hl.2]
  ·refine⟨by show rtg _ _ _ _ _=1;rw[rtg_old hB0.2.1];exact hB0.1,?_⟩
   have hbx:w'.heap[hb]?=some (.cells (hpC H M) 104 (0,0)):=by
    rw[k2.block hb hB0.2.1 (fun q=>by have:=hO hb q;omega)]
    exact(h.prt 1).2
   exact heap_setCell_same w' hb 5 _ _ _ hbx
 ·match k,hk,q with
  | 0,hk,q=>trivial
  | 1,hk,q=>exact absurd (Or.inr rfl) q
  | 2,hk,q=>exact hk
  | 3,hk,q=>exact hk
  | 4,hk,q=>exact hk
  | 5,hk,q=>exact hk
  | 6,hk,q=>exact absurd (Or.inl rfl) q
  | k+7,hk,q=>exact hk
end
def touchH (H:He)(n:Int):He:={ H with C:=(Ce.breakD H.C n).1,br:=H.br+((Ce.breakD H.C n).2:Int) }
section
variable {w w' w1:World}{B hb:Nat}{O S:Nat→Prop}{H H':He}{M M':HV}{tg:Nat→Nat}
theorem touch_at (h:HeapAt w B hb tg H M){i g cap:Nat}{ob:Ob}(hi:H.obs[i]?=some ob)(hvo:M.vo=⟨some ⟨g,0,none⟩,H.obs.length,cap⟩) :
  Calls Tryz.prog 98 #[.pointer (some ⟨hb,0,none⟩),.pointer (some ⟨g,i*12,none⟩)] w fun e w'=>e = .returned (.tuple #[])∧WentM w B hb tg (touchH H ob.cell) M w':=by
 obtain⟨g',cap',ov,hvo',hov,t4,hne,hgl,hcell,hfz,hl1,hl2,hrow⟩:=h.obj hi
 rw[hvo] at hvo'
 injection hvo' with e1 e2 e3
 injection e1 with e1
 injection e1 with e1
 subst e1
 obtain⟨c0,c1,c2,c3,c4,c5,fz⟩:=h.box
 have d11:=hcell 11 _ rfl
 simp only at d11
 obtain⟨Oc,hcs,hOc⟩:=h.prt 6
 have hcs2:Ce.Cs w.drew B M.cb Oc H.C:=hcs.below ((Below.refl _ _).drew)
 have kb:=Ce.break_any w.drew B M.cb Oc H.C hcs2 ob.cell
 have hbr:=h.wf.br
 have hcnt:=break_cnt H.C ob.cell
 have hlen:H.C.length≤Ce.top:=by obtain⟨E,v,_,_,_,q⟩:=hcs;exact q
 have hB0:=h.B0
 have HW:Hid (∀w5,Ce.Went w.drew B M.cb Oc (Ce.breakD H.C ob.cell).1 w5→WentM w B hb tg (touchH H ob.cell) M (w5.setCell ⟨hb,5,none⟩ (.int .i64 (H.br+((Ce.breakD H.C ob.cell).2:Int))))∧w5.cell? ⟨hb,5,none⟩=some (.int .i64 H.br)∧w5.frozen? ⟨hb,5,none⟩=false):=fun w5 q=>by
  have hd:HeapAt w.drew B hb tg H M:=h.below ((Below.refl _ _).drew)
  refine⟨WentM.behind ((Below.refl _ _).drew) (hd.cels hOc q),?_⟩
  obtain⟨O',k1,k2,k3⟩:=q
  have hn:¬Oc hb:=fun q=>by have:=hOc hb q;omega
  exact⟨k2.cell (a:=⟨hb,5,none⟩) c5 hn,by rw[World.frozen?_of_block (w:=w.drew) (k2.block hb hB0.2.1 hn)];exact fz 5⟩
 have hw1:IntKind.i64.wrap (H.br+((Ce.breakD H.C ob.cell).2:Int))=H.br+((Ce.breakD H.C ob.cell).2:Int):=by
  unfold Ce.top at hlen
  rw[IntKind.wrap_i64]
  omega
 generalize ob.cell=n at *
 generalize touchH H n=HT at *
 generalize ((Ce.breakD H.C n).2:Int)=x at *
 generalize (Ce.breakD H.C n).1=C1 at *
 generalize H.br=br at *
 generalize M.cb=cb at *
 have f5:=fz 5
 clear h hi hvo hov t4 hgl hcell hfz hl1 hl2 hrow c0 c1 c2 c3 hcs hcs2 hOc hbr hcnt hlen hB0 fz e2 e3
 go_enter Tryz.func98,Tryz.ntmps98
 go_wp2_with fail
 first
 | (go_region_with ((go_at_call 114;refine kb.mono ?_;rintro e w5 ⟨rfl,hq⟩;have HX:=HW.out w5 hq;have HY:Hid (WentM w B hb tg HT M (w5.setCell ⟨hb,5,none⟩ (.int .i64 (br+x)))):=HX.1;have m5:=HX.2.1;have n5:=HX.2.2;clear hq HX)))
 | fail
 all_goals
  go_wp2_with fail
  go_end0
  exact⟨rfl,HY.out⟩
end
def mayB (H:He)(p:Int):Bool:=(p == nulW) || (obI H p).isSome
def raiseH (H:He)(p:Int):He :=
 match obI H p with
 | none=>H
 | some j=>match H.obs[j]? with
   | none=>H
   | some ob=>{ H with obs:=H.obs.set j { ob with above:=true } }
def rootN (kind proto:Int):Int:=(proto*8+kind) % 18446744073709551616
theorem obI_at {H:He}{o:Int}{i:Nat}(h:obI H o=some i):∃ob,H.obs[i]?=some ob:=⟨_,List.getElem?_eq_getElem (obI_some h).2.2.1⟩
section
variable {w w' w1:World}{B hb:Nat}{O S:Nat→Prop}{H H':He}{M M':HV}{tg:Nat→Nat}
theorem mayBe_at (h:HeapAt w B hb tg H M)(p:Int)(p0:0≤p)(p1:p<18446744073709551616) :
  Calls Tryz.prog 48 #[.pointer (some ⟨hb,0,none⟩),.int .u64 p] w fun e w'=>e = .returned (.bool (mayB H p))∧w'=w:=by
 unfold mayB
 by_cases c:p=nulW
 ·have c1:(p == nulW)=true:=by simpa using c
  rw[c1,Bool.true_or]
  have c2:(p == 18445336698825998337)=true:=c1
  clear c1 c h
  go_enter Tryz.func48,Tryz.ntmps48
  go_wp2_with fail
  go_ret
  exact⟨rfl,rfl⟩
 ·have c1:(p == nulW)=false:=by simpa using c
  rw[c1,Bool.false_or]
  have c2:(p == 18445336698825998337)=false:=c1
  cases hi:obI H p with
  | none =>
    have ka:=at_miss h p p0 p1 hi
    clear h hi c c1
    go_enter Tryz.func48,Tryz.ntmps48
    go_wp2_with fail
    refine ka.mono ?_
    rintro e w2 ⟨rfl,rfl⟩
    clear ka
    go_wp2_with fail
    go_ret
    exact⟨rfl,rfl⟩
  | some i =>
    obtain⟨ob,hob⟩:=obI_at hi
    obtain⟨g,cap,ov,hvo,_⟩:=h.obj hob
    have ka:=at_hit h p p0 p1 i g cap hi hvo
    clear h hi c c1 hvo hob
    go_enter Tryz.func48,Tryz.ntmps48
    go_wp2_with fail
    refine ka.mono ?_
    rintro e w2 ⟨rfl,rfl⟩
    clear ka
    go_wp2_with fail
    go_ret
    exact⟨rfl,rfl⟩
theorem raise_at (h:HeapAt w B hb tg H M)(p:Int)(p0:0≤p)(p1:p<18446744073709551616) :
  Calls Tryz.prog 50 #[.pointer (some ⟨hb,0,none⟩),.int .u64 p] w fun e w'=>e = .returned (.tuple #[])∧WentM w B hb tg (raiseH H p) M w':=by
 unfold raiseH
 cases hi:obI H p with
 | none =>
   have ka:=at_miss h p p0 p1 hi
   have HW:Hid (WentM w B hb tg H M w):=WentM.same h (Below.refl _ _)
   simp only
   clear h hi
   go_enter Tryz.func50,Tryz.ntmps50
   go_wp2_with fail
   refine ka.mono ?_
   rintro e w2 ⟨rfl,rfl⟩
   clear ka
   go_wp2_with fail
   go_end0
   exact⟨rfl,HW.out⟩
 | some i =>
   obtain⟨ob,hob⟩:=obI_at hi
   simp only[hob]
   obtain⟨g,cap,ov,hvo,hov,t4,hne,hgl,hcell,hfz,hl1,hl2,hrow⟩:=h.obj hob
   have ka:=at_hit h p p0 p1 i g cap hi hvo
   have hwf:=h.wf.ob ob (List.mem_of_getElem? hob)
   have hf:=h.fld hob hov hvo { ob with above:=true } (j:=3) (u := .bool true) (by omega) rfl rfl rfl rfl ⟨hwf.kd,hwf.pr,hwf.ks,hwf.fl,hwf.nx,hwf.el,hwf.inn⟩
   have HW:Hid (WentM w B hb tg { H with obs:=H.obs.set i { ob with above:=true } } M (w.setCell ⟨g,i*12+3,none⟩ (.bool true))):=h.wentF hf.2 (fun b q=>by omega) hf.1
   have d3:=hcell 3 _ rfl
   have f3:=hfz (i*12+3)
   simp only at d3
   generalize { H with obs:=H.obs.set i { ob with above:=true } }=H1 at *
   clear h hi hob hvo hov t4 hne hgl hcell hfz hl1 hl2 hrow hwf hf
   go_enter Tryz.func50,Tryz.ntmps50
   go_wp2_with fail
   refine ka.mono ?_
   rintro e w2 ⟨rfl,rfl⟩
   clear ka
   go_wp2_with fail
   go_end0
   exact⟨rfl,HW.out⟩
theorem rootOf_any (w:World)(k p:Int)(k0:0≤k)(k6:k≤6)(p0:0≤p)(p1:p<18446744073709551616) :
  Calls Tryz.prog 52 #[.int .i64 k,.int .u64 p] w fun e w'=>e = .returned (.int .u64 (rootN k p))∧w'=w:=by
 have h1:IntKind.u64.wrap (p*8)=p*8 % 18446744073709551616:=IntKind.wrap_u64 _
 have h2:IntKind.u64.wrap k=k:=by rw[IntKind.wrap_u64];omega
 have h3:IntKind.u64.wrap (p*8 % 18446744073709551616+k)=rootN k p:=by unfold rootN;rw[IntKind.wrap_u64];omega
 generalize rootN k p=r at *
 generalize p*8 % 18446744073709551616=q at *
 go_enter Tryz.func52,Tryz.ntmps52
 go_wp2
 go_ret
 exact⟨rfl,rfl⟩
theorem raise_len (H:He)(p:Int):(raiseH H p).obs.length=H.obs.length∧(raiseH H p).L=H.L∧(raiseH H p).most=H.most:=by
 unfold raiseH
 cases obI H p with
 | none=>exact⟨rfl,rfl,rfl⟩
 | some j =>
   simp only
   cases H.obs[j]? with
   | none=>exact⟨rfl,rfl,rfl⟩
   | some ob=>exact⟨by simp,rfl,rfl⟩
theorem HeapAt.push (h:HeapAt w B hb tg H M){w5:World}{g5 cap5:Nat}{ob:Ob}(ho:OwnR obC 12 96 B w5 (.slice (some ⟨g5,0,none⟩) (H.obs.length+1) cap5) (H.obs.zip M.ovs++[(ob,OV.none)]))(hc:Chg (fun b=>M.vo.val.ownBlock=some b) w w5)(hg:M.vo.val.ownBlock=some g5∨w.heap.size≤g5)(h1:ob.ps=[])(h2:ob.el=[])(h3:ob.inn=[])(hwf:ob.wf)(hl:H.obs.length+1≤65536)(h4:ob.hm=false:=by rfl) :
  WentM w B hb tg { H with obs:=H.obs++[ob] } { M with vo:=⟨some ⟨g5,0,none⟩,H.obs.length+1,cap5⟩,ovs:=M.ovs++[OV.none] } (w5.setCell ⟨hb,2,none⟩ (.slice (some ⟨g5,0,none⟩) (H.obs.length+1) cap5)):=by
 have hp:RowIn obC 12 _ B w _ M.vo (H.obs.zip M.ovs):=h.prt 4
 have hB0:=h.B0
 have t4:∀b,M.vo.val.ownBlock=some b→tg b=4:=hp.2
 have hnb:g5≠hb:=fun e=>by
  rcases hg with q | q
  ·have:=t4 g5 q;rw[e] at this;omega
  ·omega
 have hset:Chg (fun b=>b=hb) w5 (w5.setCell ⟨hb,2,none⟩ (.slice (some ⟨g5,0,none⟩) (H.obs.length+1) cap5)):=Chg.set (S:=fun b=>b=hb) w5 ⟨hb,2,none⟩ _ rfl
 have hcc:Chg (fun b=>tg b=4∨b=hb) w (w5.setCell ⟨hb,2,none⟩ (.slice (some ⟨g5,0,none⟩) (H.obs.length+1) cap5)):=(hc.mono (S':=fun b=>tg b=4∨b=hb) (fun b q=>Or.inl (t4 b q))).trans hset (fun b _ q=>Or.inr q)
 have hsz:(w5.setCell ⟨hb,2,none⟩ (.slice (some ⟨g5,0,none⟩) (H.obs.length+1) cap5)).heap.size=w5.heap.size:=by simp
 have hg5:g5<w5.heap.size:=(ho.lt g5 rfl).2
 refine h.wentM (k0:=4) hcc (fun b _ q=>by rcases q with q | q;omega;rw[q];omega) ?_
 refine h.up (H':={ H with obs:=H.obs++[ob] }) (M':={ M with vo:=⟨some ⟨g5,0,none⟩,H.obs.length+1,cap5⟩,ovs:=M.ovs++[OV.none] }) hcc (fun k=>k=4∨k=1) 4 (fun b _ q=>by rcases q with q | q;exact⟨Or.inl q,by omega⟩;exact⟨Or.inr (by rw[q];exact hB0.1),by rw[q];omega⟩) (fun k q => ?_) (fun k O q hk => ?_) (by simp[h.len]) ⟨?_,by simp only[List.length_append,List.length_singleton];exact hl,h.wf.tn,h.wf.ts,h.wf.tl,h.wf.mo,h.wf.br⟩
 ·rw[hsz]
  rcases q with rfl | rfl
  ·have hz:(H.obs++[ob]).zip (M.ovs++[OV.none])=H.obs.zip M.ovs++[(ob,OV.none)]:=by
    rw[List.zip_append h.len.symm]
    rfl
   refine⟨?_,fun b q => ?_⟩
   ·show OwnR obC 12 _ B _ (.slice (some ⟨g5,0,none⟩) (H.obs.length+1) cap5) ((H.obs++[ob]).zip (M.ovs++[OV.none]))
    rw[hz]
    exact ho.set (a:=⟨hb,2,none⟩) (fun b q=>by simp[Value.ownBlock] at q;subst q;exact hnb) _
   ·have hbg:b=g5:=by simpa [SV.val,Value.ownBlock] using q.symm
    subst hbg
    show rtg _ _ _ _ _=4
    by_cases c:b<w.heap.size
    ·rw[rtg_old c]
     rcases hg with q | q
     ·exact t4 b q
     ·omega
    ·rw[rtg_new (by omega) hg5]
  ·refine⟨by show rtg _ _ _ _ _=1;rw[rtg_old hB0.2.1];exact hB0.1,?_⟩
   have hbx:w5.heap[hb]?=some (.cells (hpC H M) 104 (0,0)):=by
    rw[hc.block hb hB0.2.1 (fun q=>by have:=t4 hb q;omega)]
    exact(h.prt 1).2
   exact heap_setCell_same w5 hb 2 _ _ _ hbx
 ·match k,hk,q with
  | 0,hk,q=>trivial
  | 1,hk,q=>exact absurd (Or.inr rfl) q
  | 2,hk,q=>exact hk
  | 3,hk,q=>exact hk
  | 4,hk,q=>exact absurd (Or.inl rfl) q
  | 5,hk,q=>exact hk
  | 6,hk,q=>exact hk
  | k+7,hk,q =>
    intro ob1 ov1 e1 e2
    have e1':(H.obs++[ob])[k / 4]?=some ob1:=e1
    have e2':(M.ovs++[OV.none])[k / 4]?=some ov1:=e2
    by_cases c:k / 4<H.obs.length
    ·rw[List.getElem?_append_left c] at e1'
     rw[List.getElem?_append_left (by rw[h.len];exact c)] at e2'
     exact hk ob1 ov1 e1' e2'
    ·have hk2:k / 4=H.obs.length:=by
      have:=(List.getElem?_eq_some_iff.1 e1').1
      rw[List.length_append,List.length_singleton] at this
      omega
     rw[hk2,List.getElem?_append_right (Nat.le_refl _),Nat.sub_self] at e1'
     rw[hk2,←h.len,List.getElem?_append_right (Nat.le_refl _),Nat.sub_self] at e2'
     simp at e1' e2'
     subst e1' e2'
     have hnil:∀b,SV.nil.val.ownBlock=some b→O b:=fun b q=>by simp[SV.nil,SV.val,Value.ownBlock] at q
     generalize k % 4=c4
     match c4 with
     | 0=>exact⟨by rw[h1];exact OwnR.nil _ _,hnil⟩
     | 1=>exact⟨by rw[h4];rfl,fun mb e=>by cases e⟩
     | 2=>exact⟨by rw[h2];exact OwnR.nil _ _,hnil⟩
     | _+3=>exact⟨by rw[h3];exact OwnR.nil _ _,hnil⟩
 ·intro o ho'
  rcases List.mem_append.1 ho' with q | q
  ·exact h.wf.ob o q
  ·rw[List.mem_singleton.1 q];exact hwf
end
def makeH (H:He)(kind proto:Int):He :=
 { raiseH H proto with L:=(Sp.rootD H.most H.L (rootN kind proto)).1,obs:=(raiseH H proto).obs++[⟨kind,proto,false,false,[],0,[],[],(Sp.rootD H.most H.L (rootN kind proto)).2.1,(Sp.rootD H.most H.L (rootN kind proto)).2.2,-1,false,[]⟩] }
theorem obNew_wf (kind proto sh:Int)(ok:Bool)(k0:0≤kind)(k6:kind≤6)(p0:0≤proto)(p1:proto<18446744073709551616):(⟨kind,proto,false,false,[],0,[],[],sh,ok,-1,false,[]⟩:Ob).wf :=
 ⟨⟨k0,k6⟩,⟨p0,p1⟩,fun p hp=>by simp at hp,fun p hp=>by simp at hp,by simp,by simp,by simp⟩
theorem object_wrap (n:Nat)(h:n<65536)(w:World):Calls Tryz.prog 53 #[.int .u32 (wrap64 (n:Int) % 4294967296)] w fun e w'=>e = .returned (.int .u64 (objW (n:Int)))∧w'=w:=by
 have e:wrap64 (n:Int) % 4294967296=(n:Int):=by unfold wrap64;omega
 rw[e]
 exact object_any _ w (by omega) (by omega)
def obCells (kind proto sh:Int)(ok:Bool):Array Value:=#[.int .i64 kind,.int .u64 proto,.bool false,.bool false,.slice none 0 0,.map none,.int .i64 0,.slice none 0 0,.slice none 0 0,.int .i64 sh,.bool ok,.int .i64 (-1)]
theorem make_mid {w3:World}{B hb:Nat}{tg3:Nat→Nat}{H1:He}{M:HV}(h:HeapAt w3 B hb tg3 H1 M)(kind proto:Int){wb w5:World}(hwb:wb=w3.alloc (.cells (obCells kind proto 0 false) 96)){Ot:Nat→Prop}(hO:∀b,Ot b→tg3 b=5){L':List Sp.Sh}(hw:Sp.Went wb.drew B M.tb Ot H1.most L' w5)(sh:Int)(ok:Bool) :
  w5.heap[w3.heap.size]?=some (.cells (obCells kind proto 0 false) 96 (0,0)) ∧
  ((w5.setCell ⟨w3.heap.size,9,none⟩ (.int .i64 sh)).setCell ⟨w3.heap.size,10,none⟩ (.bool ok)).heap[w3.heap.size]?=some (.cells (obCells kind proto sh ok) 96 (0,0)) ∧
  ∃tg7,HeapAt ((w5.setCell ⟨w3.heap.size,9,none⟩ (.int .i64 sh)).setCell ⟨w3.heap.size,10,none⟩ (.bool ok)) B hb tg7 { H1 with L:=L' } M∧tg7 w3.heap.size=0∧Chg (fun b=>tg3 b≠0) w3 ((w5.setCell ⟨w3.heap.size,9,none⟩ (.int .i64 sh)).setCell ⟨w3.heap.size,10,none⟩ (.bool ok))∧∀b,tg7 b≠0→tg3 b≠0∨w3.heap.size≤b:=by
 have hB:Below w3.heap.size w3 wb:=by rw[hwb];exact(Below.refl _ _).alloc (Nat.le_refl _) _
 have hbd:HeapAt wb.drew B hb tg3 H1 M:=(h.below hB).below ((Below.refl _ _).drew)
 have hx0:wb.drew.heap[w3.heap.size]?=some (.cells (obCells kind proto 0 false) 96 (0,0)):=by
  show wb.heap[w3.heap.size]?=_
  rw[hwb]
  exact at_new _ _
 have hsz:w3.heap.size<wb.drew.heap.size:=(Array.getElem?_eq_some_iff.1 hx0).1
 have hx3:tg3 w3.heap.size=0:=by
  by_cases c:tg3 w3.heap.size=0
  ·exact c
  ·have:=(h.lt _ c).2;omega
 obtain⟨⟨tg5,k1,k2,k3⟩,k4⟩:=hbd.tree hO hw
 have hx5:w5.heap[w3.heap.size]?=some (.cells (obCells kind proto 0 false) 96 (0,0)):=by
  rw[k4.block _ hsz (by omega)]
  exact hx0
 have hx5z:tg5 w3.heap.size=0:=by
  by_cases c:tg5 w3.heap.size=0
  ·exact c
  ·rcases k3 _ c with q | q
   ·exact absurd hx3 q
   ·omega
 have h9:=heap_setCell_same w5 w3.heap.size 9 _ _ (.int .i64 sh) hx5
 have h10:=heap_setCell_same (w5.setCell ⟨w3.heap.size,9,none⟩ (.int .i64 sh)) w3.heap.size 10 _ _ (.bool ok) h9
 have c9:Chg (fun b=>b=w3.heap.size) w5 ((w5.setCell ⟨w3.heap.size,9,none⟩ (.int .i64 sh)).setCell ⟨w3.heap.size,10,none⟩ (.bool ok)):=(Chg.set (S:=fun b=>b=w3.heap.size) w5 ⟨w3.heap.size,9,none⟩ _ rfl).trans (Chg.set (S:=fun b=>b=w3.heap.size) _ ⟨w3.heap.size,10,none⟩ _ rfl) (fun _ _ q=>q)
 refine⟨hx5,h10,tg5,k1.kept c9 (fun b q e=>by rw[show b=w3.heap.size from e] at q;exact q hx5z),hx5z,?_,fun b q => ?_⟩
 ·have hd:Chg (fun b=>tg3 b≠0) w3 wb.drew:=(Chg.of_below hB).drew
  refine(hd.trans k2 (fun _ _ q=>q)).trans c9 (fun b hb q => ?_)
  have q:b=w3.heap.size:=q
  omega
 ·rcases k3 b q with c | c
  ·exact Or.inl c
  ·have:wb.drew.heap.size=wb.heap.size:=rfl
   have:=hB.size
   exact Or.inr (by omega)
section
variable {w w' w1:World}{B hb:Nat}{O S:Nat→Prop}{H H':He}{M M':HV}{tg:Nat→Nat}
theorem make_hit (h:HeapAt w B hb tg H M)(kind proto:Int)(k0:0≤kind)(k6:kind≤6)(p0:0≤proto)(p1:proto<18446744073709551616)(hp:mayB H proto=true)(hroom:H.obs.length<65536) :
  Calls Tryz.prog 18 #[.pointer (some ⟨hb,0,none⟩),.int .i64 kind,.int .u64 proto] w fun e w'=>e = .returned (.tuple #[.int .u64 (objW (H.obs.length:Int)),.bool true])∧∃M',WentM w B hb tg (makeH H kind proto) M' w':=by
 have km:=mayBe_at h proto p0 p1
 rw[hp] at km
 have kd:=made_at h
 have kr:=raise_at h proto p0 p1
 have hrl:=raise_len H proto
 obtain⟨c0,c1,c2,c3,c4,c5,fz⟩:=h.box
 obtain⟨ad,cap,hv,hl1,hl2⟩:=h.vol
 rw[hv] at c2
 unfold SV.val at c2
 simp only at c2
 have hge:decide ((65536:Int)≤(H.obs.length:Int))=false:=decide_eq_false (by omega)
 have HH:Hid (HeapAt w B hb tg H M):=h
 have HR:Hid ((raiseH H proto).obs.length=H.obs.length∧(raiseH H proto).L=H.L∧(raiseH H proto).most=H.most):=hrl
 generalize hN:H.obs.length=n at *
 have HROOM:Hid (n<65536):=hroom
 have HV:Hid (M.vo=⟨ad,n,cap⟩):=hv
 have f2:=fz 2
 clear h hrl hp hroom hl1 hl2 hv fz
 go_enter Tryz.func18,Tryz.ntmps18
 go_wp2_with fail
 refine km.mono ?_
 rintro e w2 ⟨rfl,rfl⟩
 clear km
 go_wp2_with fail
 refine kd.mono ?_
 rintro e w2 ⟨rfl,rfl⟩
 clear kd
 go_wp2_with fail
 refine kr.mono ?_
 rintro e w3 ⟨rfl,hw3⟩
 have HW3:=(show Hid _ from hw3)
 clear kr hw3
 go_upto_region 7 with fail
 obtain⟨tg3,h3,ch3,nw3⟩:=HW3.out
 have HCH3:Hid (Chg (fun b=>tg b≠0) w2 w3∧∀b,tg3 b≠0→tg b≠0∨w2.heap.size≤b):=⟨ch3,nw3⟩
 obtain⟨hr1,hr2,hr3⟩:=HR.out
 clear HW3 ch3 nw3 c0 c1 c2 c3 c4 c5 f2
 generalize hH1:raiseH H proto=H1 at *
 obtain⟨c0,c1,c2,c3,c4,c5,fz⟩:=h3.box
 have hv3:=HV.out
 rw[hv3] at c2
 unfold SV.val at c2
 simp only at c2
 obtain⟨Ot,ht3,hOt⟩:=h3.prt 5
 have hOt:∀b,Ot b→tg3 b=5:=hOt
 obtain⟨wb,hwb⟩:∃wb,wb=w3.alloc (.cells (obCells kind proto 0 false) 96):=⟨_,rfl⟩
 have hB:Below w3.heap.size w3 wb:=by rw[hwb];exact(Below.refl _ _).alloc (Nat.le_refl _) _
 have HMID:Hid (∀w5,Sp.Went wb.drew B M.tb Ot H1.most (Sp.rootD H1.most H1.L (rootN kind proto)).1 w5→_):=fun w5 q=>make_mid h3 kind proto hwb hOt q (Sp.rootD H1.most H1.L (rootN kind proto)).2.1 (Sp.rootD H1.most H1.L (rootN kind proto)).2.2
 have kroot:=Sp.root_any wb.drew B M.tb Ot H1.most H1.L ((ht3.below hB).below ((Below.refl _ _).drew)) (rootN kind proto) (by unfold rootN;omega) (by unfold rootN;omega) (Or.inl (by have:=h3.wf.mo;unfold Sp.top;omega))
 have kro:=fun w=>rootOf_any w kind proto k0 k6 p0 p1
 have e3:=cells_below hB _ _ c3
 have e2:=cells_below hB _ _ c2
 have HB0:Hid (B≤w3.heap.size∧hb<w3.heap.size∧tg3 hb=1):=⟨by have:=h3.B0;omega,h3.B0.2.1,h3.B0.1⟩
 have H3:Hid (HeapAt w3 B hb tg3 H1 M):=h3
 have HTREE:Hid (∀b,Ot b→tg3 b=5):=hOt
 rw[show(w3.alloc (.cells #[.int .i64 kind,.int .u64 proto,.bool false,.bool false,.slice none 0 0,.map none,.int .i64 0,.slice none 0 0,.slice none 0 0,.int .i64 0,.bool false,.int .i64 (-1)] 96))=wb from hwb.symm]
 generalize hsh:(Sp.rootD H1.most H1.L (rootN kind proto)).2.1=sh at *
 generalize hok:(Sp.rootD H1.most H1.L (rootN kind proto)).2.2=ok at *
 generalize hL:(Sp.rootD H1.most H1.L (rootN kind proto)).1=L1 at *
 generalize hrn:rootN kind proto=rn at *
 clear h3 hOt ht3 c0 c1 c3 c4 c5 fz hv3 hB hwb c2
 first
 | (go_region_with (first | (go_at_call 52;refine(kro _).mono ?_;rintro e w4 ⟨rfl,rfl⟩) | (go_at_call 51;refine kroot.mono ?_;rintro e w5 ⟨rfl,hq⟩;have HX:=(show Hid _ from HMID.out w5 hq);have m9:w5.cell? ⟨w3.heap.size,9,none⟩=some (.int .i64 0):=cell_of_row w5 w3.heap.size 9 _ _ (0,0) HX.out.1;have m10:w5.cell? ⟨w3.heap.size,10,none⟩=some (.bool false):=cell_of_row w5 w3.heap.size 10 _ _ (0,0) HX.out.1;have n9:=frozen_of_row w5 w3.heap.size 9 _ _ HX.out.1;have n10:=frozen_of_row w5 w3.heap.size 10 _ _ HX.out.1;clear hq)))
 | fail
 all_goals
  obtain⟨hx5,hx7,tg7,h7,z7,ch7,nw7⟩:=HX.out
  clear HX hx5 m9 m10 n9 n10 HMID kroot kro e2 e3
  generalize hw7:((w5.setCell ⟨w3.heap.size,9,none⟩ (.int .i64 sh)).setCell ⟨w3.heap.size,10,none⟩ (.bool ok))=w7 at *
  clear hw7
  generalize hxb:w3.heap.size=xb at *
  have g0:w7.cell? ⟨xb,0,none⟩=some (.int .i64 kind):=cell_of_row w7 xb 0 _ _ (0,0) hx7
  have g1:w7.cell? ⟨xb,1,none⟩=some (.int .u64 proto):=cell_of_row w7 xb 1 _ _ (0,0) hx7
  have g2:w7.cell? ⟨xb,2,none⟩=some (.bool false):=cell_of_row w7 xb 2 _ _ (0,0) hx7
  have g3:w7.cell? ⟨xb,3,none⟩=some (.bool false):=cell_of_row w7 xb 3 _ _ (0,0) hx7
  have g4:w7.cell? ⟨xb,4,none⟩=some (.slice none 0 0):=cell_of_row w7 xb 4 _ _ (0,0) hx7
  have g5:w7.cell? ⟨xb,5,none⟩=some (.map none):=cell_of_row w7 xb 5 _ _ (0,0) hx7
  have g6:w7.cell? ⟨xb,6,none⟩=some (.int .i64 0):=cell_of_row w7 xb 6 _ _ (0,0) hx7
  have g7:w7.cell? ⟨xb,7,none⟩=some (.slice none 0 0):=cell_of_row w7 xb 7 _ _ (0,0) hx7
  have g8:w7.cell? ⟨xb,8,none⟩=some (.slice none 0 0):=cell_of_row w7 xb 8 _ _ (0,0) hx7
  have g9:w7.cell? ⟨xb,9,none⟩=some (.int .i64 sh):=cell_of_row w7 xb 9 _ _ (0,0) hx7
  have g10:w7.cell? ⟨xb,10,none⟩=some (.bool ok):=cell_of_row w7 xb 10 _ _ (0,0) hx7
  have g11:w7.cell? ⟨xb,11,none⟩=some (.int .i64 (-1)):=cell_of_row w7 xb 11 _ _ (0,0) hx7
  obtain⟨c0,c1,c2,c3,c4,c5,fz⟩:=h7.box
  rw[HV.out] at c2
  unfold SV.val at c2
  simp only at c2
  have hvv:M.vo.val = .slice ad n cap:=by rw[HV.out];rfl
  have hp4:RowIn obC 12 96 B w7 _ M.vo (H1.obs.zip M.ovs):=h7.prt 4
  have hown:OwnR obC 12 96 B w7 (.slice ad n cap) (H1.obs.zip M.ovs):=by rw[←hvv];exact hp4.1
  have hzl:(H1.obs.zip M.ovs).length=n:=by rw[List.length_zip,h7.len];simp only;omega
  have hb7:=h7.B0
  have HPU:Hid (∀W G C,OwnR obC 12 96 B W (.slice (some ⟨G,0,none⟩) (n+1) C) (H1.obs.zip M.ovs++[((⟨kind,proto,false,false,[],0,[],[],sh,ok,-1,false,[]⟩:Ob),OV.none)])→Chg (fun b=>(Value.slice ad n cap).ownBlock=some b) w7 W→((Value.slice ad n cap).ownBlock=some G∨w7.heap.size≤G)→∃M',WentM w2 B hb tg (makeH H kind proto) M' (W.setCell ⟨hb,2,none⟩ (.slice (some ⟨G,0,none⟩) (n+1) C))∧(W.setCell ⟨hb,2,none⟩ (.slice (some ⟨G,0,none⟩) (n+1) C)).cell? ⟨hb,2,none⟩=some (.slice (some ⟨G,0,none⟩) (n+1) C)):=fun W G C q1 q2 q3=>by
   have hH:makeH H kind proto={ { H1 with L:=L1 } with obs:=({ H1 with L:=L1 }:He).obs++[((⟨kind,proto,false,false,[],0,[],[],sh,ok,-1,false,[]⟩:Ob),OV.none).1] }:=by
    unfold makeH
    rw[hH1,hrn,←hr2,←hr3,hL,hsh,hok]
   rw[hH]
   refine⟨{ M with vo:=⟨some ⟨G,0,none⟩,n+1,C⟩,ovs:=M.ovs++[OV.none] },?_,?_⟩
   ·exact WentM.trans ⟨tg7,h7,HCH3.out.1.trans ch7 (fun b hb q=>by rcases HCH3.out.2 b q with c | c;exact c;omega),fun b q=>by rcases nw7 b q with c | c;exact HCH3.out.2 b c;exact Or.inr (by have:=HCH3.out.1.size;omega)⟩ (fun tgy hy=>by
     have hpw2:=hy.push (w5:=W) (g5:=G) (cap5:=C) (ob:=((⟨kind,proto,false,false,[],0,[],[],sh,ok,-1,false,[]⟩:Ob),OV.none).1) (by rw[show({ H1 with L:=L1 }:He).obs.length=n from hr1];exact q1) (by rw[hvv];exact q2) (by rw[hvv];exact q3) rfl rfl rfl (obNew_wf kind proto sh ok k0 k6 p0 p1) (by rw[show({ H1 with L:=L1 }:He).obs.length=n from hr1];have:=HROOM.out;omega)
     rw[show({ H1 with L:=L1 }:He).obs.length=n from hr1] at hpw2
     exact hpw2)
   ·have hbx:W.heap[hb]?=some (.cells (hpC { H1 with L:=L1 } M) 104 (0,0)):=by
     rw[q2.block hb hb7.2.1 (fun q=>by rw[←hvv] at q;have:=hp4.2 hb q;have t1:=hb7.1;rw[this] at t1;cases t1)]
     exact(h7.prt 1).2
    rw[cell_of_row _ hb 2 _ _ (0,0) (heap_setCell_same W hb 2 _ _ (.slice (some ⟨G,0,none⟩) (n+1) C) hbx)]
    rfl
  have HFZ:Hid (∀W,Chg (fun b=>(Value.slice ad n cap).ownBlock=some b) w7 W→W.cell? ⟨hb,2,none⟩=some (.slice ad n cap)∧W.frozen? ⟨hb,2,none⟩=false):=fun W q=>by
   have hn:¬(Value.slice ad n cap).ownBlock=some hb:=fun q=>by rw[←hvv] at q;have:=hp4.2 hb q;have t1:=hb7.1;rw[this] at t1;cases t1
   exact⟨q.cell c2 hn,by rw[World.frozen?_of_block (w:=w7) (q.block hb hb7.2.1 hn)];exact fz 2⟩
  have f2:=fz 2
  have hne:¬hb=w7.heap.size:=by omega
  have hnx:¬xb=w7.heap.size:=by have:=(Array.getElem?_eq_some_iff.1 hx7).1;omega
  have HAL:Hid (Below w7.heap.size w7 (w7.drew.alloc (.cells #[.int .i64 kind,.int .u64 proto,.bool false,.bool false,.slice none 0 0,.map none,.int .i64 0,.slice none 0 0,.slice none 0 0,.int .i64 sh,.bool ok,.int .i64 (-1)] 96))):=((Below.refl w7.heap.size w7).drew).alloc (Nat.le_refl _) _
  have g12:(w7.alloc (.cells #[.int .i64 kind,.int .u64 proto,.bool false,.bool false,.slice none 0 0,.map none,.int .i64 0,.slice none 0 0,.slice none 0 0,.int .i64 sh,.bool ok,.int .i64 (-1)] 96)).cell? ⟨hb,2,none⟩=some (.slice ad n cap):=cells_below ((Below.refl w7.heap.size w7).alloc (Nat.le_refl _) _) _ _ c2
  have HOW:Hid (OwnR obC 12 96 B (w7.drew.alloc (.cells #[.int .i64 kind,.int .u64 proto,.bool false,.bool false,.slice none 0 0,.map none,.int .i64 0,.slice none 0 0,.slice none 0 0,.int .i64 sh,.bool ok,.int .i64 (-1)] 96)) (.slice ad n cap) (H1.obs.zip M.ovs)):=hown.below HAL.out
  have HBB:Hid (B≤w7.heap.size):=by show _≤_;omega
  have HBX:Hid ((((H1.obs.zip M.ovs).length+1)+((H1.obs.zip M.ovs).length+1) / 4+192)*136≤281474976710656∧(H1.obs.zip M.ovs).length+1≤maxLen):=by
   have:=HROOM.out
   rw[hzl]
   refine⟨by omega,by unfold maxLen;omega⟩
  have HZL:Hid ((H1.obs.zip M.ovs).length=n):=hzl
  have HN:Hid (n<65536):=HROOM.out
  have hn1:IntKind.i64.wrap ((n:Int)+1 - 1)=(n:Int):=by rw[IntKind.wrap_i64];have:=HROOM.out;omega
  have hn2:IntKind.u32.wrap (n:Int)=(n:Int):=by rw[IntKind.wrap_u32];have:=HROOM.out;omega
  have kobj:=fun w=>object_wrap n HROOM.out w
  clear hx7 h7 z7 ch7 nw7 c0 c1 c3 c4 c5 fz hp4 hown hzl hb7 hvv hr1 hr2 hr3 hH1 hsh hok hL hrn HR HCH3 HB0 H3 HTREE HV HH
  go_upto_region 8 with fail
  generalize hps:H1.obs.zip M.ovs=ps at *
  clear hps
  go_region_law ((refine step_row rtOb (by rfl) _ _ (by rfl) B (.slice ad n cap) ps (by rfl) (by exact HOW.out) w7.heap.size ((⟨kind,proto,false,false,[],0,[],[],sh,ok,-1,false,[]⟩:Ob),OV.none) #[.int .i64 kind,.int .u64 proto,.bool false,.bool false,.slice none 0 0,.map none,.int .i64 0,.slice none 0 0,.slice none 0 0,.int .i64 sh,.bool ok,.int .i64 (-1)] 96 (by rfl) (by exact at_new _ _) (by rfl) (by exact HBX.out.2) (by exact HBX.out.1) (by exact Nat.le_trans HBB.out HAL.out.size) ?_;intro g5 cap5 w9 ho5 hg5 hl5;rw[HZL.out] at ho5 ⊢;have HO:Hid (OwnR obC 12 96 B w9 (.slice (some ⟨g5,0,none⟩) (n+1) cap5) (ps++[((⟨kind,proto,false,false,[],0,[],[],sh,ok,-1,false,[]⟩:Ob),OV.none)])∧Chg (fun b=>(Value.slice ad n cap).ownBlock=some b) w7 w9∧((Value.slice ad n cap).ownBlock=some g5∨w7.heap.size≤g5)):=⟨ho5,(Chg.of_below HAL.out).trans (Chg.of_grown (S:=fun b=>(Value.slice ad n cap).ownBlock=some b) hg5 (fun k q=>q)) (fun _ _ q=>q),hl5.imp id (fun q=>by rw[q];exact HAL.out.size)⟩;obtain⟨z1,z2⟩:=HFZ.out w9 HO.out.2.1;clear ho5 hg5 hl5))
  all_goals
   obtain⟨M',hW,hc2⟩:=HPU.out w9 g5 cap5 HO.out.1 HO.out.2.1 HO.out.2.2
   have HWW:=(show Hid (WentM w2 B hb tg (makeH H kind proto) M' _) from hW)
   clear hW HO HFZ HOW HBB HAL HPU z1 z2 HBX HZL
   generalize (w9.setCell ⟨hb,2,none⟩ (.slice (some ⟨g5,0,none⟩) (n+1) cap5))=w10 at *
   go_wp2_with fail
   refine(kobj _).mono ?_
   rintro e w11 ⟨rfl,rfl⟩
   clear kobj
   go_wp2_with fail
   go_ret2
   exact⟨rfl,M',by first | exact HWW.out | exact HWW.out.drew⟩
end
end Go.Proofs.YtahhionlbfhinabGreatDoor.Hp
