/- UF, UG, UH, UI, MO, MP, IG, IH -/
import Derived.Test.YtahhionlbfhinabGreatDoorUE
import Derived.Test.YtahhionlbfhinabGreatDoorB12
import Derived.Test.YtahhionlbfhinabGreatDoorB16
import Derived.Test.YtahhionlbfhinabGreatDoorB14
import Derived.Test.YtahhionlbfhinabGreatDoorB10
import Derived.Test.YtahhionlbfhinabGreatDoorB9
set_option linter.unusedVariables false
set_option linter.unusedSimpArgs false
set_option maxRecDepth 100000
set_option maxHeartbeats 40000000
namespace Go.Proofs.YtahhionlbfhinabGreatDoor.Hp
open Go.RowKit
section
variable {w W W' w' w1:World}{B b:Nat}{tg:Nat→Nat}{S S':List So}{vo vt:SV}{qs:List QV}{i:Nat}{x x':So}{q:QV}
theorem rrepro_miss (h:StAt w B tg S vo qs)(vt:SV)(p:Int)(o:Int)(o0:0≤o)(o1:o<18446744073709551616)(hm:obS S o=none) :
  Calls Tryz.prog 77 #[stV vo vt,.int .u64 o,.int .u64 p] w fun e w'=>e = .returned (stV vo vt)∧SWent w B tg S vo w':=by
 obtain⟨wb,hwb⟩:∃wb,wb=(w.alloc (.cells #[vo.val,vt.val] 33)).alloc (.cells #[.slice none 0 0,.slice none 0 0] 33):=⟨_,rfl⟩
 obtain⟨hbs,hbr,hB⟩:=boxS2 w vo vt
 rw[←hwb] at hbs hbr hB
 have ka:=rat_miss (h.below hB) vt o o0 o1 hm
 have HBS:Hid (∀W,Below wb.heap.size wb W→W.cell? ⟨w.heap.size,0,none⟩=some vo.val∧W.cell? ⟨w.heap.size,1,none⟩=some vt.val):=fun W r=>(hbs.below r).ce
 have HE:Hid (∀W,Below wb.heap.size wb W→BxS W (w.heap.size+1) .nil .nil∧BxS ((W.setCell ⟨w.heap.size+1,0,none⟩ vo.val).setCell ⟨w.heap.size+1,1,none⟩ vt.val) (w.heap.size+1) vo vt∧SWent w B tg S vo ((W.setCell ⟨w.heap.size+1,0,none⟩ vo.val).setCell ⟨w.heap.size+1,1,none⟩ vt.val)):=fun W r=>st_res h (bel_sm' hB r) (hbr.below r) (SWent.same (h.below (bel_sm' hB r)) (Below.refl _ _)) vt
 obtain⟨b0,b1⟩:=hbs.ce
 obtain⟨va,vl,vc⟩:=vo
 obtain⟨ta,tl,tc⟩:=vt
 rw[show(SV.mk va vl vc).val = .slice va vl vc from rfl,show(SV.mk ta tl tc).val = .slice ta tl tc from rfl] at HBS HE hwb
 rw[show(SV.mk va vl vc).val = .slice va vl vc from rfl] at b0
 rw[show(SV.mk ta tl tc).val = .slice ta tl tc from rfl] at b1
 unfold stV at ka ⊢
 rw[show(SV.mk va vl vc).val = .slice va vl vc from rfl,show(SV.mk ta tl tc).val = .slice ta tl tc from rfl] at ka ⊢
 clear h hB hbs hbr hm
 go_enter Tryz.func77,Tryz.ntmps77
 go_upto_region 1 with fail
 rw[←hwb]
 clear hwb
 go_wp2_with fail
 refine ka.mono ?_
 rintro e w2 ⟨rfl,hB2⟩
 obtain⟨b0,b1⟩:=HBS.out w2 hB2
 obtain⟨k1,k2,k3⟩:=HE.out w2 hB2
 obtain⟨r0,r1⟩:=k1.ce
 obtain⟨f0,f1⟩:=k1.fz
 have HF:=(show Hid _ from And.intro k2 k3)
 clear ka hB2 HE HBS k1 k2 k3
 unfold SV.nil SV.val at r0 r1
 simp only at r0 r1
 go_wp2_with fail
 refine bodyPost_ret (res1 rfl _ _ (w.heap.size+1) 33 _ (0,0) _ rfl HF.out.1 Tryz.underlying33 rfl (by kernel_rfl)) rfl ?_
 exact⟨rfl,HF.out.2⟩
theorem rrepro_nop (h:StAt w B tg S vo qs)(vt:SV)(hi:S[i]?=some x)(p:Int)(p0:0≤p)(p1:p<18446744073709551616)(hm:obS S p=none)(hnb:(p != 18445336698825998337)=true) :
  Calls Tryz.prog 77 #[stV vo vt,.int .u64 (objW (i:Int)),.int .u64 p] w fun e w'=>e = .returned (stV vo vt)∧SWent w B tg S vo w':=by
 obtain⟨wb,hwb⟩:∃wb,wb=(w.alloc (.cells #[vo.val,vt.val] 33)).alloc (.cells #[.slice none 0 0,.slice none 0 0] 33):=⟨_,rfl⟩
 obtain⟨hbs,hbr,hB⟩:=boxS2 w vo vt
 rw[←hwb] at hbs hbr hB
 have hil:i<S.length:=(List.getElem?_eq_some_iff.1 hi).1
 have ka:=rat_any (h.below hB) vt hil
 have HK2:Hid (∀W,Below wb.heap.size wb W→Calls Tryz.prog 9 #[stV vo vt,.int .u64 p] W fun e w'=>e = .returned (.int .i64 (-1))∧Below W.heap.size W w'):=fun W r=>rat_miss ((h.below hB).below r) vt p p0 p1 hm
 have hidd:decide ((i:Int)<0)=false:=decide_eq_false (by omega)
 have h0i:¬((i:Int)<0):=by omega
 have HBS:Hid (∀W,Below wb.heap.size wb W→W.cell? ⟨w.heap.size,0,none⟩=some vo.val∧W.cell? ⟨w.heap.size,1,none⟩=some vt.val):=fun W r=>(hbs.below r).ce
 have HE:Hid (∀W,Below wb.heap.size wb W→BxS W (w.heap.size+1) .nil .nil∧BxS ((W.setCell ⟨w.heap.size+1,0,none⟩ vo.val).setCell ⟨w.heap.size+1,1,none⟩ vt.val) (w.heap.size+1) vo vt∧SWent w B tg S vo ((W.setCell ⟨w.heap.size+1,0,none⟩ vo.val).setCell ⟨w.heap.size+1,1,none⟩ vt.val)):=fun W r=>st_res h (bel_sm' hB r) (hbr.below r) (SWent.same (h.below (bel_sm' hB r)) (Below.refl _ _)) vt
 obtain⟨b0,b1⟩:=hbs.ce
 obtain⟨va,vl,vc⟩:=vo
 obtain⟨ta,tl,tc⟩:=vt
 rw[show(SV.mk va vl vc).val = .slice va vl vc from rfl,show(SV.mk ta tl tc).val = .slice ta tl tc from rfl] at HBS HE hwb
 rw[show(SV.mk va vl vc).val = .slice va vl vc from rfl] at b0
 rw[show(SV.mk ta tl tc).val = .slice ta tl tc from rfl] at b1
 unfold stV at ka ⊢
 rw[show(SV.mk va vl vc).val = .slice va vl vc from rfl,show(SV.mk ta tl tc).val = .slice ta tl tc from rfl] at ka ⊢
 clear h hB hbs hbr hm hi hil p0 p1
 generalize objW (i:Int)=o at *
 go_enter Tryz.func77,Tryz.ntmps77
 go_upto_region 1 with fail
 rw[←hwb]
 clear hwb
 generalize hnul:(18445336698825998337:Int)=nul at *
 clear hnul
 go_wp2_with fail
 refine ka.mono ?_
 rintro e w2 ⟨rfl,hB2⟩
 have kq:=HK2.out w2 hB2
 unfold stV at kq
 rw[show(SV.mk va vl vc).val = .slice va vl vc from rfl,show(SV.mk ta tl tc).val = .slice ta tl tc from rfl] at kq
 obtain⟨b0,b1⟩:=HBS.out w2 hB2
 have HB2:Hid (Below wb.heap.size wb w2):=hB2
 clear ka hB2 HK2
 go_wp2_with fail
 refine kq.mono ?_
 rintro e w3 ⟨rfl,hB3⟩
 have hB2:=bel_sm' HB2.out hB3
 obtain⟨b0,b1⟩:=HBS.out w3 hB2
 obtain⟨k1,k2,k3⟩:=HE.out w3 hB2
 obtain⟨r0,r1⟩:=k1.ce
 obtain⟨f0,f1⟩:=k1.fz
 have HF:=(show Hid _ from And.intro k2 k3)
 clear kq hB2 hB3 HB2 HE HBS k1 k2 k3
 unfold SV.nil SV.val at r0 r1
 simp only at r0 r1
 go_wp2_with fail
 refine bodyPost_ret (res1 rfl _ _ (w.heap.size+1) 33 _ (0,0) _ rfl HF.out.1 Tryz.underlying33 rfl (by kernel_rfl)) rfl ?_
 exact⟨rfl,HF.out.2⟩
end
section
variable {w W W' w' w1:World}{B b:Nat}{O:Nat→Prop}{tg:Nat→Nat}{S S':List So}{vo vt:SV}{ts:List ByteArray}
end
section
variable {w W W' w' w1:World}{B b:Nat}{O:Nat→Prop}{tg:Nat→Nat}{S S':List So}{vo vt:SV}{ts:List ByteArray}
end
section
variable {w W W' w' w1:World}{B b:Nat}{O:Nat→Prop}{tg:Nat→Nat}{S S':List So}{vo vt:SV}{ts:List ByteArray}
end
structure RelO (ob:Ob)(x:So):Prop where
 kd:ob.kind=x.kind
 pr:ob.proto=x.proto
 sh:ob.shut=x.shut
 nm:x.nm=ob.ps.map Pr.key
 ds:x.ds=ob.ps.map Pr.de
 el:ob.el=x.el
 inn:ob.inn=x.inn
 ix:ob.kind=1→∀p∈ob.ps,p.key≠lenS∧ixI p.key=none
theorem plc_plS (ps:List Pr)(k:ByteArray):plS (ps.map Pr.key) k=plc ps k:=by
 unfold plS plc
 rw[List.findIdx?_map]
 rfl
theorem RelO.get {ob:Ob}{x:So}(h:RelO ob x)(k:ByteArray):getO ob k=getS x k:=by
 unfold getO getS
 rw[h.nm,plc_plS,h.ds]
 congr 1
 funext n
 rw[List.getElem?_map]
theorem RelO.gone {ob:Ob}{x:So}(h:RelO ob x)(hk:ob.kind=1){k:ByteArray}(hi:k=lenS∨(ixI k).isSome=true):getO ob k=Option.none:=by
 have hp:plc ob.ps k=Option.none:=plc_not (fun j q hj e=>by
  have:=h.ix hk q (List.mem_of_getElem? hj)
  rcases hi with r | r
  ·exact this.1 (e.trans r)
  ·rw[←e,this.2] at r
   cases r)
 unfold getO
 rw[hp]
 rfl
theorem elS_I (l:List Int)(n:Int):elS l n=elemI l n:=by
 unfold elS elemI
 by_cases c:n<0
 ·rw[if_pos c,if_neg (by omega)]
 ·rw[if_neg c,if_pos (by omega)]
  rfl
theorem RelO.own {ob:Ob}{x:So}(h:RelO ob x)(k:ByteArray):ownO ob k=ownS x k:=by
 unfold ownO ownS
 rw[←h.kd]
 by_cases hk:ob.kind=1
 ·rw[if_pos hk,if_pos hk]
  by_cases hl:k=lenS
  ·rw[if_pos hl,if_pos hl,h.el]
  ·rw[if_neg hl,if_neg hl,←ix_same]
   cases hx:ixI k with
   | none=>exact h.get k
   | some n =>
     simp only[Option.bind_some]
     rw[elS_I,←h.el]
     cases he:elemI ob.el (n:Int) with
     | none =>
       simp only[Option.map_none]
       exact h.gone hk (Or.inr (by rw[hx];rfl))
     | some v=>rfl
 ·rw[if_neg hk,if_neg hk]
  exact h.get k
structure RelH (H:He)(S:List So):Prop where
 len:H.obs.length=S.length
 ob:∀(i:Nat) ob x,H.obs[i]?=some ob→S[i]?=some x→RelO ob x
section
variable {H:He}{S:List So}
theorem RelH.at (h:RelH H S)(o:Int):obI H o=obS S o:=by
 unfold obI obS
 rw[h.len]
theorem RelH.oo (h:RelH H S)(o:Int):(obO H o=none∧soO S o=none)∨∃ob x,obO H o=some ob∧soO S o=some x∧RelO ob x:=by
 unfold obO soO
 rw[h.at o]
 cases hq:obS S o with
 | none=>exact Or.inl ⟨rfl,rfl⟩
 | some i =>
   have hil:i<S.length:=by
    unfold obS at hq
    split at hq
    ·rename_i c
     have e:(payN o 65530).toNat=i:=Option.some.inj hq
     have:=payN_bd o 65530
     omega
    ·cases hq
   have hil2:i<H.obs.length:=by rw[h.len];exact hil
   have h1:H.obs[i]?=some H.obs[i]:=List.getElem?_eq_getElem hil2
   have h2:S[i]?=some S[i]:=List.getElem?_eq_getElem hil
   exact Or.inr ⟨_,_,h1,h2,h.ob i _ _ h1 h2⟩
theorem RelH.own (h:RelH H S)(o:Int)(k:ByteArray):ownH H o k=(soO S o).bind (fun x=>ownS x k):=by
 unfold ownH
 rcases h.oo o with⟨e1,e2⟩ | ⟨ob,x,e1,e2,e3⟩
 ·rw[e1,e2];rfl
 ·rw[e1,e2]
  exact e3.own k
theorem RelH.look (h:RelH H S)(k:ByteArray):∀(n:Nat)(o:Int),lookF H k n o=lookS S k n o
 | 0,_=>rfl
 | n+1,o=>by
   rcases h.oo o with⟨e1,e2⟩ | ⟨ob,x,e1,e2,e3⟩
   ·rw[look_none e1,lookS_none e2]
   ·rw[look_step e1,lookS_step e2,e3.own k]
    cases ownS x k with
    | some d=>rfl
    | none =>
      simp only
      rw[h.look k n,e3.pr]
theorem look_ends {k:ByteArray}:∀(N M:Nat)(o:Int),EndsH H N o→N≤M→lookF H k N o=lookF H k M o
 | 0,M,o,he,_=>by
   have he:obO H o=none:=he
   rw[look_none he,look_none he]
 | N+1,0,o,_,hm=>by omega
 | N+1,M+1,o,he,hm=>by
   cases hq:obO H o with
   | none=>rw[look_none hq,look_none hq]
   | some ob =>
     obtain⟨g',e,h2⟩:=ends_step he hq
     obtain rfl:N=g':=by omega
     rw[look_step hq,look_step hq]
     cases ownO ob k with
     | some d=>rfl
     | none=>exact look_ends N M ob.proto h2 (by omega)
end
section
variable {w w' w1:World}{B hb:Nat}{O S:Nat→Prop}{H H':He}{M M':HV}{tg:Nat→Nat}
theorem add_list (h:HeapAt w B hb tg H M){i g cap:Nat}{ob:Ob}{ov:OV}(hi:H.obs[i]?=some ob)(hv:M.ovs[i]?=some ov)(hvo:M.vo=⟨some ⟨g,0,none⟩,H.obs.length,cap⟩)(k:ByteArray)(hk:k.size≤maxLen)(d:De)(hd:0≤d.fl∧d.fl≤15)(hlen:ob.ps.length+1≤2000000000001)
  {W:World} {G C:Nat} (q1:OwnR prC 5 116 B W (.slice (some ⟨G,0,none⟩) (ob.ps.length+1) C) (ob.ps++[⟨k,ob.next,d⟩])) (q2:Chg (fun b=>ov.vl.val.ownBlock=some b) w W) (q3:ov.vl.val.ownBlock=some G∨w.heap.size≤G) :
  WentM w B hb tg { H with obs:=H.obs.set i { ob with ps:=ob.ps++[⟨k,ob.next,d⟩] } } { M with ovs:=M.ovs.set i { ov with vl:=⟨some ⟨G,0,none⟩,ob.ps.length+1,C⟩ } } (W.setCell ⟨g,i*12+4,none⟩ (.slice (some ⟨G,0,none⟩) (ob.ps.length+1) C)):=by
 have hwf:=h.wf.ob ob (List.mem_of_getElem? hi)
 have hr:RowIn prC 5 _ B w _ ov.vl ob.ps:=h.part hi hv 0 (by omega)
 have ht:∀b,ov.vl.val.ownBlock=some b→tg b=7+4*i+0:=hr.2
 have hc:Chg (fun b=>tg b=7+4*i+0) w W:=q2.mono ht
 have hks:∀p∈ob.ps++[⟨k,ob.next,d⟩],p.key.size≤maxLen:=fun p hp=>by
  rcases List.mem_append.1 hp with q | q
  ·exact hwf.ks p q
  ·rw[List.mem_singleton.1 q];exact hk
 have hfl:∀p∈ob.ps++[⟨k,ob.next,d⟩],0≤p.de.fl∧p.de.fl≤15:=fun p hp=>by
  rcases List.mem_append.1 hp with q | q
  ·exact hwf.fl p q
  ·rw[List.mem_singleton.1 q];exact hd
 have hll:(ob.ps++[(⟨k,ob.next,d⟩:Pr)]).length=ob.ps.length+1:=by simp
 obtain⟨p1,p2⟩:=h.put hi hv hvo 0 (by omega) hc { ob with ps:=ob.ps++[⟨k,ob.next,d⟩] } { ov with vl:=⟨some ⟨G,0,none⟩,ob.ps.length+1,C⟩ } (j:=4) (u := .slice (some ⟨G,0,none⟩) (ob.ps.length+1) C) (by omega) rfl (fun O o1 o2=>by
  refine⟨q1,fun b q => ?_⟩
  have hbg:b=G:=by simpa [SV.val,Value.ownBlock] using q.symm
  subst hbg
  rcases q3 with c | c
  ·exact o1 b (h.lt b (by have:=ht b c;omega)).2 (ht b c)
  ·exact o2 b c (q1.lt b rfl).2) (fun c' W' O' c4 cn q=>by
  match c',q with
  | 0,q=>exact absurd rfl cn
  | 1,q=>exact q
  | 2,q=>exact q
  | _+3,q=>exact q) ⟨hwf.kd,hwf.pr,hks,hfl,⟨hwf.nx.1,hwf.nx.2.1,by simp only[hll];exact hlen⟩,hwf.el,hwf.inn⟩
 refine⟨_,p1,p2.mono (fun b q=>by show tg b≠0;omega),fun b q => ?_⟩
 by_cases c:b<w.heap.size
 ·rw[rtg_old c] at q
  exact Or.inl q
 ·exact Or.inr (by omega)
theorem HeapAt.tab (h:HeapAt w B hb tg H M){i g cap:Nat}{ob:Ob}{ov:OV}(hi:H.obs[i]?=some ob)(hv:M.ovs[i]?=some ov)(hvo:M.vo=⟨some ⟨g,0,none⟩,H.obs.length,cap⟩) :
  w.cell? ⟨g,i*12+4,none⟩=some (.slice ov.vl.ad ob.ps.length ov.vl.cap)∧w.cell? ⟨g,i*12+5,none⟩=some (.map ov.vm)∧w.cell? ⟨g,i*12+6,none⟩=some (.int .i64 ob.next)∧(∀n,w.frozen? ⟨g,n,none⟩=false)∧g<w.heap.size∧tg g=4:=by
 obtain⟨g',cap',ov',hvo',hov,t4,hne,hgl,hcell,hfz,_⟩:=h.obj hi
 have hvv:=hvo'
 rw[hvo] at hvv
 injection hvv with x1 x2 x3
 injection x1 with x1
 injection x1 with x1
 subst x1
 rw[hv] at hov
 cases hov
 have d4:=hcell 4 _ rfl
 have d5:=hcell 5 _ rfl
 have d6:=hcell 6 _ rfl
 have hr:RowIn prC 5 _ B w _ ov.vl ob.ps:=h.part hi hv 0 (by omega)
 obtain⟨q1,_⟩:=hr.open rtPr.len
 unfold SV.val at d4
 simp only at d4 d5 d6
 rw[q1] at d4
 exact⟨d4,d5,d6,hfz,hgl,t4⟩
theorem HeapAt.mput (h:HeapAt w B hb tg H M){i mb:Nat}{ob:Ob}{ov:OV}(hi:H.obs[i]?=some ob)(hv:M.ovs[i]?=some ov)(hvm:ov.vm=some mb)(hok:BkOk ob.mp){k:ByteArray}(hk:k.size≤maxLen)(hno:∀x∈ob.mp,x.1≠k)(c:Int) :
  ∃w',(Instr.mapUpdate 92 (.map (some mb)) (.string k) (.int .i64 c)).run Tryz.prog w = .ok () w'∧WentM w B hb tg { H with obs:=H.obs.set i { ob with mp:=ob.mp++[(k,c)] } } M w':=by
 have hwf:=h.wf.ob ob (List.mem_of_getElem? hi)
 have hp:=h.part hi hv 1 (by omega)
 obtain⟨ht,hmp⟩:=hp.2 mb hvm
 have ht:tg mb=7+4*i+1:=ht
 obtain⟨w',r1,r2,r3,r4⟩:=hmp.put hok Tryz.underlying92 hk hno c
 have hil:i<H.obs.length:=(List.getElem?_eq_some_iff.1 hi).1
 have hc:Chg (fun b=>tg b=7+4*i+1) w w':=Chg.of_grown r3 (fun k q=>by cases q;exact ht)
 refine⟨w',r1,h.wentM (k0:=7+4*i+1) hc (fun b _ q=>by omega) ?_⟩
 refine h.up (H':={ H with obs:=H.obs.set i { ob with mp:=ob.mp++[(k,c)] } }) (M':=M) hc (fun kj=>kj=7+4*i+1) (7+4*i+1) (fun b _ q=>⟨q,by omega⟩) (fun kj q => ?_) (fun kj O q hk => ?_) (by simp only[List.length_set];exact h.len) ⟨?_,by simp only[List.length_set];exact h.wf.ol,h.wf.tn,h.wf.ts,h.wf.tl,h.wf.mo,h.wf.br⟩
 ·subst q
  rw[show 7+4*i+1=(4*i+1)+7 by omega]
  intro ob1 ov1 e1 e2
  rw[show(4*i+1) / 4=i by omega] at e1 e2
  rw[show(4*i+1) % 4=1 by omega]
  have e1':(H.obs.set i { ob with mp:=ob.mp++[(k,c)] })[i]?=some ob1:=e1
  rw[List.getElem?_set_self hil] at e1'
  have e2':M.ovs[i]?=some ov1:=e2
  rw[hv] at e2'
  cases e1'
  cases e2'
  refine⟨hp.1,fun mb' e => ?_⟩
  rw[hvm] at e
  cases e
  refine⟨?_,r2⟩
  show rtg _ _ _ _ _=_
  rw[rtg_old (h.lt mb (by omega)).2]
  omega
 ·match kj,hk,q with
  | 0,hk,q=>trivial
  | 1,hk,q=>exact hk
  | 2,hk,q=>exact hk
  | 3,hk,q=>exact hk
  | 4,hk,q =>
    refine⟨?_,hk.2⟩
    show OwnR obC 12 _ B _ M.vo.val ((H.obs.set i { ob with mp:=ob.mp++[(k,c)] }).zip M.ovs)
    have hz:(H.obs.set i { ob with mp:=ob.mp++[(k,c)] }).zip M.ovs=(H.obs.zip M.ovs).set i ({ ob with mp:=ob.mp++[(k,c)] },ov):=by
     conv=>lhs;rw[←set_self hv]
     rw[zip_set]
    rw[hz]
    exact OwnR.congr hk.1 (by simp) (flat_same (enc:=obC) (y:=(ob,ov)) (y':=({ ob with mp:=ob.mp++[(k,c)] },ov)) rfl _ i (zip_at hi hv))
  | 5,hk,q=>exact hk
  | 6,hk,q=>exact hk
  | k'+7,hk,q =>
    intro ob1 ov1 e1 e2
    have e1':(H.obs.set i { ob with mp:=ob.mp++[(k,c)] })[k' / 4]?=some ob1:=e1
    by_cases c2:i=k' / 4
    ·rw[←c2,List.getElem?_set_self hil] at e1'
     cases e1'
     have e2':M.ovs[i]?=some ov1:=by rw[c2];exact e2
     rw[hv] at e2'
     cases e2'
     have hk2:=hk ob ov (by rw[←c2];exact hi) (by rw[←c2];exact hv)
     have hne:k' % 4≠1:=fun e=>q (by omega)
     generalize k' % 4=c4 at *
     match c4,hk2,hne with
     | 0,hk2,_=>exact hk2
     | 1,_,hne=>exact absurd rfl hne
     | 2,hk2,_=>exact hk2
     | _+3,hk2,_=>exact hk2
    ·rw[List.getElem?_set_ne c2] at e1'
     exact hk ob1 ov1 e1' e2
 ·intro o ho
  rcases List.mem_or_eq_of_mem_set ho with q | q
  ·exact h.wf.ob o q
  ·rw[q]
   exact⟨hwf.kd,hwf.pr,hwf.ks,hwf.fl,hwf.nx,hwf.el,hwf.inn⟩
theorem HeapAt.mnew (h:HeapAt w B hb tg H M){i g cap:Nat}{ob:Ob}{ov:OV}(hi:H.obs[i]?=some ob)(hv:M.ovs[i]?=some ov)(hvo:M.vo=⟨some ⟨g,0,none⟩,H.obs.length,cap⟩) :
  WentM w B hb tg { H with obs:=H.obs.set i { ob with hm:=true,mp:=[] } } { M with ovs:=M.ovs.set i { ov with vm:=some w.heap.size } } ((w.alloc (.map #[] 0)).setCell ⟨g,i*12+5,none⟩ (.map (some w.heap.size))):=by
 have hwf:=h.wf.ob ob (List.mem_of_getElem? hi)
 have hB:Below w.heap.size w (w.alloc (.map #[] 0)):=(Below.refl _ _).alloc (Nat.le_refl _) _
 obtain⟨p1,p2⟩:=h.put hi hv hvo 1 (by omega) (Chg.of_below hB) { ob with hm:=true,mp:=[] } { ov with vm:=some w.heap.size } (j:=5) (u := .map (some w.heap.size)) (by omega) rfl (fun O o1 o2=>by
  refine⟨rfl,fun mb e => ?_⟩
  have e:some w.heap.size=some mb:=e
  cases e
  exact⟨o2 _ (Nat.le_refl _) (by rw[size_new];omega),#[],0,at_new _ _,rfl⟩) (fun c' W' O' c4 cn q=>by
  match c',q with
  | 0,q=>exact q
  | 1,q=>exact absurd rfl cn
  | 2,q=>exact q
  | _+3,q=>exact q) ⟨hwf.kd,hwf.pr,hwf.ks,hwf.fl,hwf.nx,hwf.el,hwf.inn⟩
 refine⟨_,p1,p2.mono (fun b q=>by show tg b≠0;omega),fun b q => ?_⟩
 by_cases c:b<w.heap.size
 ·rw[rtg_old c] at q
  exact Or.inl q
 ·exact Or.inr (by omega)
end
theorem camd_take {ps:List Pr}{k:Nat}{p:Pr}(h:ps[k]?=some p):camd (ps.take (k+1))=camd (ps.take k)++[(p.key,p.came)]:=by
 unfold camd
 rw[take_at ps k p h,List.map_append]
 rfl
theorem camd_not {ps:List Pr}(hn:(ps.map Pr.key).Nodup){k:Nat}{p:Pr}(h:ps[k]?=some p):∀x∈camd (ps.take k),x.1≠p.key:=by
 intro x hx e
 obtain⟨q,hq,rfl⟩:=List.mem_map.1 hx
 obtain⟨j,hj⟩:=List.mem_iff_getElem?.1 hq
 have hjl:=(List.getElem?_eq_some_iff.1 hj).1
 rw[List.length_take] at hjl
 rw[List.getElem?_take_of_lt (by omega)] at hj
 have h1:(ps.map Pr.key)[j]?=some q.key:=by rw[List.getElem?_map,hj];rfl
 have h2:(ps.map Pr.key)[k]?=some p.key:=by rw[List.getElem?_map,h];rfl
 obtain⟨a1,a2⟩:=List.getElem?_eq_some_iff.1 h1
 obtain⟨b1,b2⟩:=List.getElem?_eq_some_iff.1 h2
 have e:q.key=p.key:=e
 have:=(List.getElem_inj hn).1 (a2.trans (e.trans b2.symm))
 omega
theorem camd_tok {ps:List Pr}(hn:(ps.map Pr.key).Nodup)(hs:∀p∈ps,p.key.size≤maxLen)(k:Nat):BkOk (camd (ps.take k)):=by
 refine camd_ok ?_ (fun p hp=>hs p (List.mem_of_mem_take hp))
 rw[List.map_take]
 exact hn.sublist (List.take_sublist _ _)
section
variable {w w' w1:World}{B hb:Nat}{O S:Nat→Prop}{H H':He}{M M':HV}{tg:Nat→Nat}
def NtAt (w:World)(B hb:Nat)(tg:Nat→Nat)(H:He)(M:HV)(i:Nat)(ob:Ob)(ov:OV)(mb k:Nat)(wr:World):Prop :=
 WentM w B hb tg { H with obs:=H.obs.set i { ob with hm:=true,mp:=camd (ob.ps.take k) } } { M with ovs:=M.ovs.set i { ov with vm:=some mb } } wr
theorem NtAt.cells {i g cap mb k:Nat}{ob:Ob}{ov:OV}{wr:World}(hi:H.obs[i]?=some ob)(hv:M.ovs[i]?=some ov)(hvo:M.vo=⟨some ⟨g,0,none⟩,H.obs.length,cap⟩)(hn:(ob.ps.map Pr.key).Nodup)(hs:∀p∈ob.ps,p.key.size≤maxLen)(h:NtAt w B hb tg H M i ob ov mb k wr){p:Pr}(hp:ob.ps[k]?=some p) :
  ∃gl,ov.vl.ad=some ⟨gl,0,none⟩∧(∀(j:Nat) (u:Value),(prC p)[j]?=some u→wr.cell? ⟨gl,k*5+j,none⟩=some u)∧wr.cell? ⟨g,i*12+5,none⟩=some (.map (some mb)) ∧
   ∀wq,Below wr.heap.size wr wq→∃w7,(Instr.mapUpdate 92 (.map (some mb)) (.string p.key) (.int .i64 p.came)).run Tryz.prog wq = .ok () w7∧NtAt w B hb tg H M i ob ov mb (k+1) w7:=by
 obtain⟨tg2,p1,p2,p3⟩:=h
 have hil:i<H.obs.length:=(List.getElem?_eq_some_iff.1 hi).1
 have hil2:i<M.ovs.length:=(List.getElem?_eq_some_iff.1 hv).1
 have hi1:({ H with obs:=H.obs.set i { ob with hm:=true,mp:=camd (ob.ps.take k) } }:He).obs[i]?=some { ob with hm:=true,mp:=camd (ob.ps.take k) }:=List.getElem?_set_self hil
 have hv1:({ M with ovs:=M.ovs.set i { ov with vm:=some mb } }:HV).ovs[i]?=some { ov with vm:=some mb }:=List.getElem?_set_self hil2
 have hvo1:({ M with ovs:=M.ovs.set i { ov with vm:=some mb } }:HV).vo=⟨some ⟨g,0,none⟩,({ H with obs:=H.obs.set i { ob with hm:=true,mp:=camd (ob.ps.take k) } }:He).obs.length,cap⟩:=by
  simp only[List.length_set]
  exact hvo
 obtain⟨c4,c5,c6,fz,hgl,t4⟩:=p1.tab hi1 hv1 hvo1
 have hr:RowIn prC 5 _ B wr _ ov.vl ob.ps:=p1.part hi1 hv1 0 (by omega)
 obtain⟨q1,q2,q3,q4⟩:=hr.open rtPr.len
 obtain⟨gl,e1,_,_,_,hc,_⟩:=q4 (by intro e;rw[e] at hp;simp at hp)
 refine⟨gl,e1,fun j u hj=>hc k p hp j u hj,c5,fun wq hq => ?_⟩
 obtain⟨w7,r1,r2⟩:=(p1.below hq).mput hi1 hv1 rfl (camd_tok hn hs k) (hs p (List.mem_of_getElem? hp)) (camd_not hn hp) p.came
 refine⟨w7,r1,?_⟩
 unfold NtAt
 rw[camd_take hp]
 simp only[List.set_set] at r2
 exact WentM.next p2 p3 (WentM.behind hq r2)
theorem note_at (h:HeapAt w B hb tg H M){i g cap:Nat}{ob:Ob}{ov:OV}(hi:H.obs[i]?=some ob)(hv:M.ovs[i]?=some ov)(hvo:M.vo=⟨some ⟨g,0,none⟩,H.obs.length,cap⟩)(hn:(ob.ps.map Pr.key).Nodup) :
  Calls Tryz.prog 142 #[.pointer (some ⟨g,i*12+4,none⟩)] w fun e w'=>e = .returned (.tuple #[])∧∃mb,WentM w B hb tg { H with obs:=H.obs.set i { ob with hm:=true,mp:=camd ob.ps } } { M with ovs:=M.ovs.set i { ov with vm:=some mb } } w':=by
 have hwf:=h.wf.ob ob (List.mem_of_getElem? hi)
 obtain⟨c4,c5,c6,fz,hgl,t4⟩:=h.tab hi hv hvo
 have hmw:=h.mnew hi hv hvo
 obtain⟨wa,hwa⟩:∃wa,wa=(w.alloc (.map #[] 0)).setCell ⟨g,i*12+5,none⟩ (.map (some w.heap.size)):=⟨_,rfl⟩
 rw[←hwa] at hmw
 have hst:NtAt w B hb tg H M i ob ov w.heap.size 0 wa:=hmw
 have c4a:wa.cell? ⟨g,i*12+4,none⟩=some (.slice ov.vl.ad ob.ps.length ov.vl.cap):=by
  obtain⟨tg2,p1,p2,p3⟩:=hst
  have hil:i<H.obs.length:=(List.getElem?_eq_some_iff.1 hi).1
  have hil2:i<M.ovs.length:=(List.getElem?_eq_some_iff.1 hv).1
  exact(p1.tab (i:=i) (ob:={ ob with hm:=true,mp:=camd (ob.ps.take 0) }) (ov:={ ov with vm:=some w.heap.size }) (g:=g) (cap:=cap) (List.getElem?_set_self hil) (List.getElem?_set_self hil2) (by simp only[List.length_set];exact hvo)).1
 have HCL:Hid (∀k wr p,NtAt w B hb tg H M i ob ov w.heap.size k wr→ob.ps[k]?=some p→∃gl,ov.vl.ad=some ⟨gl,0,none⟩∧(∀(j:Nat) (u:Value),(prC p)[j]?=some u→wr.cell? ⟨gl,k*5+j,none⟩=some u)∧wr.cell? ⟨g,i*12+5,none⟩=some (.map (some w.heap.size))∧∀wq,Below wr.heap.size wr wq→∃w7,(Instr.mapUpdate 92 (.map (some w.heap.size)) (.string p.key) (.int .i64 p.came)).run Tryz.prog wq = .ok () w7∧NtAt w B hb tg H M i ob ov w.heap.size (k+1) w7):=fun k wr p q hp=>q.cells hi hv hvo hn hwf.ks hp
 have HEN:Hid (∀wr,NtAt w B hb tg H M i ob ov w.heap.size ob.ps.length wr→∃mb,WentM w B hb tg { H with obs:=H.obs.set i { ob with hm:=true,mp:=camd ob.ps } } { M with ovs:=M.ovs.set i { ov with vm:=some mb } } wr):=fun wr q=>⟨w.heap.size,by unfold NtAt at q;rw[List.take_length] at q;exact q⟩
 have hmm:(Instr.makeMap 92 none).run Tryz.prog w = .ok (.map (some w.heap.size)) (w.alloc (.map #[] 0)):=rfl
 have c5b:(w.alloc (.map #[] 0)).cell? ⟨g,i*12+5,none⟩=some (.map ov.vm):=cells_below ((Below.refl _ _).alloc (Nat.le_refl _) _) _ _ c5
 have f5b:(w.alloc (.map #[] 0)).frozen? ⟨g,i*12+5,none⟩=false:=by
  rw[World.frozen?_of_block (w:=w) (((Below.refl w.heap.size w).alloc (Nat.le_refl _) _).block g hgl)]
  exact fz _
 have hlim:(ob.ps.length:Int)≤2000000000001:=by have:=hwf.nx.2.2;omega
 have hgne:¬g=w.heap.size:=by omega
 have HST:Hid (NtAt w B hb tg H M i ob ov w.heap.size 0 wa):=hst
 have HLN:Hid (∀p k,ob.ps[k]?=some p→k<ob.ps.length):=fun p k q=>(List.getElem?_eq_some_iff.1 q).1
 generalize hps:ob.ps=ps at *
 generalize ov.vl.ad=la at *
 generalize ov.vl.cap=lc at *
 clear h hi hv hvo hn hwf c4 c6 fz hgl t4 hmw hst HLN
 go_enter Tryz.func142,Tryz.ntmps142
 go_upto_region 1 with fail
 rw[←hwa]
 clear hwa
 generalize w.heap.size=mb at *
 go_wp2_with fail
 go_loopw [13] (fun p wr=>∃k:Nat,k≤ps.length∧Hid (NtAt w B hb tg H M i ob ov mb k wr)∧p = .int .i64 (k:Int)) (fun p wr=>((ps.length:Int) - intOf p).toNat)
 case atStart=>exact⟨0,Nat.zero_le _,HST,rfl⟩
 case round =>
  clear HST c4a c5b f5b hmm
  obtain⟨k,hk,HS,rfl⟩:=hrel
  by_cases c:k<ps.length
  ·have hex:∃p,ps[k]?=some p:=⟨_,List.getElem?_eq_getElem c⟩
   obtain⟨p,hp⟩:=hex
   obtain⟨gl,rfl,hc,c5,hup⟩:=HCL.out k wr p HS.out hp
   have d0:=hc 0 _ rfl
   have d1:=hc 1 _ rfl
   have d2:=hc 2 _ rfl
   have d3:=hc 3 _ rfl
   have d4:=hc 4 _ rfl
   simp only[Nat.add_zero] at d0
   obtain⟨pk,pc,pv,pse,pf⟩:=p
   simp only at *
   obtain⟨wq,hwq⟩:∃wq,wq=wr.alloc (.cells #[.string pk,.int .i64 pc,.int .u64 pv,.int .u64 pse,.int .i64 pf] 116):=⟨_,rfl⟩
   have hBq:Below wr.heap.size wr wq:=by rw[hwq];exact(Below.refl _ _).alloc (Nat.le_refl _) _
   have x0:wq.cell? ⟨wr.heap.size,0,none⟩=some (.string pk):=by rw[hwq];exact box_new wr _ _ 0 _ rfl
   have x1:wq.cell? ⟨wr.heap.size,1,none⟩=some (.int .i64 pc):=by rw[hwq];exact box_new wr _ _ 1 _ rfl
   have c5q:=cells_below hBq _ _ c5
   obtain⟨w7,r1,r2⟩:=hup wq.drew (hBq.drew)
   have HR2:Hid (NtAt w B hb tg H M i ob ov mb (k+1) w7):=r2
   have hkk:(k:Int)<(ps.length:Int):=by omega
   have hkd:decide ((k:Int)<(ps.length:Int))=true:=decide_eq_true hkk
   have hw1:IntKind.i64.wrap ((k:Int)+1)=((k+1:Nat):Int):=by rw[IntKind.wrap_i64];omega
   have HK:Hid (k<ps.length):=c
   clear hc hup r2 HS hp HCL HEN c hk hBq
   go_upto_region 4 with fail
   rw[←hwq]
   clear hwq d0 d1 d2 d3 d4 c5
   generalize wr.heap.size=xb at *
   go_region
   all_goals
    go_wp2_with fail
    refine⟨⟨k+1,by have:=HK.out;omega,HR2,rfl⟩,?_⟩
    have:=HK.out
    simp[intOf]
    omega
  ·have hkk:¬((k:Int)<(ps.length:Int)):=by omega
   have hke:k=ps.length:=by omega
   subst hke
   have HE:=(show Hid _ from HEN.out wr HS.out)
   clear HCL HEN HS c hk
   go_wp2_with fail
   go_end0
   exact⟨rfl,HE.out⟩
end
end Go.Proofs.YtahhionlbfhinabGreatDoor.Hp
