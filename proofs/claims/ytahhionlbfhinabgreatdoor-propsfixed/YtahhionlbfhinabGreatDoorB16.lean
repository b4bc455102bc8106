/- ML, MM, VR, MN, VS, HP, LK, VT -/
import Derived.Test.YtahhionlbfhinabGreatDoorB15
import Derived.Test.YtahhionlbfhinabGreatDoorB12
import Derived.Test.YtahhionlbfhinabGreatDoorB10
import Derived.Test.YtahhionlbfhinabGreatDoorB13
set_option linter.unusedVariables false
set_option linter.unusedSimpArgs false
set_option maxRecDepth 100000
set_option maxHeartbeats 40000000
namespace Go.Proofs.YtahhionlbfhinabGreatDoor.Hp
open Go.RowKit
section
variable {w W W' w' w1:World}{B b n:Nat}{tg:Nat→Nat}{S:List So}{vo vt:SV}{qs:List QV}{i:Nat}{x x':So}{q:QV}
theorem with_same (h:StAt w B tg S vo qs)(vt:SV)(hi:S[i]?=some x)(hq:qs[i]?=some q)(hrows:∀W O c,SoP W B O x q c→SoP W B O x' q c)(hl:x'.ds.length=x'.nm.length) :
  Calls Tryz.prog 81 #[stV vo vt,.int .i64 (i:Int),soV (x',q)] w fun e w'=>e = .returned (stV vo vt)∧SWent w B tg (S.set i x') vo w':=by
 have hil:i<S.length:=(List.getElem?_eq_some_iff.1 hi).1
 obtain⟨g,cap,q',hv,hq',t1,hgl,hcell,hfz,hl1,hl2,hrow⟩:=h.obj hi
 obtain rfl:q'=q:=by rw[hq] at hq';exact(Option.some.inj hq').symm
 have hcel:CelO w g (i*7):=⟨fun j hj=>by
  have hlen:(soC (x,q')).length=7:=rfl
  exact⟨_,hcell j _ (List.getElem?_eq_getElem (by omega))⟩,hfz⟩
 have k:=with_any (cap:=cap) vt i hcel hil h.big (x',q')
 rw[←hv] at k
 refine k.mono ?_
 rintro e w' ⟨rfl,w5,hB5,hC⟩
 obtain⟨k1,k2⟩:=h.set' hi hq hv (Chg.of_below hB5) x' q' (fun _=>0) (fun b r=>absurd rfl r) (fun c hc=>(hrows _ _ c (((h.below hB5).ob i x q' c hi hq hc).mono c (fun b _ r=>by
  have r:tg b=2+4*i+c:=r
  have hb:=(h.lt b (by omega)).2
  show ntg tg (fun _=>0) w.heap.size b=2+4*i+c
  unfold ntg
  rw[if_pos hb]
  exact r)))) hl
 have hz:ntg tg (fun _=>0) w.heap.size (w.heap.size+2)=0:=by
  unfold ntg
  rw[if_neg (by omega)]
 have k3:=k1.kept hC (fun b r e=>r (by rw[e];exact hz))
 refine⟨rfl,SWent.ntg k3 (k2.trans hC (fun b hb e => ?_))⟩
 omega
end
section
variable {w W W' w' w1:World}{B b n:Nat}{tg:Nat→Nat}{S S':List So}{vo vt:SV}{qs:List QV}{i:Nat}{x x':So}{q:QV}
theorem boxS2 (w:World)(vo vt:SV):BxS ((w.alloc (.cells #[vo.val,vt.val] 33)).alloc (.cells #[.slice none 0 0,.slice none 0 0] 33)) w.heap.size vo vt∧BxS ((w.alloc (.cells #[vo.val,vt.val] 33)).alloc (.cells #[.slice none 0 0,.slice none 0 0] 33)) (w.heap.size+1) .nil .nil∧Below w.heap.size w ((w.alloc (.cells #[vo.val,vt.val] 33)).alloc (.cells #[.slice none 0 0,.slice none 0 0] 33)) :=
 ⟨at_old _ _ _ _ (at_new _ _),at_two w _ _,B2 w _ _⟩
theorem st_res {W0:World}(h0:StAt w B tg S vo qs)(hb:Below w.heap.size w W0)(hr:BxS W0 (w.heap.size+1) .nil .nil)(hp:SWent W0 B tg S' vo W)(vt:SV) :
  BxS W (w.heap.size+1) .nil .nil∧BxS ((W.setCell ⟨w.heap.size+1,0,none⟩ vo.val).setCell ⟨w.heap.size+1,1,none⟩ vt.val) (w.heap.size+1) vo vt∧SWent w B tg S' vo ((W.setCell ⟨w.heap.size+1,0,none⟩ vo.val).setCell ⟨w.heap.size+1,1,none⟩ vt.val):=by
 have hz0:tg (w.heap.size+1)=0:=by
  rcases Nat.eq_zero_or_pos (tg (w.heap.size+1)) with e | e
  ·exact e
  ·have:=(h0.lt _ (by omega:tg (w.heap.size+1)≠0)).2
   omega
 have hlt:=hr.lt
 obtain⟨tg',qs',g1,g2,g3⟩:=hp
 have hr2:=hr.kept g2 (fun r=>r hz0)
 have z0:=heap_setCell_same _ (w.heap.size+1) 0 _ _ vo.val hr2
 have z1:=heap_setCell_same _ (w.heap.size+1) 1 _ _ vt.val z0
 refine⟨hr2,z1,?_⟩
 have hc:Chg (fun b=>b=w.heap.size+1) W ((W.setCell ⟨w.heap.size+1,0,none⟩ vo.val).setCell ⟨w.heap.size+1,1,none⟩ vt.val) :=
  (Chg.set (S:=fun b=>b=w.heap.size+1) W ⟨w.heap.size+1,0,none⟩ vo.val rfl).trans (Chg.set (S:=fun b=>b=w.heap.size+1) _ ⟨w.heap.size+1,1,none⟩ vt.val rfl) (fun _ _ e=>e)
 have hz:tg' (w.heap.size+1)=0:=by
  rcases Nat.eq_zero_or_pos (tg' (w.heap.size+1)) with e | e
  ·exact e
  ·rcases g3 _ (by omega:tg' (w.heap.size+1)≠0) with c | c
   ·exact absurd hz0 c
   ·omega
 refine⟨tg',qs',g1.kept hc (fun b r e=>r (by rw[e];exact hz)),((Chg.of_below (S:=fun b=>tg b≠0) hb).trans g2 (fun _ _ r=>r)).trans hc (fun b hb2 e=>by omega),fun b r=>(g3 b r).imp id (fun r=>Nat.le_trans hb.size r)⟩
theorem soP_shut:∀(W:World)(O:Nat→Prop)(c:Nat),SoP W B O x q c→SoP W B O { x with shut:=true } q c
 | _,_,0,h=>h
 | _,_,1,h=>h
 | _,_,2,h=>h
 | _,_,_+3,h=>h
theorem rshut_hit (h:StAt w B tg S vo qs)(vt:SV)(hi:S[i]?=some x) :
  Calls Tryz.prog 39 #[stV vo vt,.int .u64 (objW (i:Int))] w fun e w'=>e = .returned (stV vo vt)∧SWent w B tg (S.set i { x with shut:=true }) vo w':=by
 obtain⟨wb,hwb⟩:∃wb,wb=(w.alloc (.cells #[vo.val,vt.val] 33)).alloc (.cells #[.slice none 0 0,.slice none 0 0] 33):=⟨_,rfl⟩
 obtain⟨hbs,hbr,hB⟩:=boxS2 w vo vt
 rw[←hwb] at hbs hbr hB
 have hil:i<S.length:=(List.getElem?_eq_some_iff.1 hi).1
 have h2:=h.below hB
 have ka:=rat_any h2 vt hil
 obtain⟨g,cap,q,hv,hq,t1,hgl,hcell,hfz,hl1,hl2,hrow⟩:=h2.obj hi
 have hbig:=h.big
 have hsame:=h.same x (List.mem_of_getElem? hi)
 have HN:Hid (∀W,Below wb.heap.size wb W→(W.cell? ⟨w.heap.size,0,none⟩=some vo.val∧W.cell? ⟨w.heap.size,1,none⟩=some vt.val)∧(∀j u,(soC (x,q))[j]?=some u→W.cell? ⟨g,i*7+j,none⟩=some u)):=fun W r=>⟨(hbs.below r).ce,fun j u hj=>cells_below r _ _ (hcell j u hj)⟩
 have HW:Hid (∀W,Below wb.heap.size wb W→Calls Tryz.prog 81 #[stV vo vt,.int .i64 (i:Int),soV ({ x with shut:=true },q)] W fun e w'=>e = .returned (stV vo vt)∧SWent W B tg (S.set i { x with shut:=true }) vo w'):=fun W r=>with_same (h2.below r) vt hi hq soP_shut hsame
 have HE:Hid (∀W0 W',Below wb.heap.size wb W0→SWent W0 B tg (S.set i { x with shut:=true }) vo W'→BxS W' (w.heap.size+1) .nil .nil∧BxS ((W'.setCell ⟨w.heap.size+1,0,none⟩ vo.val).setCell ⟨w.heap.size+1,1,none⟩ vt.val) (w.heap.size+1) vo vt∧SWent w B tg (S.set i { x with shut:=true }) vo ((W'.setCell ⟨w.heap.size+1,0,none⟩ vo.val).setCell ⟨w.heap.size+1,1,none⟩ vt.val)):=fun W0 W' r s=>st_res h (bel_sm' hB r) (hbr.below r) s vt
 have hii:(i:Int)<(S.length:Int):=by omega
 have hsl:(S.length:Int)≤65536:=by omega
 obtain⟨b0,b1⟩:=hbs.ce
 have h0i:¬((i:Int)<0):=by omega
 have hvv:vo.val = .slice (some ⟨g,0,none⟩) S.length cap:=by rw[hv];rfl
 have HVV:Hid (vo.val = .slice (some ⟨g,0,none⟩) S.length cap):=hvv
 have HXE:Hid (x=⟨x.kind,x.proto,x.shut,x.nm,x.ds,x.el,x.inn⟩):=rfl
 unfold stV at ka ⊢
 rw[hvv] at hwb ka b0 ⊢
 rw[show vt.val = .slice vt.ad vt.len vt.cap from rfl] at *
 generalize objW (i:Int)=o at *
 clear h h2 hB hbs hbr hq t1 hgl hcell hfz hrow hi hsame hil hbig hv hvv
 go_enter Tryz.func39,Tryz.ntmps39
 go_upto_region 1 with fail
 rw[←hwb]
 clear hwb
 go_wp2_with fail
 refine ka.mono ?_
 rintro e w2 ⟨rfl,hB2⟩
 obtain⟨⟨b0,b1⟩,hc⟩:=HN.out w2 hB2
 rw[HVV.out] at b0
 have c0:=hc 0 _ rfl
 have c1:=hc 1 _ rfl
 have c2:=hc 2 _ rfl
 have c3:=hc 3 _ rfl
 have c4:=hc 4 _ rfl
 have c5:=hc 5 _ rfl
 have c6:=hc 6 _ rfl
 simp only[Nat.add_zero] at c0 c3 c4 c5 c6
 unfold SV.val at c3 c4 c5 c6
 simp only at c0 c1 c2 c3 c4 c5 c6
 have HB2:Hid (Below wb.heap.size wb w2):=hB2
 clear ka hB2 hc
 have HO3:Hid (BxO (w2.alloc (.cells #[.int .i64 x.kind,.int .u64 x.proto,.bool x.shut,.slice q.vn.ad q.vn.len q.vn.cap,.slice q.vd.ad q.vd.len q.vd.cap,.slice q.ve.ad q.ve.len q.ve.cap,.slice q.vi.ad q.vi.len q.vi.cap] 71)) w2.heap.size (x,q)):=BxO.new w2 (x,q)
 have HB3:Hid (Below wb.heap.size wb (w2.alloc (.cells #[.int .i64 x.kind,.int .u64 x.proto,.bool x.shut,.slice q.vn.ad q.vn.len q.vn.cap,.slice q.vd.ad q.vd.len q.vd.cap,.slice q.ve.ad q.ve.len q.ve.cap,.slice q.vi.ad q.vi.len q.vi.cap] 71))∧wb.heap.size≤w2.heap.size):=⟨bel_sm' HB2.out ((Below.refl _ _).alloc (Nat.le_refl _) _),HB2.out.size⟩
 clear HB2
 go_upto_region 5 with fail
 generalize w2.alloc (.cells #[.int .i64 x.kind,.int .u64 x.proto,.bool x.shut,.slice q.vn.ad q.vn.len q.vn.cap,.slice q.vd.ad q.vd.len q.vd.cap,.slice q.ve.ad q.ve.len q.ve.cap,.slice q.vi.ad q.vi.len q.vi.cap] 71)=w3 at *
 generalize w2.heap.size=bo at *
 have e2:=HO3.out.fz 2
 have e3:w3.cell? ⟨bo,2,none⟩=some (.bool x.shut):=HO3.out.ce.2.2.1
 have HO4:Hid (BxO (w3.setCell ⟨bo,2,none⟩ (.bool true)) bo ({ x with shut:=true },q)):=heap_setCell_same _ bo 2 _ _ (.bool true) HO3.out
 have HB4:Hid (Below wb.heap.size wb (w3.setCell ⟨bo,2,none⟩ (.bool true))):=HB3.out.1.setCell HB3.out.2 _
 clear c0 c1 c2 c3 c4 c5 c6 b0 b1 HB3 HO3
 go_upto_region 6 with fail
 generalize w3.setCell ⟨bo,2,none⟩ (.bool true)=w4 at *
 obtain⟨⟨b0,b1⟩,_⟩:=HN.out w4 HB4.out
 rw[HVV.out] at b0
 obtain⟨c0,c1,c2,c3,c4,c5,c6⟩:=HO4.out.ce
 unfold SV.val at c3 c4 c5 c6
 simp only at c0 c1 c2 c3 c4 c5 c6
 have kw:=HW.out w4 HB4.out
 unfold stV soV at kw
 rw[HVV.out,show vt.val = .slice vt.ad vt.len vt.cap from rfl] at kw
 unfold SV.val at kw
 simp only at kw
 clear HN HW HO4 e2 e3
 go_wp2_with fail
 refine kw.mono ?_
 rintro e w5 ⟨rfl,hs5⟩
 obtain⟨k1,k2,k3⟩:=HE.out w4 w5 HB4.out hs5
 obtain⟨r0,r1⟩:=k1.ce
 obtain⟨f0,f1⟩:=k1.fz
 rw[HVV.out] at k2 k3
 have HF:=(show Hid _ from And.intro k2 k3)
 clear kw hs5 HE HB4 k1 k2 k3 b0 b1 c0 c1 c2 c3 c4 c5 c6
 unfold SV.nil SV.val at r0 r1
 simp only at r0 r1
 go_wp2_with fail
 refine bodyPost_ret (res1 rfl _ _ (w.heap.size+1) 33 _ (0,0) _ rfl HF.out.1 Tryz.underlying33 rfl (by kernel_rfl)) rfl ?_
 exact⟨by rw[HVV.out];rfl,HF.out.2⟩
end
section
variable {w W W' w' w1:World}{B b n:Nat}{tg:Nat→Nat}{S:List So}{vo vt:SV}{qs:List QV}{i:Nat}{N:Nat→Nat}{y:So×QV}{x:So}{q:QV}
theorem with_pus (h0:StAt w B tg S vo qs)(vt:SV)(hi:S[i]?=some x)(hq:qs[i]?=some q)(hp:PuS w W B tg i N y)(hl:y.1.ds.length=y.1.nm.length) :
  Calls Tryz.prog 81 #[stV vo vt,.int .i64 (i:Int),soV y] W fun e w'=>e = .returned (stV vo vt)∧SWent w B tg (S.set i y.1) vo w':=by
 have hil:i<S.length:=(List.getElem?_eq_some_iff.1 hi).1
 obtain⟨g,cap,q',hv,hq',t1,hgl,hcell,hfz,hl1,hl2,hrow⟩:=h0.obj hi
 have hcel:CelO W g (i*7):=(h0.celO hi hv).kept hp.chg (fun r=>by obtain⟨c,hc,r⟩:=r;omega)
 have k:=with_any (cap:=cap) vt i hcel hil h0.big y
 rw[←hv] at k
 refine k.mono ?_
 rintro e w' ⟨rfl,w5,hB5,hC⟩
 have hp5:=hp.below hB5
 obtain⟨k1,k2⟩:=h0.set' hi hq hv hp5.chg y.1 y.2 N hp5.new hp5.rows hl
 have hsz:w.heap.size≤W.heap.size:=hp.chg.size
 have hz:∀b,ntg tg N w.heap.size b≠0→b≠W.heap.size+2:=fun b r=>by
  unfold ntg at r
  by_cases cb:b<w.heap.size
  ·omega
  ·rw[if_neg cb] at r
   have h2:=hp.new b r
   omega
 have k3:=k1.kept hC (fun b r s=>hz b r s)
 refine⟨rfl,SWent.ntg k3 (k2.trans hC (fun b hb e => ?_))⟩
 omega
end
section
variable {w W W' w' w1:World}{B b n:Nat}{tg:Nat→Nat}{S S':List So}{vo vt:SV}{qs:List QV}{i:Nat}{x x':So}{q:QV}
theorem rshut_miss (h:StAt w B tg S vo qs)(vt:SV)(o:Int)(o0:0≤o)(o1:o<18446744073709551616)(hm:obS S o=none) :
  Calls Tryz.prog 39 #[stV vo vt,.int .u64 o] w fun e w'=>e = .returned (stV vo vt)∧SWent w B tg S vo w':=by
 obtain⟨wb,hwb⟩:∃wb,wb=(w.alloc (.cells #[vo.val,vt.val] 33)).alloc (.cells #[.slice none 0 0,.slice none 0 0] 33):=⟨_,rfl⟩
 obtain⟨hbs,hbr,hB⟩:=boxS2 w vo vt
 rw[←hwb] at hbs hbr hB
 have ka:=rat_miss (h.below hB) vt o o0 o1 hm
 have HBS:Hid (∀W,Below wb.heap.size wb W→W.cell? ⟨w.heap.size,0,none⟩=some vo.val∧W.cell? ⟨w.heap.size,1,none⟩=some vt.val):=fun W r=>(hbs.below r).ce
 have HE:Hid (∀W,Below wb.heap.size wb W→BxS W (w.heap.size+1) .nil .nil∧BxS ((W.setCell ⟨w.heap.size+1,0,none⟩ vo.val).setCell ⟨w.heap.size+1,1,none⟩ vt.val) (w.heap.size+1) vo vt∧SWent w B tg S vo ((W.setCell ⟨w.heap.size+1,0,none⟩ vo.val).setCell ⟨w.heap.size+1,1,none⟩ vt.val)):=fun W r=>st_res h (bel_sm' hB r) (hbr.below r) (SWent.same (h.below (bel_sm' hB r)) (Below.refl _ _)) vt
 obtain⟨b0,b1⟩:=hbs.ce
 obtain⟨va,vl,vc⟩:=vo
 obtain⟨ta,tl,tc⟩:=vt
 rw[show(SV.mk va vl vc).val = .slice va vl vc from rfl,show(SV.mk ta tl tc).val = .slice ta tl tc from rfl] at HBS HE hwb
 rw[show(SV.mk va vl vc).val = .slice va vl vc from rfl] at b0
 rw[show(SV.mk ta tl tc).val = .slice ta tl tc from rfl] at b1
 unfold stV at ka ⊢
 rw[show(SV.mk va vl vc).val = .slice va vl vc from rfl,show(SV.mk ta tl tc).val = .slice ta tl tc from rfl] at ka ⊢
 clear h hB hbs hbr hm
 go_enter Tryz.func39,Tryz.ntmps39
 go_upto_region 1 with fail
 rw[←hwb]
 clear hwb
 go_wp2_with fail
 refine ka.mono ?_
 rintro e w2 ⟨rfl,hB2⟩
 obtain⟨b0,b1⟩:=HBS.out w2 hB2
 obtain⟨k1,k2,k3⟩:=HE.out w2 hB2
 obtain⟨r0,r1⟩:=k1.ce
 obtain⟨f0,f1⟩:=k1.fz
 have HF:=(show Hid _ from And.intro k2 k3)
 clear ka hB2 HE HBS k1 k2 k3
 unfold SV.nil SV.val at r0 r1
 simp only at r0 r1
 go_wp2_with fail
 refine bodyPost_ret (res1 rfl _ _ (w.heap.size+1) 33 _ (0,0) _ rfl HF.out.1 Tryz.underlying33 rfl (by kernel_rfl)) rfl ?_
 exact⟨rfl,HF.out.2⟩
end
section
variable {w W W' w' w1:World}{B b n:Nat}{tg:Nat→Nat}{S S':List So}{vo vt:SV}{qs:List QV}{i:Nat}{x x':So}{q:QV}
theorem PuS.fresh {W0:World}{N:Nat→Nat}{y y':So×QV}(hp:PuS W0 W B tg i N y){c0:Nat}(hc0:c0<4)(hc:Chg (fun _=>False) W W'){v':Value}{g:Nat}(hg:v'.ownBlock=some g)(hg0:W.heap.size≤g)(hg1:g<W'.heap.size)
  (hrow:∀O:Nat→Prop,(∀b,v'.ownBlock=some b→O b)→SoP W' B O y'.1 y'.2 c0) (hsame:∀c (O:Nat→Prop),c<4→c≠c0→SoP W' B O y.1 y.2 c→SoP W' B O y'.1 y'.2 c) :
  PuS W0 W' B tg i (nuN W0 N v' (2+4*i+c0)) y' :=
 hp.row hc0 (v := .slice none 0 0) (fun b s=>by simp[Value.ownBlock] at s) (hc.mono (fun b r=>r.elim)) (Or.inr ⟨g,hg0,hg1,hg⟩) y' hrow hsame
end
section
variable {w w' w1:World}{B hb:Nat}{O S:Nat→Prop}{H H':He}{M M':HV}{tg:Nat→Nat}
def keptD (d:De):De:={ d with fl:=keptI d.fl }
end
def putS (x:So)(k:ByteArray)(d:De):So:=match plS x.nm k with
 | some m=>{ x with ds:=x.ds.set m (keptD d) }
 | none=>{ x with nm:=x.nm++[k],ds:=x.ds++[keptD d] }
def wPu (w:World)(vo vt:SV)(d:De):World:=((w.alloc (.cells #[vo.val,vt.val] 33)).alloc (.cells #[.int .u64 d.va,.int .u64 d.se,.int .i64 d.fl] 39)).alloc (.cells #[.slice none 0 0,.slice none 0 0] 33)
theorem wPu_facts (w:World)(vo vt:SV)(d:De):BxS (wPu w vo vt d) w.heap.size vo vt∧Bx3 (wPu w vo vt d) (w.heap.size+1) d∧BxS (wPu w vo vt d) (w.heap.size+2) .nil .nil∧Below w.heap.size w (wPu w vo vt d)∧(wPu w vo vt d).heap.size=w.heap.size+3:=by
 have s1:(w.alloc (.cells #[vo.val,vt.val] 33)).heap.size=w.heap.size+1:=size_new _ _
 have s2:((w.alloc (.cells #[vo.val,vt.val] 33)).alloc (.cells #[.int .u64 d.va,.int .u64 d.se,.int .i64 d.fl] 39)).heap.size=w.heap.size+2:=by rw[size_new,s1]
 refine⟨at_old _ _ _ _ (at_old _ _ _ _ (at_new _ _)),at_old _ _ _ _ (at_two w _ _),?_,below_new (below_new (below_new (Below.refl _ _) (Nat.le_refl _) _) (by rw[s1];omega) _) (by rw[s2];omega) _,by unfold wPu;rw[size_new,s2]⟩
 have:=at_new ((w.alloc (.cells #[vo.val,vt.val] 33)).alloc (.cells #[.int .u64 d.va,.int .u64 d.se,.int .i64 d.fl] 39)) (.cells #[.slice none 0 0,.slice none 0 0] 33)
 rw[s2] at this
 exact this
structure PuA (w W:World)(B:Nat)(tg:Nat→Nat)(i:Nat)(N:Nat→Nat)(y:So×QV)(vo vt:SV)(d:De)(bo:Nat):Prop where
 pus:PuS w W B tg i N y
 bs:BxS W w.heap.size vo vt
 bd:Bx3 W (w.heap.size+1) d
 br:BxS W (w.heap.size+2) .nil .nil
 bo':BxO W bo y
 lo:w.heap.size+3≤bo
 nn:∀b,N b≠0→bo<b
section
variable {w W W':World}{B:Nat}{tg:Nat→Nat}{S:List So}{vo vt:SV}{qs:List QV}{i bo:Nat}{N:Nat→Nat}{y:So×QV}{x:So}{q:QV}{d:De}
theorem PuA.below (h:PuA w W B tg i N y vo vt d bo)(hb:Below W.heap.size W W'):PuA w W' B tg i N y vo vt d bo:=⟨h.pus.below hb,h.bs.below hb,h.bd.below hb,h.br.below hb,h.bo'.below hb,h.lo,h.nn⟩
theorem Bx3.kept {b:Nat}{T:Nat→Prop}(h:Bx3 W b d)(hc:Chg T W W')(hn:¬T b):Bx3 W' b d:=by
 unfold Bx3
 rw[hc.block b h.lt hn]
 exact h
theorem PuA.row (h:PuA w W B tg i N y vo vt d bo){c0:Nat}(hc0:c0<4){v v':Value}(hv:∀b,v.ownBlock=some b→ntg tg N w.heap.size b=2+4*i+c0)(hc:Chg (fun b=>v.ownBlock=some b) W W')(hn:v'.ownBlock=v.ownBlock∨∃b,W.heap.size≤b∧b<W'.heap.size∧v'.ownBlock=some b)
  (y':So×QV) (hrow:∀O:Nat→Prop,(∀b,v'.ownBlock=some b→O b)→SoP W' B O y'.1 y'.2 c0)
  (hsame:∀c (O:Nat→Prop),c<4→c≠c0→SoP W' B O y.1 y.2 c→SoP W' B O y'.1 y'.2 c) (j:Nat) (u:Value) (hbo:∀W'',BxO W'' bo y→BxO (W''.setCell ⟨bo,j,none⟩ u) bo y') :
  BxO W' bo y∧PuA w (W'.setCell ⟨bo,j,none⟩ u) B tg i (nuN w N v' (2+4*i+c0)) y' vo vt d bo:=by
 have hvb:∀b,w.heap.size≤b→b≤bo→¬v.ownBlock=some b:=fun b hb hb2 r=>by
  have h1:=hv b r
  unfold ntg at h1
  rw[if_neg (by omega)] at h1
  have:=h.nn b (by omega)
  omega
 have hlo:=h.lo
 have hbx:=h.bo'.kept hc (hvb bo (by omega) (Nat.le_refl _))
 have hset:Chg (fun b=>b=bo) W' (W'.setCell ⟨bo,j,none⟩ u):=Chg.set (S:=fun b=>b=bo) W' ⟨bo,j,none⟩ u rfl
 have hnn:∀b,nuN w N v' (2+4*i+c0) b≠0→bo<b:=fun b r=>by
  unfold nuN at r
  by_cases cb:v'.ownBlock=some b∧w.heap.size≤b
  ·rcases hn with e | ⟨b',e1,e2,e3⟩
   ·rcases Nat.lt_or_ge bo b with q | q
    ·exact q
    ·exact absurd (by rw[←e];exact cb.1) (hvb b cb.2 q)
   ·have h1:=cb.1
    rw[e3] at h1
    have:=Option.some.inj h1
    have:=h.bo'.lt
    omega
  ·rw[if_neg cb] at r
   exact h.nn b r
 refine⟨hbx,(h.pus.row hc0 hv hc hn y' hrow hsame).own hset (fun b _ r=>⟨by omega,?_⟩),(h.bs.kept hc (hvb _ (by omega) (by omega))).kept hset (by omega),(h.bd.kept hc (hvb _ (by omega) (by omega))).kept hset (by omega),(h.br.kept hc (hvb _ (by omega) (by omega))).kept hset (by omega),hbo _ hbx,h.lo,hnn⟩
 rcases Nat.eq_zero_or_pos (nuN w N v' (2+4*i+c0) b) with e | e
 ·exact e
 ·have:=hnn b (by omega)
  omega
theorem PuA.fin (h0:StAt w B tg S vo qs)(hi:S[i]?=some x)(hq:qs[i]?=some q){g cap:Nat}(hvo:vo=⟨some ⟨g,0,none⟩,S.length,cap⟩)(h:PuA w W B tg i N y vo vt d bo)(hl:y.1.ds.length=y.1.nm.length){w5:World}(hb:Below W.heap.size W w5)(hc:Chg (fun b=>b=W.heap.size+2) (st7 w5 g (i*7) y) W') :
  BxS W' (w.heap.size+2) .nil .nil∧∀W'',Chg (fun b=>b=w.heap.size+2) W' W''→SWent w B tg (S.set i y.1) vo W'':=by
 have hp:=h.pus.below hb
 have hlo:=h.lo
 have hbl:=h.bo'.lt
 obtain⟨k1,k2⟩:=h0.set' hi hq hvo hp.chg y.1 y.2 N hp.new hp.rows hl
 have hg:g<w.heap.size:=by
  have hblk:=h0.row.2
  rw[hvo] at hblk
  have t1:tg g=1:=hblk g rfl
  exact(h0.lt g (by omega)).2
 refine⟨(((h.br.below hb).kept (st7_chg w5 g (i*7) y) (by omega)).kept hc (by omega)),fun W'' hc2 => ?_⟩
 have hz:∀b,ntg tg N w.heap.size b≠0→b≠W.heap.size+2∧b≠w.heap.size+2:=fun b r=>by
  unfold ntg at r
  by_cases cb:b<w.heap.size
  ·have:=h.pus.chg.size
   omega
  ·rw[if_neg cb] at r
   have h1:=h.nn b r
   have h2:=h.pus.new b r
   omega
 have k3:=(k1.kept hc (fun b r s=>(hz b r).1 s)).kept hc2 (fun b r s=>(hz b r).2 s)
 refine SWent.ntg k3 ?_
 have hsz:w.heap.size≤W.heap.size:=h.pus.chg.size
 have k4:Chg (fun b=>tg b≠0∨w.heap.size≤b) w W'':=((k2.mono (fun b r=>Or.inl r)).trans hc (fun b _ r=>Or.inr (by omega))).trans hc2 (fun b _ r=>Or.inr (by omega))
 exact⟨k4.os,k4.tape,k4.output,k4.size,fun b hb' hn=>k4.block b hb' (fun r=>by rcases r with r | r;exact hn r;omega)⟩
end
section
variable {w W W' w' w1:World}{B b n:Nat}{tg:Nat→Nat}{S S':List So}{vo vt:SV}{qs:List QV}{i:Nat}{x x':So}{q:QV}
theorem st_resk (k:Nat){W0:World}(h0:StAt w B tg S vo qs)(hb:Below w.heap.size w W0)(hr:BxS W0 (w.heap.size+k) .nil .nil)(hp:SWent W0 B tg S' vo W)(vt:SV) :
  BxS W (w.heap.size+k) .nil .nil∧BxS ((W.setCell ⟨w.heap.size+k,0,none⟩ vo.val).setCell ⟨w.heap.size+k,1,none⟩ vt.val) (w.heap.size+k) vo vt∧SWent w B tg S' vo ((W.setCell ⟨w.heap.size+k,0,none⟩ vo.val).setCell ⟨w.heap.size+k,1,none⟩ vt.val):=by
 have hz0:tg (w.heap.size+k)=0:=by
  rcases Nat.eq_zero_or_pos (tg (w.heap.size+k)) with e | e
  ·exact e
  ·have:=(h0.lt _ (by omega:tg (w.heap.size+k)≠0)).2
   omega
 have hlt:=hr.lt
 obtain⟨tg',qs',g1,g2,g3⟩:=hp
 have hr2:=hr.kept g2 (fun r=>r hz0)
 have z0:=heap_setCell_same _ (w.heap.size+k) 0 _ _ vo.val hr2
 have z1:=heap_setCell_same _ (w.heap.size+k) 1 _ _ vt.val z0
 refine⟨hr2,z1,?_⟩
 have hc:Chg (fun b=>b=w.heap.size+k) W ((W.setCell ⟨w.heap.size+k,0,none⟩ vo.val).setCell ⟨w.heap.size+k,1,none⟩ vt.val) :=
  (Chg.set (S:=fun b=>b=w.heap.size+k) W ⟨w.heap.size+k,0,none⟩ vo.val rfl).trans (Chg.set (S:=fun b=>b=w.heap.size+k) _ ⟨w.heap.size+k,1,none⟩ vt.val rfl) (fun _ _ e=>e)
 have hz:tg' (w.heap.size+k)=0:=by
  rcases Nat.eq_zero_or_pos (tg' (w.heap.size+k)) with e | e
  ·exact e
  ·rcases g3 _ (by omega:tg' (w.heap.size+k)≠0) with c | c
   ·exact absurd hz0 c
   ·omega
 refine⟨tg',qs',g1.kept hc (fun b r e=>r (by rw[e];exact hz)),((Chg.of_below (S:=fun b=>tg b≠0) hb).trans g2 (fun _ _ r=>r)).trans hc (fun b hb2 e=>by omega),fun b r=>(g3 b r).imp id (fun r=>Nat.le_trans hb.size r)⟩
theorem rput_miss (h:StAt w B tg S vo qs)(vt:SV)(k:ByteArray)(d:De)(o:Int)(o0:0≤o)(o1:o<18446744073709551616)(hm:obS S o=none) :
  Calls Tryz.prog 71 #[stV vo vt,.int .u64 o,.string k,deV d] w fun e w'=>e = .returned (stV vo vt)∧SWent w B tg S vo w':=by
 obtain⟨wb,hwb⟩:∃wb,wb=wPu w vo vt d:=⟨_,rfl⟩
 obtain⟨hbs,hbd,hbr,hB,hsz⟩:=wPu_facts w vo vt d
 rw[←hwb] at hbs hbd hbr hB hsz
 unfold wPu at hwb
 have ka:=rat_miss (h.below hB) vt o o0 o1 hm
 have HBS:Hid (∀W,Below wb.heap.size wb W→W.cell? ⟨w.heap.size,0,none⟩=some vo.val∧W.cell? ⟨w.heap.size,1,none⟩=some vt.val):=fun W r=>(hbs.below r).ce
 have HE:Hid (∀W,Below wb.heap.size wb W→BxS W (w.heap.size+2) .nil .nil∧BxS ((W.setCell ⟨w.heap.size+2,0,none⟩ vo.val).setCell ⟨w.heap.size+2,1,none⟩ vt.val) (w.heap.size+2) vo vt∧SWent w B tg S vo ((W.setCell ⟨w.heap.size+2,0,none⟩ vo.val).setCell ⟨w.heap.size+2,1,none⟩ vt.val)):=fun W r=>st_resk 2 h (bel_sm' hB r) (hbr.below r) (SWent.same (h.below (bel_sm' hB r)) (Below.refl _ _)) vt
 obtain⟨b0,b1⟩:=hbs.ce
 obtain⟨va,vl,vc⟩:=vo
 obtain⟨ta,tl,tc⟩:=vt
 rw[show(SV.mk va vl vc).val = .slice va vl vc from rfl,show(SV.mk ta tl tc).val = .slice ta tl tc from rfl] at HBS HE hwb
 rw[show(SV.mk va vl vc).val = .slice va vl vc from rfl] at b0
 rw[show(SV.mk ta tl tc).val = .slice ta tl tc from rfl] at b1
 unfold stV at ka ⊢
 rw[show(SV.mk va vl vc).val = .slice va vl vc from rfl,show(SV.mk ta tl tc).val = .slice ta tl tc from rfl] at ka ⊢
 unfold deV
 clear h hB hbs hbd hbr hm hsz
 go_enter Tryz.func71,Tryz.ntmps71
 go_upto_region 1 with fail
 rw[←hwb]
 clear hwb
 go_wp2_with fail
 refine ka.mono ?_
 rintro e w2 ⟨rfl,hB2⟩
 obtain⟨b0,b1⟩:=HBS.out w2 hB2
 obtain⟨k1,k2,k3⟩:=HE.out w2 hB2
 obtain⟨r0,r1⟩:=k1.ce
 obtain⟨f0,f1⟩:=k1.fz
 have HF:=(show Hid _ from And.intro k2 k3)
 clear ka hB2 HE HBS k1 k2 k3
 unfold SV.nil SV.val at r0 r1
 simp only at r0 r1
 go_wp2_with fail
 refine bodyPost_ret (res1 rfl _ _ (w.heap.size+2) 33 _ (0,0) _ rfl HF.out.1 Tryz.underlying33 rfl (by kernel_rfl)) rfl ?_
 exact⟨rfl,HF.out.2⟩
end
end Go.Proofs.YtahhionlbfhinabGreatDoor.Hp
