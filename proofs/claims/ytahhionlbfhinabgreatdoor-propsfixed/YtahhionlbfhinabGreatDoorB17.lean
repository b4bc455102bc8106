/- VU, VW -/
import Derived.Test.YtahhionlbfhinabGreatDoorB16
import Derived.Test.YtahhionlbfhinabGreatDoorB10
set_option linter.unusedVariables false
set_option linter.unusedSimpArgs false
set_option maxRecDepth 100000
set_option maxHeartbeats 40000000
namespace Go.Proofs.YtahhionlbfhinabGreatDoor.Hp
open Go.RowKit
theorem resL_zero (el:List Int):resL el 0=[]:=by simp[resL]
theorem resL_size (el:List Int)(n:Nat):(resL el n).length=n:=by
 unfold resL
 rw[List.length_append,List.length_take,List.length_replicate]
 omega
theorem resL_in {el:List Int}{j:Nat}{u:Int}(h:el[j]?=some u):resL el (j+1)=resL el j++[u]:=by
 have hj:j<el.length:=(List.getElem?_eq_some_iff.1 h).1
 unfold resL
 rw[show j+1 - el.length=0 by omega,show j - el.length=0 by omega,List.take_add_one,h]
 simp
theorem resL_out {el:List Int}{j:Nat}(h:el.length≤j):resL el (j+1)=resL el j++[holW]:=by
 unfold resL
 rw[List.take_of_length_le (by omega),List.take_of_length_le h,show j+1 - el.length=(j - el.length)+1 by omega,List.replicate_succ',List.append_assoc]
section
variable {w W W' w' w1:World}{B b n:Nat}{tg:Nat→Nat}{S S':List So}{vo vt:SV}{qs:List QV}{i:Nat}{x x':So}{q:QV}
theorem PuS.fresh2 {W0:World}{N:Nat→Nat}{y y':So×QV}(hp:PuS W0 W B tg i N y){c0:Nat}(hc0:c0<4)(hc:Chg (fun _=>False) W W'){v':Value}(hg:∀g,v'.ownBlock=some g→W.heap.size≤g∧g<W'.heap.size)
  (hrow:∀O:Nat→Prop,(∀b,v'.ownBlock=some b→O b)→SoP W' B O y'.1 y'.2 c0) (hsame:∀c (O:Nat→Prop),c<4→c≠c0→SoP W' B O y.1 y.2 c→SoP W' B O y'.1 y'.2 c) :
  PuS W0 W' B tg i (nuN W0 N v' (2+4*i+c0)) y' :=
 hp.row hc0 (v := .slice none 0 0) (fun b s=>by simp[Value.ownBlock] at s) (hc.mono (fun b r=>r.elim)) (by
  cases e:v'.ownBlock with
  | none=>left;rfl
  | some g=>right;exact⟨g,(hg g e).1,(hg g e).2,rfl⟩) y' hrow hsame
structure SlAt {β:Type}(enc:β→List Value)(k:Nat)(e:TypeId)(w3:World)(B:Nat)(wr:World)(l:List β)(v:Value):Prop where
 chg:Chg (fun _=>False) w3 wr
 own:OwnR enc k e B wr v l
 new:∀b,v.ownBlock=some b→w3.heap.size≤b
theorem SlAt.form {β:Type}{enc:β→List Value}{k:Nat}{e:TypeId}{w3 wr:World}{l:List β}{v:Value}(hk:∀y,(enc y).length=k)(h:SlAt enc k e w3 B wr l v):∃ad cap,v = .slice ad l.length cap:=by
 obtain⟨⟨sa,sc,sx⟩,hv,hsx,_⟩:=h.own.sl hk
 simp only at hsx
 subst hsx
 exact⟨sa,sc,hv⟩
theorem SlAt.next {β:Type}{enc:β→List Value}{k:Nat}{e:TypeId}{w3 wr wa w7:World}{l l':List β}{v v7:Value}(h:SlAt enc k e w3 B wr l v)(hb:Below wr.heap.size wr wa)(ho:OwnR enc k e B w7 v7 l')(hg:wa.grownBy w7 v.ownBlock)(hl:v7.ownBlock=v.ownBlock∨v7.ownBlock=some wa.heap.size):SlAt enc k e w3 B w7 l' v7:=by
 refine⟨h.chg.trans ((Chg.of_below hb).trans (Chg.of_grown (S:=fun b=>v.ownBlock=some b) hg (fun k q=>q)) (fun _ _ q=>q)) (fun b hb' r => ?_),ho,fun b r => ?_⟩
 ·have:=h.new b r
  omega
 ·rcases hl with e1 | e1
  ·exact h.new b (by rw[←e1];exact r)
  ·rw[e1] at r
   have:=Option.some.inj r
   have h1:=h.chg.size
   have h2:=hb.size
   omega
theorem rsetLen_hit (h:StAt w B tg S vo qs)(vt:SV)(hi:S[i]?=some x)(m:Nat)(hm:m≤4096) :
  Calls Tryz.prog 69 #[stV vo vt,.int .u64 (objW (i:Int)),.int .i64 (m:Int)] w fun e w'=>e = .returned (.tuple #[stV vo vt,.bool true])∧SWent w B tg (S.set i { x with el:=resL x.el m }) vo w':=by
 obtain⟨wb,hwb⟩:∃wb,wb=(w.alloc (.cells #[vo.val,vt.val] 33)).alloc (.cells #[.slice none 0 0,.slice none 0 0] 33):=⟨_,rfl⟩
 obtain⟨hbs,hbr,hB⟩:=boxS2 w vo vt
 rw[←hwb] at hbs hbr hB
 have hil:i<S.length:=(List.getElem?_eq_some_iff.1 hi).1
 have h2:=h.below hB
 have ka:=rat_any h2 vt hil
 obtain⟨g,cap,q,hv,hq,t1,hgl,hcell,hfz,hl1,hl2,hrow⟩:=h2.obj hi
 have hbig:=h.big
 have hsame:=h.same x (List.mem_of_getElem? hi)
 have HBw:Hid (B≤wb.heap.size):=by show _≤_;have:=h2.lt g (by omega);omega
 have HN:Hid (∀W,Below wb.heap.size wb W→(W.cell? ⟨w.heap.size,0,none⟩=some vo.val∧W.cell? ⟨w.heap.size,1,none⟩=some vt.val)∧(∀j u,(soC (x,q))[j]?=some u→W.cell? ⟨g,i*7+j,none⟩=some u)):=fun W r=>⟨(hbs.below r).ce,fun j u hj=>cells_below r _ _ (hcell j u hj)⟩
 have HBS:Hid (∀W,Below wb.heap.size wb W→BxS W w.heap.size vo vt):=fun W r=>hbs.below r
 have HP:Hid (∀W,Below wb.heap.size wb W→PuS wb W B tg i (fun _=>0) (x,q)):=fun W r=>(h2.pus hi hq).below r
 have HW:Hid (∀W N y,PuS wb W B tg i N y→y.1.ds.length=y.1.nm.length→Calls Tryz.prog 81 #[stV vo vt,.int .i64 (i:Int),soV y] W fun e w'=>e = .returned (stV vo vt)∧SWent wb B tg (S.set i y.1) vo w'):=fun W N y a b=>with_pus h2 vt hi hq a b
 have HE:Hid (∀S' W',SWent wb B tg S' vo W'→BxS W' (w.heap.size+1) .nil .nil∧BxS ((W'.setCell ⟨w.heap.size+1,0,none⟩ vo.val).setCell ⟨w.heap.size+1,1,none⟩ vt.val) (w.heap.size+1) vo vt∧SWent w B tg S' vo ((W'.setCell ⟨w.heap.size+1,0,none⟩ vo.val).setCell ⟨w.heap.size+1,1,none⟩ vt.val)):=fun S' W' s=>st_res h hB hbr s vt
 have hre:RowIn wC 1 24 B wb (fun b=>tg b=2+4*i+2) q.ve x.el:=h2.ob i x q 2 hi hq (by omega)
 obtain⟨q1,q2,q3,q4⟩:=hre.open rtW.len
 have H4:Hid (∀W W',Below wb.heap.size wb W→Chg (fun _=>False) W W'→∀j u,x.el[j]?=some u→∃ge,q.ve.ad=some ⟨ge,0,none⟩∧W'.cell? ⟨ge,j,none⟩=some (.int .u64 u)):=fun W W' r s j u hj=>by
  obtain⟨ge,e1,_,_,_,hc,_⟩:=q4 (by intro e;rw[e] at hj;simp at hj)
  have:=hc j u hj 0 _ rfl
  simp only[Nat.mul_one,Nat.add_zero] at this
  exact⟨ge,e1,s.cell (cells_below r _ _ this) (fun r=>r)⟩
 have HEL:Hid (x.el.length≤maxLen):=by show _≤_;omega
 have HQ1:Hid (q.ve.len=x.el.length):=q1
 have hm0:¬((m:Int)<0):=by omega
 have hm1:¬((4096:Int)<(m:Int)):=by omega
 have hm2:¬((m:Int)>4096):=by omega
 have HLO:Hid (w.heap.size<wb.heap.size∧x.ds.length=x.nm.length):=⟨hbs.lt,hsame⟩
 have hii:(i:Int)<(S.length:Int):=by omega
 have hsl:(S.length:Int)≤65536:=by omega
 obtain⟨b0,b1⟩:=hbs.ce
 have h0i:¬((i:Int)<0):=by omega
 have hvv:vo.val = .slice (some ⟨g,0,none⟩) S.length cap:=by rw[hv];rfl
 have HVV:Hid (vo.val = .slice (some ⟨g,0,none⟩) S.length cap):=hvv
 unfold stV at ka ⊢
 rw[hvv] at hwb ka b0 ⊢
 rw[show vt.val = .slice vt.ad vt.len vt.cap from rfl] at *
 generalize objW (i:Int)=o at *
 clear h h2 hB hbs hbr hq t1 hgl hcell hfz hrow hi hsame hil hbig hv hvv hre q1 q2 q3 q4
 go_enter Tryz.func69,Tryz.ntmps69
 go_upto_region 1 with fail
 rw[←hwb]
 clear hwb
 go_wp2_with fail
 refine ka.mono ?_
 rintro e w2 ⟨rfl,hB2⟩
 obtain⟨⟨b0,b1⟩,hc⟩:=HN.out w2 hB2
 rw[HVV.out] at b0
 have c0:=hc 0 _ rfl
 have c1:=hc 1 _ rfl
 have c2:=hc 2 _ rfl
 have c3:=hc 3 _ rfl
 have c4:=hc 4 _ rfl
 have c5:=hc 5 _ rfl
 have c6:=hc 6 _ rfl
 simp only[Nat.add_zero] at c0 c3 c4 c5 c6
 unfold SV.val at c3 c4 c5 c6
 simp only at c0 c1 c2 c3 c4 c5 c6
 have HB2:Hid (Below wb.heap.size wb w2):=hB2
 clear ka hB2 hc
 have HO3:Hid (BxO (w2.alloc (.cells #[.int .i64 x.kind,.int .u64 x.proto,.bool x.shut,.slice q.vn.ad q.vn.len q.vn.cap,.slice q.vd.ad q.vd.len q.vd.cap,.slice q.ve.ad q.ve.len q.ve.cap,.slice q.vi.ad q.vi.len q.vi.cap] 71)) w2.heap.size (x,q)):=BxO.new w2 (x,q)
 have HB3:Hid (Below wb.heap.size wb (w2.alloc (.cells #[.int .i64 x.kind,.int .u64 x.proto,.bool x.shut,.slice q.vn.ad q.vn.len q.vn.cap,.slice q.vd.ad q.vd.len q.vd.cap,.slice q.ve.ad q.ve.len q.ve.cap,.slice q.vi.ad q.vi.len q.vi.cap] 71))∧wb.heap.size≤w2.heap.size):=⟨bel_sm' HB2.out ((Below.refl _ _).alloc (Nat.le_refl _) _),HB2.out.size⟩
 clear HB2
 go_upto_region 5 with fail
 generalize w2.alloc (.cells #[.int .i64 x.kind,.int .u64 x.proto,.bool x.shut,.slice q.vn.ad q.vn.len q.vn.cap,.slice q.vd.ad q.vd.len q.vd.cap,.slice q.ve.ad q.ve.len q.ve.cap,.slice q.vi.ad q.vi.len q.vi.cap] 71)=w3 at *
 generalize w2.heap.size=bo at *
 have HBB:Hid (B≤w3.heap.size):=Nat.le_trans HBw.out HB3.out.1.size
 have HC4:Hid (∀W',Chg (fun _=>False) w3 W'→BxO W' bo (x,q)∧∀j u,x.el[j]?=some u→∃ge,q.ve.ad=some ⟨ge,0,none⟩∧W'.cell? ⟨ge,j,none⟩=some (.int .u64 u)):=fun W' s=>⟨HO3.out.kept s (fun r=>r),H4.out w3 W' HB3.out.1 s⟩
 have HS0:Hid (SlAt wC 1 24 w3 B w3 (resL x.el 0) (.slice none 0 0)):=by
  show SlAt _ _ _ _ _ _ _ _
  rw[resL_zero]
  exact⟨Chg.refl _ _,OwnR.nil _ _,fun b r=>by simp[Value.ownBlock] at r⟩
 clear c0 c1 c2 c3 c4 c5 c6 b0 b1 HN H4
 go_wp2_with fail
 go_loopw [10,11] (fun p r wr=>∃(j:Nat),j≤m∧Hid (SlAt wC 1 24 w3 B wr (resL x.el j) p)∧r = .int .i64 (j:Int)) (fun p r wr=>((m:Int) - intOf r).toNat)
 case atStart=>exact⟨0,Nat.zero_le _,HS0,rfl⟩
 case round =>
  obtain⟨j,hj,HR,rfl⟩:=hrel
  obtain⟨ad,cp,hv7⟩:=HR.out.form rtW.len
  rw[resL_size] at hv7
  subst hv7
  obtain⟨hbx,hel⟩:=HC4.out wr HR.out.chg
  have HO7:=(show Hid _ from hbx)
  obtain⟨_,_,_,_,_,c5,_⟩:=hbx.ce
  unfold SV.val at c5
  simp only at c5
  by_cases c:j<m
  ·have hjj:(j:Int)<(m:Int):=by omega
   have hw1:IntKind.i64.wrap ((j:Int)+1)=((j+1:Nat):Int):=by rw[IntKind.wrap_i64];omega
   have HJ:Hid (j<m∧m≤4096):=⟨c,hm⟩
   have hql:(q.ve.len:Int)≤9223372036854775807:=by have:=HEL.out;rw[HQ1.out];unfold maxLen at this;omega
   by_cases cl:j<x.el.length
   ·have hex:∃u,x.el[j]?=some u:=⟨_,List.getElem?_eq_getElem cl⟩
    obtain⟨u,hu⟩:=hex
    obtain⟨ge,hge,du⟩:=hel j u hu
    rw[hge] at c5
    have hjl:(j:Int)<(q.ve.len:Int):=by rw[HQ1.out];omega
    have hj0:¬((j:Int)<0):=by omega
    have HAL:Hid (Below wr.heap.size wr (wr.alloc (.cells #[.int .u64 u] 24))):=(Below.refl _ _).alloc (Nat.le_refl _) _
    have HOW:Hid (OwnR wC 1 24 B (wr.alloc (.cells #[.int .u64 u] 24)) (.slice ad j cp) (resL x.el j)):=OwnR.below HR.out.own HAL.out
    have HONE:Hid (Sli.ok wC 1 (wr.alloc (.cells #[.int .u64 u] 24)) ⟨some ⟨wr.heap.size,0,none⟩,1,[u]⟩):=one_sli rtW (at_new _ _) rfl
    have HSZ:Hid (B≤(wr.alloc (.cells #[.int .u64 u] 24)).heap.size):=Nat.le_trans HBB.out (Nat.le_trans HR.out.chg.size HAL.out.size)
    have HBX:Hid ((((resL x.el j).length+1)+((resL x.el j).length+1) / 4+192)*8≤281474976710656∧(resL x.el j).length+1≤maxLen):=by
     have h1:=HJ.out.1
     have h2:=HJ.out.2
     rw[resL_size]
     exact⟨by omega,by unfold maxLen;omega⟩
    have HEQ:Hid (resL x.el (j+1)=resL x.el j++[u]):=resL_in hu
    clear hel hu hge cl c hbx hj
    go_wp2_with (at_builtin;refine app_row rtW rfl _ _ rfl B (.slice ad j cp) (resL x.el j) (by rfl) HOW.out ⟨some ⟨wr.heap.size,0,none⟩,1,[u]⟩ (by rfl) HONE.out HBX.out.2 HBX.out.1 HSZ.out ?_)
    intro v7 w7 ho7 hg7 hl7
    have HN7:Hid (SlAt wC 1 24 w3 B w7 (resL x.el (j+1)) v7):=HR.out.next HAL.out (by rw[HEQ.out];exact ho7) hg7 (hl7.imp id (fun e=>e.trans (by rw[size_new])))
    clear ho7 hg7 hl7 HAL HOW HONE HSZ HBX HEQ HR
    go_wp2_with fail
    refine⟨⟨j+1,by have:=HJ.out.1;omega,HN7,by first | rfl | trivial⟩,?_⟩
    have:=HJ.out.1
    simp[intOf]
    omega
   ·have hjl:¬((j:Int)<(q.ve.len:Int)):=by rw[HQ1.out];omega
    have hjl0:x.el.length≤j:=by omega
    have HAL:Hid (Below wr.heap.size wr (wr.alloc (.cells #[.int .u64 18445336698825998340] 24))):=(Below.refl _ _).alloc (Nat.le_refl _) _
    have HOW:Hid (OwnR wC 1 24 B (wr.alloc (.cells #[.int .u64 18445336698825998340] 24)) (.slice ad j cp) (resL x.el j)):=OwnR.below HR.out.own HAL.out
    have HONE:Hid (Sli.ok wC 1 (wr.alloc (.cells #[.int .u64 18445336698825998340] 24)) ⟨some ⟨wr.heap.size,0,none⟩,1,[holW]⟩):=one_sli rtW (at_new _ _) rfl
    have HSZ:Hid (B≤(wr.alloc (.cells #[.int .u64 18445336698825998340] 24)).heap.size):=Nat.le_trans HBB.out (Nat.le_trans HR.out.chg.size HAL.out.size)
    have HBX:Hid ((((resL x.el j).length+1)+((resL x.el j).length+1) / 4+192)*8≤281474976710656∧(resL x.el j).length+1≤maxLen):=by
     have h1:=HJ.out.1
     have h2:=HJ.out.2
     rw[resL_size]
     exact⟨by omega,by unfold maxLen;omega⟩
    have HEQ:Hid (resL x.el (j+1)=resL x.el j++[holW]):=resL_out hjl0
    clear hel cl c hbx hj hjl0
    go_wp2_with (at_builtin;refine app_row rtW rfl _ _ rfl B (.slice ad j cp) (resL x.el j) (by rfl) HOW.out ⟨some ⟨wr.heap.size,0,none⟩,1,[holW]⟩ (by rfl) HONE.out HBX.out.2 HBX.out.1 HSZ.out ?_)
    intro v7 w7 ho7 hg7 hl7
    have HN7:Hid (SlAt wC 1 24 w3 B w7 (resL x.el (j+1)) v7):=HR.out.next HAL.out (by rw[HEQ.out];exact ho7) hg7 (hl7.imp id (fun e=>e.trans (by rw[size_new])))
    clear ho7 hg7 hl7 HAL HOW HONE HSZ HBX HEQ HR
    go_wp2_with fail
    refine⟨⟨j+1,by have:=HJ.out.1;omega,HN7,by first | rfl | trivial⟩,?_⟩
    have:=HJ.out.1
    simp[intOf]
    omega
  ·obtain rfl:j=m:=by omega
   have hjj:¬((j:Int)<(j:Int)):=by omega
   have hp8:=((HP.out w3 HB3.out.1).fresh2 (c0:=2) (by omega) HR.out.chg (v' := .slice ad j cp) (fun g e=>⟨HR.out.new g e,(OwnR.lt HR.out.own g e).2⟩) (y':=({ x with el:=resL x.el j },{ q with ve:=⟨ad,j,cp⟩ })) (fun O hO=>⟨HR.out.own,hO⟩) (fun c O hc4 hcn hs=>by
    rcases (show c=0∨c=1∨c=3 by omega) with rfl | rfl | rfl
    ·exact hs
    ·exact hs
    ·exact hs))
   have hbo:=hbx.lt
   have hbo3:=HO3.out.lt
   have hlo:=HB3.out.2
   have hset:Chg (fun b=>b=bo) wr (wr.setCell ⟨bo,5,none⟩ (.slice ad j cp)):=Chg.set (S:=fun b=>b=bo) wr ⟨bo,5,none⟩ _ rfl
   have hnew:=HR.out.new
   have hp9:=hp8.own hset (fun b _ r=>by
    subst r
    refine⟨hlo,?_⟩
    unfold nuN
    rw[if_neg]
    rintro⟨e,_⟩
    have:=hnew _ e
    omega)
   have HP8:=(show Hid _ from hp9)
   have HO8:Hid (BxO (wr.setCell ⟨bo,5,none⟩ (.slice ad j cp)) bo ({ x with el:=resL x.el j },{ q with ve:=⟨ad,j,cp⟩ })):=heap_setCell_same _ bo 5 _ _ _ hbx
   have HS8:Hid (BxS (wr.setCell ⟨bo,5,none⟩ (.slice ad j cp)) w.heap.size vo vt):=((HBS.out w3 HB3.out.1).kept HR.out.chg (fun r=>r)).kept hset (by have:=HLO.out.1;omega)
   have e5:=hbx.fz 5
   clear hp8 hp9 hbx hbo hbo3 hlo hset hnew hel HR HO7 HB3 HO3 HP HBS HC4 HS0 HQ1 HEL HBB hj c hm0 hm1 hm2
   go_upto_region 13 with fail
   generalize wr.setCell ⟨bo,5,none⟩ (.slice ad j cp)=w8 at *
   obtain⟨b0,b1⟩:=HS8.out.ce
   rw[HVV.out] at b0
   obtain⟨c0,c1,c2,c3,c4,c5,c6⟩:=HO8.out.ce
   have kw:=HW.out w8 _ _ HP8.out HLO.out.2
   unfold stV soV at kw
   rw[HVV.out] at kw
   unfold SV.val at c3 c4 c5 c6 kw b1
   simp only at c0 c1 c2 c3 c4 c5 c6 kw
   clear HW HO8 HS8 HP8 e5
   go_wp2_with fail
   refine kw.mono ?_
   rintro e w5 ⟨rfl,hs5⟩
   obtain⟨k1,k2,k3⟩:=HE.out _ w5 hs5
   obtain⟨r0,r1⟩:=k1.ce
   obtain⟨f0,f1⟩:=k1.fz
   rw[HVV.out] at k2 k3
   have HF:=(show Hid _ from And.intro k2 k3)
   clear kw hs5 HE k1 k2 k3 b0 b1 c0 c1 c2 c3 c4 c5 c6
   unfold SV.nil SV.val at r0 r1
   simp only at r0 r1
   go_wp2_with fail
   refine bodyPost_ret (res2 rfl _ _ (w.heap.size+1) 33 _ (0,0) _ rfl HF.out.1 Tryz.underlying33 rfl (by kernel_rfl)) rfl ?_
   exact⟨by rw[HVV.out];rfl,HF.out.2⟩
end
section
variable {w W W' w' w1:World}{B b:Nat}{tg:Nat→Nat}{S S':List So}{vo vt:SV}{qs:List QV}{i:Nat}{x x':So}{q:QV}
theorem rsetLen_miss (h:StAt w B tg S vo qs)(vt:SV)(n:Int)(o:Int)(o0:0≤o)(o1:o<18446744073709551616)(hm:obS S o=none) :
  Calls Tryz.prog 69 #[stV vo vt,.int .u64 o,.int .i64 n] w fun e w'=>e = .returned (.tuple #[stV vo vt,.bool false])∧SWent w B tg S vo w':=by
 obtain⟨wb,hwb⟩:∃wb,wb=(w.alloc (.cells #[vo.val,vt.val] 33)).alloc (.cells #[.slice none 0 0,.slice none 0 0] 33):=⟨_,rfl⟩
 obtain⟨hbs,hbr,hB⟩:=boxS2 w vo vt
 rw[←hwb] at hbs hbr hB
 have ka:=rat_miss (h.below hB) vt o o0 o1 hm
 have HBS:Hid (∀W,Below wb.heap.size wb W→W.cell? ⟨w.heap.size,0,none⟩=some vo.val∧W.cell? ⟨w.heap.size,1,none⟩=some vt.val):=fun W r=>(hbs.below r).ce
 have HE:Hid (∀W,Below wb.heap.size wb W→BxS W (w.heap.size+1) .nil .nil∧BxS ((W.setCell ⟨w.heap.size+1,0,none⟩ vo.val).setCell ⟨w.heap.size+1,1,none⟩ vt.val) (w.heap.size+1) vo vt∧SWent w B tg S vo ((W.setCell ⟨w.heap.size+1,0,none⟩ vo.val).setCell ⟨w.heap.size+1,1,none⟩ vt.val)):=fun W r=>st_res h (bel_sm' hB r) (hbr.below r) (SWent.same (h.below (bel_sm' hB r)) (Below.refl _ _)) vt
 obtain⟨b0,b1⟩:=hbs.ce
 obtain⟨va,vl,vc⟩:=vo
 obtain⟨ta,tl,tc⟩:=vt
 rw[show(SV.mk va vl vc).val = .slice va vl vc from rfl,show(SV.mk ta tl tc).val = .slice ta tl tc from rfl] at HBS HE hwb
 rw[show(SV.mk va vl vc).val = .slice va vl vc from rfl] at b0
 rw[show(SV.mk ta tl tc).val = .slice ta tl tc from rfl] at b1
 unfold stV at ka ⊢
 rw[show(SV.mk va vl vc).val = .slice va vl vc from rfl,show(SV.mk ta tl tc).val = .slice ta tl tc from rfl] at ka ⊢
 clear h hB hbs hbr hm
 go_enter Tryz.func69,Tryz.ntmps69
 go_upto_region 1 with fail
 rw[←hwb]
 clear hwb
 go_wp2_with fail
 refine ka.mono ?_
 rintro e w2 ⟨rfl,hB2⟩
 obtain⟨b0,b1⟩:=HBS.out w2 hB2
 obtain⟨k1,k2,k3⟩:=HE.out w2 hB2
 obtain⟨r0,r1⟩:=k1.ce
 obtain⟨f0,f1⟩:=k1.fz
 have HF:=(show Hid _ from And.intro k2 k3)
 clear ka hB2 HE HBS k1 k2 k3
 unfold SV.nil SV.val at r0 r1
 simp only at r0 r1
 go_wp2_with fail
 refine bodyPost_ret (res2 rfl _ _ (w.heap.size+1) 33 _ (0,0) _ rfl HF.out.1 Tryz.underlying33 rfl (by kernel_rfl)) rfl ?_
 exact⟨rfl,HF.out.2⟩
theorem rsetLen_low (h:StAt w B tg S vo qs)(vt:SV)(hi:S[i]?=some x)(n:Int)(hn:n<0) :
  Calls Tryz.prog 69 #[stV vo vt,.int .u64 (objW (i:Int)),.int .i64 n] w fun e w'=>e = .returned (.tuple #[stV vo vt,.bool false])∧SWent w B tg S vo w':=by
 obtain⟨wb,hwb⟩:∃wb,wb=(w.alloc (.cells #[vo.val,vt.val] 33)).alloc (.cells #[.slice none 0 0,.slice none 0 0] 33):=⟨_,rfl⟩
 obtain⟨hbs,hbr,hB⟩:=boxS2 w vo vt
 rw[←hwb] at hbs hbr hB
 have hil:i<S.length:=(List.getElem?_eq_some_iff.1 hi).1
 have ka:=rat_any (h.below hB) vt hil
 have h0i:¬((i:Int)<0):=by omega
 have HBS:Hid (∀W,Below wb.heap.size wb W→W.cell? ⟨w.heap.size,0,none⟩=some vo.val∧W.cell? ⟨w.heap.size,1,none⟩=some vt.val):=fun W r=>(hbs.below r).ce
 have HE:Hid (∀W,Below wb.heap.size wb W→BxS W (w.heap.size+1) .nil .nil∧BxS ((W.setCell ⟨w.heap.size+1,0,none⟩ vo.val).setCell ⟨w.heap.size+1,1,none⟩ vt.val) (w.heap.size+1) vo vt∧SWent w B tg S vo ((W.setCell ⟨w.heap.size+1,0,none⟩ vo.val).setCell ⟨w.heap.size+1,1,none⟩ vt.val)):=fun W r=>st_res h (bel_sm' hB r) (hbr.below r) (SWent.same (h.below (bel_sm' hB r)) (Below.refl _ _)) vt
 obtain⟨b0,b1⟩:=hbs.ce
 obtain⟨va,vl,vc⟩:=vo
 obtain⟨ta,tl,tc⟩:=vt
 rw[show(SV.mk va vl vc).val = .slice va vl vc from rfl,show(SV.mk ta tl tc).val = .slice ta tl tc from rfl] at HBS HE hwb
 rw[show(SV.mk va vl vc).val = .slice va vl vc from rfl] at b0
 rw[show(SV.mk ta tl tc).val = .slice ta tl tc from rfl] at b1
 unfold stV at ka ⊢
 rw[show(SV.mk va vl vc).val = .slice va vl vc from rfl,show(SV.mk ta tl tc).val = .slice ta tl tc from rfl] at ka ⊢
 clear h hB hbs hbr hi hil
 generalize objW (i:Int)=o at *
 go_enter Tryz.func69,Tryz.ntmps69
 go_upto_region 1 with fail
 rw[←hwb]
 clear hwb
 go_wp2_with fail
 refine ka.mono ?_
 rintro e w2 ⟨rfl,hB2⟩
 obtain⟨b0,b1⟩:=HBS.out w2 hB2
 obtain⟨k1,k2,k3⟩:=HE.out w2 hB2
 obtain⟨r0,r1⟩:=k1.ce
 obtain⟨f0,f1⟩:=k1.fz
 have HF:=(show Hid _ from And.intro k2 k3)
 clear ka hB2 HE HBS k1 k2 k3
 unfold SV.nil SV.val at r0 r1
 simp only at r0 r1
 go_wp2_with fail
 refine bodyPost_ret (res2 rfl _ _ (w.heap.size+1) 33 _ (0,0) _ rfl HF.out.1 Tryz.underlying33 rfl (by kernel_rfl)) rfl ?_
 exact⟨rfl,HF.out.2⟩
theorem rsetLen_high (h:StAt w B tg S vo qs)(vt:SV)(hi:S[i]?=some x)(n:Int)(hn:4096<n) :
  Calls Tryz.prog 69 #[stV vo vt,.int .u64 (objW (i:Int)),.int .i64 n] w fun e w'=>e = .returned (.tuple #[stV vo vt,.bool false])∧SWent w B tg S vo w':=by
 obtain⟨wb,hwb⟩:∃wb,wb=(w.alloc (.cells #[vo.val,vt.val] 33)).alloc (.cells #[.slice none 0 0,.slice none 0 0] 33):=⟨_,rfl⟩
 obtain⟨hbs,hbr,hB⟩:=boxS2 w vo vt
 rw[←hwb] at hbs hbr hB
 have hil:i<S.length:=(List.getElem?_eq_some_iff.1 hi).1
 have ka:=rat_any (h.below hB) vt hil
 have h0i:¬((i:Int)<0):=by omega
 have hn0:¬(n<0):=by omega
 have hn1:n>4096:=hn
 have HBS:Hid (∀W,Below wb.heap.size wb W→W.cell? ⟨w.heap.size,0,none⟩=some vo.val∧W.cell? ⟨w.heap.size,1,none⟩=some vt.val):=fun W r=>(hbs.below r).ce
 have HE:Hid (∀W,Below wb.heap.size wb W→BxS W (w.heap.size+1) .nil .nil∧BxS ((W.setCell ⟨w.heap.size+1,0,none⟩ vo.val).setCell ⟨w.heap.size+1,1,none⟩ vt.val) (w.heap.size+1) vo vt∧SWent w B tg S vo ((W.setCell ⟨w.heap.size+1,0,none⟩ vo.val).setCell ⟨w.heap.size+1,1,none⟩ vt.val)):=fun W r=>st_res h (bel_sm' hB r) (hbr.below r) (SWent.same (h.below (bel_sm' hB r)) (Below.refl _ _)) vt
 obtain⟨b0,b1⟩:=hbs.ce
 obtain⟨va,vl,vc⟩:=vo
 obtain⟨ta,tl,tc⟩:=vt
 rw[show(SV.mk va vl vc).val = .slice va vl vc from rfl,show(SV.mk ta tl tc).val = .slice ta tl tc from rfl] at HBS HE hwb
 rw[show(SV.mk va vl vc).val = .slice va vl vc from rfl] at b0
 rw[show(SV.mk ta tl tc).val = .slice ta tl tc from rfl] at b1
 unfold stV at ka ⊢
 rw[show(SV.mk va vl vc).val = .slice va vl vc from rfl,show(SV.mk ta tl tc).val = .slice ta tl tc from rfl] at ka ⊢
 clear h hB hbs hbr hi hil
 generalize objW (i:Int)=o at *
 go_enter Tryz.func69,Tryz.ntmps69
 go_upto_region 1 with fail
 rw[←hwb]
 clear hwb
 go_wp2_with fail
 refine ka.mono ?_
 rintro e w2 ⟨rfl,hB2⟩
 obtain⟨b0,b1⟩:=HBS.out w2 hB2
 obtain⟨k1,k2,k3⟩:=HE.out w2 hB2
 obtain⟨r0,r1⟩:=k1.ce
 obtain⟨f0,f1⟩:=k1.fz
 have HF:=(show Hid _ from And.intro k2 k3)
 clear ka hB2 HE HBS k1 k2 k3
 unfold SV.nil SV.val at r0 r1
 simp only at r0 r1
 go_wp2_with fail
 refine bodyPost_ret (res2 rfl _ _ (w.heap.size+1) 33 _ (0,0) _ rfl HF.out.1 Tryz.underlying33 rfl (by kernel_rfl)) rfl ?_
 exact⟨rfl,HF.out.2⟩
end
end Go.Proofs.YtahhionlbfhinabGreatDoor.Hp
