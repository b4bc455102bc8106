/- VX, VY -/
import Derived.Test.YtahhionlbfhinabGreatDoorB17
import Derived.Deep.CutBlock
import Derived.Deep.CutRange
set_option linter.unusedVariables false
set_option linter.unusedSimpArgs false
set_option maxRecDepth 100000
set_option maxHeartbeats 40000000
namespace Go.Proofs.YtahhionlbfhinabGreatDoor.Hp
open Go.RowKit
structure SeT (w W:World)(B:Nat)(tg tg':Nat→Nat)(SS:List So)(vo vt:SV)(qs':List QV):Prop where
 st:StAt W B tg' SS vo qs'
 chg:Chg (fun b=>tg b≠0∨w.heap.size≤b) w W
 tn:∀b,tg' b≠0→tg b≠0∨w.heap.size≤b
 bs:BxS W w.heap.size vo vt
 br:BxS W (w.heap.size+1) .nil .nil
 z0:tg' w.heap.size=0
 z1:tg' (w.heap.size+1)=0
section
variable {w W W' w' w1 wb:World}{B b n:Nat}{tg tg':Nat→Nat}{S SS S':List So}{vo vt:SV}{qs qs':List QV}{i:Nat}{x x':So}{q:QV}
theorem StAt.lo (h:StAt W B tg S vo qs)(hi:S[i]?=some x):B≤W.heap.size:=by
 obtain⟨g,cap,q,hv,hq,t1,hgl,_⟩:=h.obj hi
 have:=h.lt g (by omega)
 omega
theorem SeT.start (h:StAt w B tg S vo qs)(hbs:BxS wb w.heap.size vo vt)(hbr:BxS wb (w.heap.size+1) .nil .nil)(hB:Below w.heap.size w wb):SeT w wb B tg tg S vo vt qs:=by
 have hz:∀b,w.heap.size≤b→tg b=0:=fun b hb=>by
  rcases Nat.eq_zero_or_pos (tg b) with e | e
  ·exact e
  ·have:=(h.lt b (by omega)).2
   omega
 exact⟨h.below hB,Chg.of_below hB,fun b r=>Or.inl r,hbs,hbr,hz _ (Nat.le_refl _),hz _ (by omega)⟩
theorem SeT.below (h:SeT w W B tg tg' SS vo vt qs')(hb:Below W.heap.size W W'):SeT w W' B tg tg' SS vo vt qs' :=
 ⟨h.st.below hb,h.chg.trans (Chg.of_below (S:=fun _=>False) hb) (fun _ _ r=>r.elim),h.tn,h.bs.below hb,h.br.below hb,h.z0,h.z1⟩
theorem SeT.step (h:SeT w W B tg tg' SS vo vt qs')(hs:SWent W B tg' S' vo W'):∃tg2 qs2,SeT w W' B tg tg2 S' vo vt qs2:=by
 obtain⟨tg2,qs2,g1,g2,g3⟩:=hs
 have hz:∀b,b<W.heap.size→tg' b=0→tg2 b=0:=fun b hb e=>by
  rcases Nat.eq_zero_or_pos (tg2 b) with c | c
  ·exact c
  ·rcases g3 b (by omega) with r | r
   ·exact absurd e r
   ·omega
 refine⟨tg2,qs2,g1,h.chg.trans g2 (fun b _ r=>h.tn b r),fun b r => ?_,h.bs.kept g2 (fun r=>r h.z0),h.br.kept g2 (fun r=>r h.z1),hz _ h.bs.lt h.z0,hz _ h.br.lt h.z1⟩
 rcases g3 b r with c | c
 ·exact h.tn b c
 ·exact Or.inr (Nat.le_trans h.chg.size c)
theorem SeT.told (h:SeT w W B tg tg' SS vo vt qs'):SeT w ((W.setCell ⟨w.heap.size,0,none⟩ vo.val).setCell ⟨w.heap.size,1,none⟩ vt.val) B tg tg' SS vo vt qs':=by
 have hc:Chg (fun b=>b=w.heap.size) W ((W.setCell ⟨w.heap.size,0,none⟩ vo.val).setCell ⟨w.heap.size,1,none⟩ vt.val) :=
  (Chg.set (S:=fun b=>b=w.heap.size) W ⟨w.heap.size,0,none⟩ vo.val rfl).trans (Chg.set (S:=fun b=>b=w.heap.size) _ ⟨w.heap.size,1,none⟩ vt.val rfl) (fun _ _ e=>e)
 have z0:=heap_setCell_same _ w.heap.size 0 _ _ vo.val h.bs
 have z1:=heap_setCell_same _ w.heap.size 1 _ _ vt.val z0
 exact⟨h.st.kept hc (fun b r e=>r (by rw[e];exact h.z0)),h.chg.trans hc (fun b _ e=>Or.inr (by omega)),h.tn,z1,h.br.kept hc (by omega),h.z0,h.z1⟩
theorem SeT.fin (h:SeT w W B tg tg' SS vo vt qs')(hs:SWent W B tg' S' vo W') :
  BxS W' (w.heap.size+1) .nil .nil∧BxS ((W'.setCell ⟨w.heap.size+1,0,none⟩ vo.val).setCell ⟨w.heap.size+1,1,none⟩ vt.val) (w.heap.size+1) vo vt∧SWent w B tg S' vo ((W'.setCell ⟨w.heap.size+1,0,none⟩ vo.val).setCell ⟨w.heap.size+1,1,none⟩ vt.val):=by
 obtain⟨tg2,qs2,k⟩:=h.step hs
 have hc:Chg (fun b=>b=w.heap.size+1) W' ((W'.setCell ⟨w.heap.size+1,0,none⟩ vo.val).setCell ⟨w.heap.size+1,1,none⟩ vt.val) :=
  (Chg.set (S:=fun b=>b=w.heap.size+1) W' ⟨w.heap.size+1,0,none⟩ vo.val rfl).trans (Chg.set (S:=fun b=>b=w.heap.size+1) _ ⟨w.heap.size+1,1,none⟩ vt.val rfl) (fun _ _ e=>e)
 have z0:=heap_setCell_same _ (w.heap.size+1) 0 _ _ vo.val k.br
 have z1:=heap_setCell_same _ (w.heap.size+1) 1 _ _ vt.val z0
 have k4:=k.chg.trans hc (fun b _ e=>Or.inr (by omega))
 exact⟨k.br,z1,tg2,qs2,k.st.kept hc (fun b r e=>r (by rw[e];exact k.z1)),⟨k4.os,k4.tape,k4.output,k4.size,fun b hb' hn=>k4.block b hb' (fun r=>by rcases r with r | r;exact hn r;omega)⟩,k.tn⟩
def padE (el:List Int)(n:Nat):List Int:=if n<el.length then el else resL el (n+1)
theorem padE_lt (el:List Int)(n:Nat):n<(padE el n).length:=by
 unfold padE
 by_cases c:n<el.length
 ·rw[if_pos c];exact c
 ·rw[if_neg c,resL_size];omega
theorem padE_le {el:List Int}{n:Nat}(h1:el.length≤4096)(h2:n<4096):(padE el n).length≤4096:=by
 unfold padE
 by_cases c:n<el.length
 ·rw[if_pos c];exact h1
 ·rw[if_neg c,resL_size];omega
def SeE (w wx:World)(B:Nat)(tg:Nat→Nat)(S:List So)(vo vt:SV)(i:Nat)(x:So)(n:Nat):Prop:=∃tg' qs',SeT w wx B tg tg' (S.set i { x with el:=padE x.el n }) vo vt qs'
theorem rsetElem_hit (h:StAt w B tg S vo qs)(vt:SV)(hi:S[i]?=some x)(n:Nat)(hn:n<4096)(hx:x.el.length≤4096)(v:Int) :
  Calls Tryz.prog 70 #[stV vo vt,.int .u64 (objW (i:Int)),.int .i64 (n:Int),.int .u64 v] w fun e w'=>e = .returned (.tuple #[stV vo vt,.bool true])∧SWent w B tg (S.set i { x with el:=(padE x.el n).set n v }) vo w':=by
 obtain⟨wb,hwb⟩:∃wb,wb=(w.alloc (.cells #[vo.val,vt.val] 33)).alloc (.cells #[.slice none 0 0,.slice none 0 0] 33):=⟨_,rfl⟩
 obtain⟨hbs,hbr,hB⟩:=boxS2 w vo vt
 rw[←hwb] at hbs hbr hB
 have hil:i<S.length:=(List.getElem?_eq_some_iff.1 hi).1
 have hse:=SeT.start h hbs hbr hB
 have h2:=h.below hB
 have ka:=rat_any h2 vt hil
 obtain⟨g,cap,q,hv,hq,t1,hgl,hcell,hfz,hl1,hl2,hrow⟩:=h2.obj hi
 have hbig:=h.big
 have hsame:=h.same x (List.mem_of_getElem? hi)
 have HSE:Hid (∀W,Below wb.heap.size wb W→SeT w W B tg tg S vo vt qs):=fun W r=>hse.below r
 have HLE:Hid (∀W,SeT w W B tg tg S vo vt qs→Calls Tryz.prog 78 #[stV vo vt,.int .u64 (objW (i:Int))] W fun e w'=>e = .returned (.int .i64 (x.el.length:Int))∧Below W.heap.size W w'):=fun W r=>rlen_hit r.st vt hi
 have HSL:Hid (∀W,SeT w W B tg tg S vo vt qs→Calls Tryz.prog 69 #[stV vo vt,.int .u64 (objW (i:Int)),.int .i64 ((n+1:Nat):Int)] W fun e w'=>e = .returned (.tuple #[stV vo vt,.bool true])∧SWent W B tg (S.set i { x with el:=resL x.el (n+1) }) vo w'):=fun W r=>rsetLen_hit r.st vt hi (n+1) (by omega)
 have HAL:Hid (∀W,Below W.heap.size W (W.alloc (.cells #[vo.val,vt.val] 33))):=fun W=>(Below.refl _ _).alloc (Nat.le_refl _) _
 have HIN:Hid (S[i]?=some x∧i<S.length∧x.el.length≤4096∧n<4096∧x.ds.length=x.nm.length):=⟨hi,hil,hx,hn,hsame⟩
 have hn0:¬((n:Int)<0):=by omega
 have hn1:¬((4096:Int)≤(n:Int)):=by omega
 have hn2:¬((n:Int)≥4096):=by omega
 have hii:(i:Int)<(S.length:Int):=by omega
 have hsl:(S.length:Int)≤65536:=by omega
 obtain⟨b0,b1⟩:=hbs.ce
 have h0i:¬((i:Int)<0):=by omega
 have hw1:IntKind.i64.wrap ((n:Int)+1)=((n+1:Nat):Int):=by rw[IntKind.wrap_i64];omega
 have hvv:vo.val = .slice (some ⟨g,0,none⟩) S.length cap:=by rw[hv];rfl
 have HVV:Hid (vo.val = .slice (some ⟨g,0,none⟩) S.length cap):=hvv
 unfold stV at ka ⊢
 rw[hvv] at hwb ka b0 ⊢
 rw[show vt.val = .slice vt.ad vt.len vt.cap from rfl] at *
 have HOB:Hid (∀W tg' qs' SS,SS.length=S.length→SeT w W B tg tg' SS vo vt qs'→Calls Tryz.prog 9 #[stV vo vt,.int .u64 (objW (i:Int))] W fun e w'=>e = .returned (.int .i64 (i:Int))∧Below W.heap.size W w'):=fun W tg' qs' SS e r=>rat_any r.st vt (by rw[e];exact hil)
 generalize objW (i:Int)=o at *
 clear h h2 hB hbs hbr hq t1 hgl hcell hfz hrow hi hsame hil hbig hv hvv hse
 go_enter Tryz.func70,Tryz.ntmps70
 go_upto_region 1 with fail
 rw[←hwb]
 clear hwb
 go_wp2_with fail
 refine ka.mono ?_
 rintro e w2 ⟨rfl,hB2⟩
 have hs2:=HSE.out w2 hB2
 obtain⟨b0,b1⟩:=hs2.bs.ce
 rw[HVV.out] at b0
 unfold SV.val at b1
 have kl:=HLE.out w2 hs2
 unfold stV at kl
 rw[HVV.out] at kl
 unfold SV.val at kl
 have HS2:=(show Hid _ from hs2)
 clear ka hB2 hs2 HSE HLE
 try simp only at b0 b1 kl
 go_wp2_with fail
 refine kl.mono ?_
 rintro e w3 ⟨rfl,hB3⟩
 have hs3:=HS2.out.below hB3
 have HS3:=(show Hid _ from hs3)
 obtain⟨b0,b1⟩:=hs3.bs.ce
 rw[HVV.out] at b0
 unfold SV.val at b1
 have ks:=HSL.out w3 hs3
 unfold stV at ks
 rw[HVV.out] at ks
 unfold SV.val at ks
 clear kl hB3 hs3 HS2 HSL
 try simp only at b0 b1 ks
 go_upto_if 32 with fail
 go_cut [] from 10 to 44 (fun wx=>SeE w wx B tg S vo vt i x n)
 case first =>
  by_cases cl:n<x.el.length
  ·have hcl:¬((x.el.length:Int)≤(n:Int)):=by omega
   have hcl2:¬((n:Int)≥(x.el.length:Int)):=by omega
   have HFI:Hid (SeE w w3 B tg S vo vt i x n):=by
    refine⟨tg,qs,?_⟩
    have e1:S.set i { x with el:=padE x.el n }=S:=by
     rw[show padE x.el n=x.el from if_pos cl]
     exact set_self HIN.out.1
    rw[e1]
    exact HS3.out
   clear ks HOB cl HS3
   go_wp2_with fail
   go_meet
   exact HFI.out
  ·have hcl:(x.el.length:Int)≤(n:Int):=by omega
   have hcl2:(n:Int)≥(x.el.length:Int):=by omega
   have HPD:Hid (padE x.el n=resL x.el (n+1)):=if_neg cl
   clear cl
   go_wp2_with fail
   refine ks.mono ?_
   rintro e w4 ⟨rfl,hs4⟩
   obtain⟨tg2,qs2,h4⟩:=HS3.out.step hs4
   have h5:=h4.below (HAL.out w4)
   have h6:=h5.told
   have HFI:Hid (SeE w (((w4.alloc (.cells #[vo.val,vt.val] 33)).setCell ⟨w.heap.size,0,none⟩ vo.val).setCell ⟨w.heap.size,1,none⟩ vt.val) B tg S vo vt i x n):=⟨tg2,qs2,by rw[HPD.out];exact h6⟩
   obtain⟨b0,b1⟩:=h5.bs.ce
   obtain⟨e0,e1⟩:=h5.bs.fz
   rw[HVV.out] at b0 b1 e0 e1 HFI
   simp only[show vt.val=Value.slice vt.ad vt.len vt.cap from rfl] at b0 b1 e0 e1 HFI
   clear ks hs4 h4 h5 h6 HS3 HOB HPD
   go_wp2_with fail
   go_meet
   exact HFI.out
 case rest =>
  obtain⟨tg',qs',hT⟩:=hcut
  have hii2:(S.set i { x with el:=padE x.el n })[i]?=some { x with el:=padE x.el n }:=List.getElem?_set_self HIN.out.2.1
  have ko:=HOB.out _ tg' qs' _ (by rw[List.length_set]) hT
  obtain⟨g',cap',q',hv',hq',_,_,hcell',_,_,_,_⟩:=hT.st.obj hii2
  have hvv2:=HVV.out
  rw[hv',List.length_set] at hvv2
  unfold SV.val at hvv2
  injection hvv2 with e1 e2 e3
  injection e1 with e1
  injection e1 with e1
  subst e1 e3
  have hx':(padE x.el n).length≤4096:=padE_le hx hn
  have hlt':n<(padE x.el n).length:=padE_lt _ _
  generalize hee:padE x.el n=ee at *
  have HEE:Hid (padE x.el n=ee):=hee
  have HSE2:Hid (∀W,Below wc.heap.size wc W→SeT w W B tg tg' (S.set i { x with el:=ee }) vo vt qs'):=fun W r=>hT.below r
  have HN:Hid (∀W,Below wc.heap.size wc W→∀j u,(soC ({ x with el:=ee },q'))[j]?=some u→W.cell? ⟨g',i*7+j,none⟩=some u):=fun W r j u hj=>cells_below r _ _ (hcell' j u hj)
  have HP:Hid (∀W,Below wc.heap.size wc W→PuS wc W B tg' i (fun _=>0) ({ x with el:=ee },q')):=fun W r=>(hT.st.pus hii2 hq').below r
  have HW:Hid (∀W N y,PuS wc W B tg' i N y→y.1.ds.length=y.1.nm.length→Calls Tryz.prog 81 #[stV vo vt,.int .i64 (i:Int),soV y] W fun e w'=>e = .returned (stV vo vt)∧SWent wc B tg' ((S.set i { x with el:=ee }).set i y.1) vo w'):=fun W N y a b=>with_pus hT.st vt hii2 hq' a b
  have HE:Hid (∀S' W',SWent wc B tg' S' vo W'→BxS W' (w.heap.size+1) .nil .nil∧BxS ((W'.setCell ⟨w.heap.size+1,0,none⟩ vo.val).setCell ⟨w.heap.size+1,1,none⟩ vt.val) (w.heap.size+1) vo vt∧SWent w B tg S' vo ((W'.setCell ⟨w.heap.size+1,0,none⟩ vo.val).setCell ⟨w.heap.size+1,1,none⟩ vt.val)):=fun S' W' s=>hT.fin s
  have hB0:B≤wc.heap.size:=hT.st.lo hii2
  have hre:RowIn wC 1 24 B wc (fun b=>tg' b=2+4*i+2) q'.ve ee:=hT.st.ob i _ q' 2 hii2 hq' (by omega)
  obtain⟨q1,q2,q3,q4⟩:=hre.open rtW.len
  have hrs:=hre.1
  have HSLI:Hid (∀W W',Below wc.heap.size wc W→Below W.heap.size W W'→Sli.ok wC 1 W' ⟨q'.ve.ad,q'.ve.cap,ee⟩):=fun W W' r r2=>by
   obtain⟨s,s1,s2,s3,_⟩:=hrs.sl rtW.len
   have e:s=⟨q'.ve.ad,q'.ve.cap,ee⟩:=by
    obtain⟨sa,sc,sx⟩:=s
    simp only at s2
    subst s2
    unfold SV.val Sli.val at s1
    injection s1 with e1 e2 e3
    simp only at e1 e3
    rw[←e1,←e3]
   rw[←e]
   exact s3.kept (cells_below (bel_sm' r r2))
  have HF0:Hid (ee.length≤4096∧n<ee.length∧w.heap.size<wc.heap.size∧x.ds.length=x.nm.length∧B≤wc.heap.size∧q'.ve.len=ee.length):=⟨hx',hlt',hT.bs.lt,HIN.out.2.2.2.2,hB0,q1⟩
  obtain⟨b0,b1⟩:=hT.bs.ce
  rw[HVV.out] at b0
  simp only[show vt.val=Value.slice vt.ad vt.len vt.cap from rfl] at b1
  have hnl:(n:Int)<(ee.length:Int):=by omega
  unfold stV at ko
  rw[HVV.out,show vt.val=Value.slice vt.ad vt.len vt.cap from rfl] at ko
  clear hT hii2 hq' hcell' hx' hlt' hee hre q1 q2 q3 q4 hrs HOB HS3 HIN HAL hv' hB0 hx
  go_wp2_with fail
  refine ko.mono ?_
  rintro e w4 ⟨rfl,hB4⟩
  have hs4:=HSE2.out w4 hB4
  obtain⟨b0,b1⟩:=hs4.bs.ce
  rw[HVV.out] at b0
  simp only[show vt.val=Value.slice vt.ad vt.len vt.cap from rfl] at b1
  have hc:=HN.out w4 hB4
  have c0:=hc 0 _ rfl
  have c1:=hc 1 _ rfl
  have c2:=hc 2 _ rfl
  have c3:=hc 3 _ rfl
  have c4:=hc 4 _ rfl
  have c5:=hc 5 _ rfl
  have c6:=hc 6 _ rfl
  simp only[Nat.add_zero] at c0 c3 c4 c5 c6
  unfold SV.val at c3 c4 c5 c6
  simp only at c0 c1 c2 c3 c4 c5 c6
  have HB4:Hid (Below wc.heap.size wc w4):=hB4
  clear ko hB4 hc hs4 HN
  have HAL4:Hid (Below w4.heap.size w4 (w4.alloc (.cells #[.int .i64 x.kind,.int .u64 x.proto,.bool x.shut,.slice q'.vn.ad q'.vn.len q'.vn.cap,.slice q'.vd.ad q'.vd.len q'.vd.cap,.slice q'.ve.ad q'.ve.len q'.ve.cap,.slice q'.vi.ad q'.vi.len q'.vi.cap] 71))):=(Below.refl _ _).alloc (Nat.le_refl _) _
  have HO5:Hid (BxO (w4.alloc (.cells #[.int .i64 x.kind,.int .u64 x.proto,.bool x.shut,.slice q'.vn.ad q'.vn.len q'.vn.cap,.slice q'.vd.ad q'.vd.len q'.vd.cap,.slice q'.ve.ad q'.ve.len q'.ve.cap,.slice q'.vi.ad q'.vi.len q'.vi.cap] 71)) w4.heap.size ({ x with el:=ee },q')):=BxO.new w4 ({ x with el:=ee },q')
  go_upto_region 10 with fail
  generalize w4.alloc (.cells #[.int .i64 x.kind,.int .u64 x.proto,.bool x.shut,.slice q'.vn.ad q'.vn.len q'.vn.cap,.slice q'.vd.ad q'.vd.len q'.vd.cap,.slice q'.ve.ad q'.ve.len q'.ve.cap,.slice q'.vi.ad q'.vi.len q'.vi.cap] 71)=w5 at *
  have HB5:Hid (Below wc.heap.size wc w5∧wc.heap.size≤w4.heap.size):=⟨bel_sm' HB4.out HAL4.out,HB4.out.size⟩
  generalize w4.heap.size=bo at *
  clear HAL4 HB4
  have HAL:Hid (Below w5.heap.size w5 (w5.alloc (.cells #[] 24))):=(Below.refl _ _).alloc (Nat.le_refl _) _
  have HSZ:Hid (B≤(w5.alloc (.cells #[] 24)).heap.size∧B≤w5.heap.size):=⟨Nat.le_trans HF0.out.2.2.2.2.1 (Nat.le_trans HB5.out.1.size HAL.out.size),Nat.le_trans HF0.out.2.2.2.2.1 HB5.out.1.size⟩
  have HEM:Hid (OwnR wC 1 24 B (w5.alloc (.cells #[] 24)) (.slice (some ⟨w5.heap.size,0,none⟩) 0 0) []):=empty_own (at_new _ _) HSZ.out.2
  have HSL:Hid (Sli.ok wC 1 (w5.alloc (.cells #[] 24)) ⟨q'.ve.ad,q'.ve.cap,ee⟩):=HSLI.out w5 _ HB5.out.1 HAL.out
  have HBX:Hid ((((([]:List Int).length+ee.length)+(([]:List Int).length+ee.length) / 4+192)*8≤281474976710656)∧([]:List Int).length+ee.length≤maxLen):=by have:=HF0.out.1;simp only[List.length_nil,Nat.zero_add];exact⟨by omega,by unfold maxLen;omega⟩
  clear c0 c1 c2 c3 c4 c5 c6 b0 b1 HSLI
  obtain⟨_,_,_,_,_,o5,_⟩:=HO5.out.ce
  have o5:=cells_below HAL.out _ _ o5
  unfold SV.val at o5
  simp only[HF0.out.2.2.2.2.2] at o5
  go_wp2_with (at_builtin;refine app_row rtW rfl _ _ rfl B (.slice (some ⟨w5.heap.size,0,none⟩) 0 0) [] (by rfl) HEM.out ⟨q'.ve.ad,q'.ve.cap,ee⟩ (by rfl) HSL.out HBX.out.2 HBX.out.1 HSZ.out.1 ?_)
  intro v7 w7 ho7 hg7 hl7
  obtain⟨g7,c7,rfl,_,_⟩:=World.ownsRow.form ho7 (by have:=HF0.out.2.1;omega)
  have hch:Chg (fun _=>False) w5 w7:=⟨by rw[hg7.os];rfl,by rw[hg7.tape];rfl,by rw[hg7.output];rfl,Nat.le_trans HAL.out.size hg7.size,fun b hb _=>by rw[hg7.block b (Nat.lt_of_lt_of_le hb HAL.out.size) (by intro e;have e:w5.heap.size=b:=(by simpa [Value.ownBlock] using e.symm);omega)];exact HAL.out.block b hb⟩
  have hg7':w5.heap.size≤g7:=by
   rcases hl7 with e | e
   ·have e:g7=w5.heap.size:=by simpa [Value.ownBlock] using e
    omega
   ·have e:g7=w5.heap.size+1:=by simpa [Value.ownBlock] using e
    omega
  have ho7:OwnR wC 1 24 B w7 (.slice (some ⟨g7,0,none⟩) ee.length c7) ee:=ho7
  obtain⟨dm,hdm⟩:∃dm,ee[n]?=some dm:=⟨_,List.getElem?_eq_getElem HF0.out.2.1⟩
  have z0:=ho7.at' rtW.len hdm (j:=0) rfl
  have y0:=ho7.fz n
  simp only[Nat.mul_one,Nat.add_zero] at z0
  have HO7:Hid (OwnR wC 1 24 B w7 (.slice (some ⟨g7,0,none⟩) ee.length c7) ee∧ee[n]?=some dm∧Chg (fun _=>False) w5 w7∧w5.heap.size≤g7):=⟨ho7,hdm,hch,hg7'⟩
  have hel:(ee.length:Int)≤9223372036854775807:=by have:=HF0.out.1;omega
  clear ho7 hg7 hl7 hch HAL HEM HSL HBX HSZ hdm hg7' o5
  go_upto_region 12 with fail
  obtain⟨ho7,hdm,hch,hg7'⟩:=HO7.out
  have ho8:=ho7.put (j:=0) (u := .int .u64 v) (y':=v) rtW.len hdm (by omega) rfl
  simp only[Nat.mul_one,Nat.add_zero] at ho8
  have hset7:Chg (fun b=>b=g7) w7 (w7.setCell ⟨g7,n,none⟩ (.int .u64 v)):=Chg.set (S:=fun b=>b=g7) w7 ⟨g7,n,none⟩ _ rfl
  generalize w7.setCell ⟨g7,n,none⟩ (.int .u64 v)=w8 at *
  have hch8:Chg (fun _=>False) w5 w8:=hch.trans hset7 (fun b hb r=>by omega)
  have hp8:=(HP.out w5 HB5.out.1).fresh (c0:=2) (by omega) hch8 (v' := .slice (some ⟨g7,0,none⟩) ee.length c7) (g:=g7) rfl hg7' (OwnR.lt ho8 g7 rfl).2 (y':=({ x with el:=ee.set n v },{ q' with ve:=⟨some ⟨g7,0,none⟩,ee.length,c7⟩ })) (fun O hO=>⟨ho8,hO⟩) (fun c O hc4 hcn hs=>by
   rcases (show c=0∨c=1∨c=3 by omega) with rfl | rfl | rfl
   ·exact hs
   ·exact hs
   ·exact hs)
  have hO8:=HO5.out.kept hch8 (fun r=>r)
  have hbo3:=HO5.out.lt
  have hlo:=HB5.out.2
  have hset:Chg (fun b=>b=bo) w8 (w8.setCell ⟨bo,5,none⟩ (.slice (some ⟨g7,0,none⟩) ee.length c7)):=Chg.set (S:=fun b=>b=bo) w8 ⟨bo,5,none⟩ _ rfl
  have hp9:=hp8.own hset (fun b _ r=>by
   subst r
   refine⟨hlo,?_⟩
   unfold nuN
   rw[if_neg]
   rintro⟨e,_⟩
   have e:g7=b:=by simpa [Value.ownBlock] using e
   omega)
  have HP8:=(show Hid _ from hp9)
  have HO8:Hid (BxO (w8.setCell ⟨bo,5,none⟩ (.slice (some ⟨g7,0,none⟩) ee.length c7)) bo ({ x with el:=ee.set n v },{ q' with ve:=⟨some ⟨g7,0,none⟩,ee.length,c7⟩ })):=heap_setCell_same _ bo 5 _ _ _ hO8
  have HS8:Hid (BxS (w8.setCell ⟨bo,5,none⟩ (.slice (some ⟨g7,0,none⟩) ee.length c7)) w.heap.size vo vt):=((HSE2.out w5 HB5.out.1).bs.kept hch8 (fun r=>r)).kept hset (by have:=HF0.out.2.2.1;omega)
  have e5:=hO8.fz 5
  obtain⟨_,_,_,_,_,o5,_⟩:=hO8.ce
  have HNE:Hid (x.ds.length=x.nm.length):=HF0.out.2.2.2.1
  clear ho7 hdm hch hg7' ho8 hset7 hch8 hp8 hp9 hbo3 hlo hset hO8 HO7 HO5 HB5 HP HSE2 HF0 z0 y0
  go_upto_region 13 with fail
  generalize w8.setCell ⟨bo,5,none⟩ (.slice (some ⟨g7,0,none⟩) ee.length c7)=w9 at *
  obtain⟨b0,b1⟩:=HS8.out.ce
  rw[HVV.out] at b0
  obtain⟨c0,c1,c2,c3,c4,c5,c6⟩:=HO8.out.ce
  have kw:=HW.out w9 _ _ HP8.out HNE.out
  unfold stV soV at kw
  rw[HVV.out] at kw
  unfold SV.val at c3 c4 c5 c6 kw b1
  simp only at c0 c1 c2 c3 c4 c5 c6 kw
  clear HW HO8 HS8 HP8 e5 o5
  go_wp2_with fail
  refine kw.mono ?_
  rintro e w6 ⟨rfl,hs6⟩
  obtain⟨k1,k2,k3⟩:=HE.out _ w6 hs6
  obtain⟨r0,r1⟩:=k1.ce
  obtain⟨f0,f1⟩:=k1.fz
  rw[HVV.out] at k2 k3
  have HF:=(show Hid _ from And.intro k2 k3)
  clear kw hs6 HE k1 k2 k3 b0 b1 c0 c1 c2 c3 c4 c5 c6
  unfold SV.nil SV.val at r0 r1
  simp only at r0 r1
  go_wp2_with fail
  refine bodyPost_ret (res2 rfl _ _ (w.heap.size+1) 33 _ (0,0) _ rfl HF.out.1 Tryz.underlying33 rfl (by kernel_rfl)) rfl ?_
  refine⟨by rw[HVV.out];rfl,?_⟩
  have hfin:=HF.out.2
  rw[List.set_set] at hfin
  rw[HEE.out]
  exact hfin
end
section
variable {w W W' w' w1:World}{B b:Nat}{tg:Nat→Nat}{S S':List So}{vo vt:SV}{qs:List QV}{i:Nat}{x x':So}{q:QV}
theorem rsetElem_miss (h:StAt w B tg S vo qs)(vt:SV)(n v:Int)(hn0:0≤n)(hn1:n<4096)(o:Int)(o0:0≤o)(o1:o<18446744073709551616)(hm:obS S o=none) :
  Calls Tryz.prog 70 #[stV vo vt,.int .u64 o,.int .i64 n,.int .u64 v] w fun e w'=>e = .returned (.tuple #[stV vo vt,.bool false])∧SWent w B tg S vo w':=by
 obtain⟨wb,hwb⟩:∃wb,wb=(w.alloc (.cells #[vo.val,vt.val] 33)).alloc (.cells #[.slice none 0 0,.slice none 0 0] 33):=⟨_,rfl⟩
 obtain⟨hbs,hbr,hB⟩:=boxS2 w vo vt
 rw[←hwb] at hbs hbr hB
 have hz0:¬(n<0):=by omega
 have hz1:¬(n≥4096):=by omega
 have hz2:¬(4096≤n):=by omega
 have ka:=rat_miss (h.below hB) vt o o0 o1 hm
 have HBS:Hid (∀W,Below wb.heap.size wb W→W.cell? ⟨w.heap.size,0,none⟩=some vo.val∧W.cell? ⟨w.heap.size,1,none⟩=some vt.val):=fun W r=>(hbs.below r).ce
 have HE:Hid (∀W,Below wb.heap.size wb W→BxS W (w.heap.size+1) .nil .nil∧BxS ((W.setCell ⟨w.heap.size+1,0,none⟩ vo.val).setCell ⟨w.heap.size+1,1,none⟩ vt.val) (w.heap.size+1) vo vt∧SWent w B tg S vo ((W.setCell ⟨w.heap.size+1,0,none⟩ vo.val).setCell ⟨w.heap.size+1,1,none⟩ vt.val)):=fun W r=>st_res h (bel_sm' hB r) (hbr.below r) (SWent.same (h.below (bel_sm' hB r)) (Below.refl _ _)) vt
 obtain⟨b0,b1⟩:=hbs.ce
 obtain⟨va,vl,vc⟩:=vo
 obtain⟨ta,tl,tc⟩:=vt
 rw[show(SV.mk va vl vc).val = .slice va vl vc from rfl,show(SV.mk ta tl tc).val = .slice ta tl tc from rfl] at HBS HE hwb
 rw[show(SV.mk va vl vc).val = .slice va vl vc from rfl] at b0
 rw[show(SV.mk ta tl tc).val = .slice ta tl tc from rfl] at b1
 unfold stV at ka ⊢
 rw[show(SV.mk va vl vc).val = .slice va vl vc from rfl,show(SV.mk ta tl tc).val = .slice ta tl tc from rfl] at ka ⊢
 clear h hB hbs hbr hm
 go_enter Tryz.func70,Tryz.ntmps70
 go_upto_region 1 with fail
 rw[←hwb]
 clear hwb
 go_wp2_with fail
 refine ka.mono ?_
 rintro e w2 ⟨rfl,hB2⟩
 obtain⟨b0,b1⟩:=HBS.out w2 hB2
 obtain⟨k1,k2,k3⟩:=HE.out w2 hB2
 obtain⟨r0,r1⟩:=k1.ce
 obtain⟨f0,f1⟩:=k1.fz
 have HF:=(show Hid _ from And.intro k2 k3)
 clear ka hB2 HE HBS k1 k2 k3
 unfold SV.nil SV.val at r0 r1
 simp only at r0 r1
 go_wp2_with fail
 refine bodyPost_ret (res2 rfl _ _ (w.heap.size+1) 33 _ (0,0) _ rfl HF.out.1 Tryz.underlying33 rfl (by kernel_rfl)) rfl ?_
 exact⟨rfl,HF.out.2⟩
theorem rsetElem_low (h:StAt w B tg S vo qs)(vt:SV)(n v o:Int)(hn:n<0) :
  Calls Tryz.prog 70 #[stV vo vt,.int .u64 o,.int .i64 n,.int .u64 v] w fun e w'=>e = .returned (.tuple #[stV vo vt,.bool false])∧SWent w B tg S vo w':=by
 obtain⟨wb,hwb⟩:∃wb,wb=(w.alloc (.cells #[vo.val,vt.val] 33)).alloc (.cells #[.slice none 0 0,.slice none 0 0] 33):=⟨_,rfl⟩
 obtain⟨hbs,hbr,hB⟩:=boxS2 w vo vt
 rw[←hwb] at hbs hbr hB
 have HBS:Hid (∀W,Below wb.heap.size wb W→W.cell? ⟨w.heap.size,0,none⟩=some vo.val∧W.cell? ⟨w.heap.size,1,none⟩=some vt.val):=fun W r=>(hbs.below r).ce
 have HE:Hid (∀W,Below wb.heap.size wb W→BxS W (w.heap.size+1) .nil .nil∧BxS ((W.setCell ⟨w.heap.size+1,0,none⟩ vo.val).setCell ⟨w.heap.size+1,1,none⟩ vt.val) (w.heap.size+1) vo vt∧SWent w B tg S vo ((W.setCell ⟨w.heap.size+1,0,none⟩ vo.val).setCell ⟨w.heap.size+1,1,none⟩ vt.val)):=fun W r=>st_res h (bel_sm' hB r) (hbr.below r) (SWent.same (h.below (bel_sm' hB r)) (Below.refl _ _)) vt
 obtain⟨b0,b1⟩:=hbs.ce
 obtain⟨va,vl,vc⟩:=vo
 obtain⟨ta,tl,tc⟩:=vt
 rw[show(SV.mk va vl vc).val = .slice va vl vc from rfl,show(SV.mk ta tl tc).val = .slice ta tl tc from rfl] at HBS HE hwb
 rw[show(SV.mk va vl vc).val = .slice va vl vc from rfl] at b0
 rw[show(SV.mk ta tl tc).val = .slice ta tl tc from rfl] at b1
 unfold stV at ⊢
 rw[show(SV.mk va vl vc).val = .slice va vl vc from rfl,show(SV.mk ta tl tc).val = .slice ta tl tc from rfl] at ⊢
 clear h hB hbs hbr
 go_enter Tryz.func70,Tryz.ntmps70
 go_upto_region 1 with fail
 rw[←hwb]
 clear hwb
 obtain⟨b0,b1⟩:=HBS.out wb (Below.refl _ _)
 obtain⟨k1,k2,k3⟩:=HE.out wb (Below.refl _ _)
 obtain⟨r0,r1⟩:=k1.ce
 obtain⟨f0,f1⟩:=k1.fz
 have HF:=(show Hid _ from And.intro k2 k3)
 clear HE HBS k1 k2 k3
 unfold SV.nil SV.val at r0 r1
 simp only at r0 r1
 go_wp2_with fail
 refine bodyPost_ret (res2 rfl _ _ (w.heap.size+1) 33 _ (0,0) _ rfl HF.out.1 Tryz.underlying33 rfl (by kernel_rfl)) rfl ?_
 exact⟨rfl,HF.out.2⟩
theorem rsetElem_high (h:StAt w B tg S vo qs)(vt:SV)(n v o:Int)(hn:4096≤n) :
  Calls Tryz.prog 70 #[stV vo vt,.int .u64 o,.int .i64 n,.int .u64 v] w fun e w'=>e = .returned (.tuple #[stV vo vt,.bool false])∧SWent w B tg S vo w':=by
 obtain⟨wb,hwb⟩:∃wb,wb=(w.alloc (.cells #[vo.val,vt.val] 33)).alloc (.cells #[.slice none 0 0,.slice none 0 0] 33):=⟨_,rfl⟩
 obtain⟨hbs,hbr,hB⟩:=boxS2 w vo vt
 rw[←hwb] at hbs hbr hB
 have hn0:¬(n<0):=by omega
 have hn1:n≥4096:=hn
 have HBS:Hid (∀W,Below wb.heap.size wb W→W.cell? ⟨w.heap.size,0,none⟩=some vo.val∧W.cell? ⟨w.heap.size,1,none⟩=some vt.val):=fun W r=>(hbs.below r).ce
 have HE:Hid (∀W,Below wb.heap.size wb W→BxS W (w.heap.size+1) .nil .nil∧BxS ((W.setCell ⟨w.heap.size+1,0,none⟩ vo.val).setCell ⟨w.heap.size+1,1,none⟩ vt.val) (w.heap.size+1) vo vt∧SWent w B tg S vo ((W.setCell ⟨w.heap.size+1,0,none⟩ vo.val).setCell ⟨w.heap.size+1,1,none⟩ vt.val)):=fun W r=>st_res h (bel_sm' hB r) (hbr.below r) (SWent.same (h.below (bel_sm' hB r)) (Below.refl _ _)) vt
 obtain⟨b0,b1⟩:=hbs.ce
 obtain⟨va,vl,vc⟩:=vo
 obtain⟨ta,tl,tc⟩:=vt
 rw[show(SV.mk va vl vc).val = .slice va vl vc from rfl,show(SV.mk ta tl tc).val = .slice ta tl tc from rfl] at HBS HE hwb
 rw[show(SV.mk va vl vc).val = .slice va vl vc from rfl] at b0
 rw[show(SV.mk ta tl tc).val = .slice ta tl tc from rfl] at b1
 unfold stV at ⊢
 rw[show(SV.mk va vl vc).val = .slice va vl vc from rfl,show(SV.mk ta tl tc).val = .slice ta tl tc from rfl] at ⊢
 clear h hB hbs hbr
 go_enter Tryz.func70,Tryz.ntmps70
 go_upto_region 1 with fail
 rw[←hwb]
 clear hwb
 obtain⟨b0,b1⟩:=HBS.out wb (Below.refl _ _)
 obtain⟨k1,k2,k3⟩:=HE.out wb (Below.refl _ _)
 obtain⟨r0,r1⟩:=k1.ce
 obtain⟨f0,f1⟩:=k1.fz
 have HF:=(show Hid _ from And.intro k2 k3)
 clear HE HBS k1 k2 k3
 unfold SV.nil SV.val at r0 r1
 simp only at r0 r1
 go_wp2_with fail
 refine bodyPost_ret (res2 rfl _ _ (w.heap.size+1) 33 _ (0,0) _ rfl HF.out.1 Tryz.underlying33 rfl (by kernel_rfl)) rfl ?_
 exact⟨rfl,HF.out.2⟩
end
end Go.Proofs.YtahhionlbfhinabGreatDoor.Hp
