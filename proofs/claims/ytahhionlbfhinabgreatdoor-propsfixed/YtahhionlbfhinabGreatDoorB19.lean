/- UA, UB, UC, UD -/
import Derived.Test.YtahhionlbfhinabGreatDoorVZ
import Derived.Test.YtahhionlbfhinabGreatDoorB12
set_option linter.unusedVariables false
set_option linter.unusedSimpArgs false
set_option maxRecDepth 100000
set_option maxHeartbeats 40000000
namespace Go.Proofs.YtahhionlbfhinabGreatDoor.Hp
open Go.RowKit
section
variable {w W W' w' w1:World}{B b n:Nat}{tg:Nat→Nat}{S S':List So}{vo vt:SV}{qs:List QV}{i:Nat}{x x':So}{q:QV}
theorem rdrop_miss (h:StAt w B tg S vo qs)(vt:SV)(k:ByteArray)(o:Int)(o0:0≤o)(o1:o<18446744073709551616)(hm:obS S o=none) :
  Calls Tryz.prog 74 #[stV vo vt,.int .u64 o,.string k] w fun e w'=>e = .returned (.tuple #[stV vo vt,.bool false])∧SWent w B tg S vo w':=by
 obtain⟨wb,hwb⟩:∃wb,wb=(w.alloc (.cells #[vo.val,vt.val] 33)).alloc (.cells #[.slice none 0 0,.slice none 0 0] 33):=⟨_,rfl⟩
 obtain⟨hbs,hbr,hB⟩:=boxS2 w vo vt
 rw[←hwb] at hbs hbr hB
 have ka:=rat_miss (h.below hB) vt o o0 o1 hm
 have HBS:Hid (∀W,Below wb.heap.size wb W→W.cell? ⟨w.heap.size,0,none⟩=some vo.val∧W.cell? ⟨w.heap.size,1,none⟩=some vt.val):=fun W r=>(hbs.below r).ce
 have HE:Hid (∀W,Below wb.heap.size wb W→BxS W (w.heap.size+1) .nil .nil∧BxS ((W.setCell ⟨w.heap.size+1,0,none⟩ vo.val).setCell ⟨w.heap.size+1,1,none⟩ vt.val) (w.heap.size+1) vo vt∧SWent w B tg S vo ((W.setCell ⟨w.heap.size+1,0,none⟩ vo.val).setCell ⟨w.heap.size+1,1,none⟩ vt.val)):=fun W r=>st_res h (bel_sm' hB r) (hbr.below r) (SWent.same (h.below (bel_sm' hB r)) (Below.refl _ _)) vt
 obtain⟨b0,b1⟩:=hbs.ce
 obtain⟨va,vl,vc⟩:=vo
 obtain⟨ta,tl,tc⟩:=vt
 rw[show(SV.mk va vl vc).val = .slice va vl vc from rfl,show(SV.mk ta tl tc).val = .slice ta tl tc from rfl] at HBS HE hwb
 rw[show(SV.mk va vl vc).val = .slice va vl vc from rfl] at b0
 rw[show(SV.mk ta tl tc).val = .slice ta tl tc from rfl] at b1
 unfold stV at ka ⊢
 rw[show(SV.mk va vl vc).val = .slice va vl vc from rfl,show(SV.mk ta tl tc).val = .slice ta tl tc from rfl] at ka ⊢
 clear h hB hbs hbr hm
 go_enter Tryz.func74,Tryz.ntmps74
 go_upto_region 1 with fail
 rw[←hwb]
 clear hwb
 go_wp2_with fail
 refine ka.mono ?_
 rintro e w2 ⟨rfl,hB2⟩
 obtain⟨b0,b1⟩:=HBS.out w2 hB2
 obtain⟨k1,k2,k3⟩:=HE.out w2 hB2
 obtain⟨r0,r1⟩:=k1.ce
 obtain⟨f0,f1⟩:=k1.fz
 have HF:=(show Hid _ from And.intro k2 k3)
 clear ka hB2 HE HBS k1 k2 k3
 unfold SV.nil SV.val at r0 r1
 simp only at r0 r1
 go_wp2_with fail
 refine bodyPost_ret (res2 rfl _ _ (w.heap.size+1) 33 _ (0,0) _ rfl HF.out.1 Tryz.underlying33 rfl (by kernel_rfl)) rfl ?_
 exact⟨rfl,HF.out.2⟩
theorem rdrop_none (h:StAt w B tg S vo qs)(vt:SV)(hi:S[i]?=some x)(k:ByteArray)(hp:plS x.nm k=none) :
  Calls Tryz.prog 74 #[stV vo vt,.int .u64 (objW (i:Int)),.string k] w fun e w'=>e = .returned (.tuple #[stV vo vt,.bool false])∧SWent w B tg S vo w':=by
 obtain⟨wb,hwb⟩:∃wb,wb=(w.alloc (.cells #[vo.val,vt.val] 33)).alloc (.cells #[.slice none 0 0,.slice none 0 0] 33):=⟨_,rfl⟩
 obtain⟨hbs,hbr,hB⟩:=boxS2 w vo vt
 rw[←hwb] at hbs hbr hB
 have hil:i<S.length:=(List.getElem?_eq_some_iff.1 hi).1
 have h2:=h.below hB
 have ka:=rat_any h2 vt hil
 obtain⟨g,cap,q,hv,hq,t1,hgl,hcell,hfz,hl1,hl2,hrow⟩:=h2.obj hi
 have hbig:=h.big
 have HN:Hid (∀W,Below wb.heap.size wb W→(W.cell? ⟨w.heap.size,0,none⟩=some vo.val∧W.cell? ⟨w.heap.size,1,none⟩=some vt.val)∧(∀j u,(soC (x,q))[j]?=some u→W.cell? ⟨g,i*7+j,none⟩=some u)):=fun W r=>⟨(hbs.below r).ce,fun j u hj=>cells_below r _ _ (hcell j u hj)⟩
 have HP:Hid (∀W,Below wb.heap.size wb W→PuS wb W B tg i (fun _=>0) (x,q)):=fun W r=>(h2.pus hi hq).below r
 have HE:Hid (∀W,Below wb.heap.size wb W→BxS W (w.heap.size+1) .nil .nil∧BxS ((W.setCell ⟨w.heap.size+1,0,none⟩ vo.val).setCell ⟨w.heap.size+1,1,none⟩ vt.val) (w.heap.size+1) vo vt∧SWent w B tg S vo ((W.setCell ⟨w.heap.size+1,0,none⟩ vo.val).setCell ⟨w.heap.size+1,1,none⟩ vt.val)):=fun W r=>st_res h (bel_sm' hB r) (hbr.below r) (SWent.same (h.below (bel_sm' hB r)) (Below.refl _ _)) vt
 have HPL:Hid (∀W,Below wb.heap.size wb W→Calls Tryz.prog 97 #[soV (x,q),.string k] W fun e w'=>e = .returned (.int .i64 (-1))∧Below W.heap.size W w'):=fun W r=>by
  have:=place_any (x,q) ((HP.out W r).rows 0 (by omega)) k
  rw[show plI x.nm k = -1 from by unfold plI;rw[hp]] at this
  exact this
 have hii:(i:Int)<(S.length:Int):=by omega
 have hsl:(S.length:Int)≤65536:=by omega
 obtain⟨b0,b1⟩:=hbs.ce
 have h0i:¬((i:Int)<0):=by omega
 have hvv:vo.val = .slice (some ⟨g,0,none⟩) S.length cap:=by rw[hv];rfl
 have HVV:Hid (vo.val = .slice (some ⟨g,0,none⟩) S.length cap):=hvv
 unfold stV at ka ⊢
 rw[hvv] at hwb ka b0 ⊢
 rw[show vt.val = .slice vt.ad vt.len vt.cap from rfl] at *
 generalize objW (i:Int)=o at *
 clear h h2 hB hbs hbr hq t1 hgl hcell hfz hrow hi hil hbig hv hvv hp
 go_enter Tryz.func74,Tryz.ntmps74
 go_upto_region 1 with fail
 rw[←hwb]
 clear hwb
 go_wp2_with fail
 refine ka.mono ?_
 rintro e w2 ⟨rfl,hB2⟩
 obtain⟨⟨b0,b1⟩,hc⟩:=HN.out w2 hB2
 rw[HVV.out] at b0
 have c0:=hc 0 _ rfl
 have c1:=hc 1 _ rfl
 have c2:=hc 2 _ rfl
 have c3:=hc 3 _ rfl
 have c4:=hc 4 _ rfl
 have c5:=hc 5 _ rfl
 have c6:=hc 6 _ rfl
 simp only[Nat.add_zero] at c0 c3 c4 c5 c6
 unfold SV.val at c3 c4 c5 c6
 simp only at c0 c1 c2 c3 c4 c5 c6
 have HB2:Hid (Below wb.heap.size wb w2):=hB2
 clear ka hB2 hc
 have HO3:Hid (BxO (w2.alloc (.cells #[.int .i64 x.kind,.int .u64 x.proto,.bool x.shut,.slice q.vn.ad q.vn.len q.vn.cap,.slice q.vd.ad q.vd.len q.vd.cap,.slice q.ve.ad q.ve.len q.ve.cap,.slice q.vi.ad q.vi.len q.vi.cap] 71)) w2.heap.size (x,q)):=BxO.new w2 (x,q)
 have HB3:Hid (Below wb.heap.size wb (w2.alloc (.cells #[.int .i64 x.kind,.int .u64 x.proto,.bool x.shut,.slice q.vn.ad q.vn.len q.vn.cap,.slice q.vd.ad q.vd.len q.vd.cap,.slice q.ve.ad q.ve.len q.ve.cap,.slice q.vi.ad q.vi.len q.vi.cap] 71))∧wb.heap.size≤w2.heap.size):=⟨bel_sm' HB2.out ((Below.refl _ _).alloc (Nat.le_refl _) _),HB2.out.size⟩
 clear HB2
 go_upto_region 5 with fail
 generalize w2.alloc (.cells #[.int .i64 x.kind,.int .u64 x.proto,.bool x.shut,.slice q.vn.ad q.vn.len q.vn.cap,.slice q.vd.ad q.vd.len q.vd.cap,.slice q.ve.ad q.ve.len q.ve.cap,.slice q.vi.ad q.vi.len q.vi.cap] 71)=w3 at *
 generalize w2.heap.size=bo at *
 obtain⟨c0,c1,c2,c3,c4,c5,c6⟩:=HO3.out.ce
 unfold SV.val at c3 c4 c5 c6
 simp only at c0 c1 c2 c3 c4 c5 c6
 have kp:=HPL.out w3 HB3.out.1
 unfold soV SV.val at kp
 simp only at kp
 clear b0 b1 HPL
 go_wp2_with fail
 refine kp.mono ?_
 rintro e w4 ⟨rfl,hB4⟩
 have hb4:=bel_sm' HB3.out.1 hB4
 obtain⟨⟨b0,b1⟩,_⟩:=HN.out w4 hb4
 rw[HVV.out] at b0
 obtain⟨k1,k2,k3⟩:=HE.out w4 hb4
 obtain⟨r0,r1⟩:=k1.ce
 obtain⟨f0,f1⟩:=k1.fz
 rw[HVV.out] at k2 k3
 have HF:=(show Hid _ from And.intro k2 k3)
 clear c0 c1 c2 c3 c4 c5 c6 kp hB4 hb4 HO3 HB3 HN HE HP k1 k2 k3
 unfold SV.nil SV.val at r0 r1
 simp only at r0 r1
 go_wp2_with fail
 refine bodyPost_ret (res2 rfl _ _ (w.heap.size+1) 33 _ (0,0) _ rfl HF.out.1 Tryz.underlying33 rfl (by kernel_rfl)) rfl ?_
 exact⟨by rw[HVV.out];rfl,HF.out.2⟩
end
section
variable {w W W' w5:World}{B:Nat}{tg:Nat→Nat}{S:List So}{vo vt:SV}{qs:List QV}
theorem rmake_at (h:StAt w B tg S vo qs)(hB:B≤w.heap.size)(vt:SV)(kind:Int)(k0:0≤kind)(k6:kind≤6)(hl:S.length<65536){p:Nat}(hp:p<S.length) :
  Calls Tryz.prog 29 #[stV vo vt,.int .i64 kind,.int .u64 (objW (p:Int))] w fun e w'=>∃vo',e = .returned (.tuple #[stV vo' vt,.int .u64 (objW (S.length:Int)),.bool true])∧SWent w B tg (S++[newS kind (objW (p:Int))]) vo' w':=by
 obtain⟨wb,hwb⟩:∃wb,wb=(w.alloc (.cells #[vo.val,vt.val] 33)).alloc (.cells #[.slice none 0 0,.slice none 0 0] 33):=⟨_,rfl⟩
 obtain⟨hbs,hbr,hBw⟩:=boxSS w vo vt
 rw[←hwb] at hbs hbr hBw
 obtain⟨ad,cap,hv,h1,h2⟩:=h.vol
 have hvv:vo.val = .slice ad S.length cap:=by rw[hv];rfl
 have HVV:Hid (vo.val = .slice ad S.length cap):=hvv
 have ka:=rat_any (h.below hBw) vt hp
 have HH:Hid (StAt w B tg S vo qs∧Below w.heap.size w wb∧BxS wb w.heap.size vo vt∧BxS wb (w.heap.size+1) .nil .nil∧B≤w.heap.size∧S.length<65536):=⟨h,hBw,hbs,hbr,hB,hl⟩
 have hsl:(S.length:Int)<65536:=by omega
 have hne:¬(objW (p:Int)=18445336698825998337):=by unfold objW;omega
 have hp0:¬((p:Int)<0):=by omega
 obtain⟨b0,b1⟩:=hbs.ce
 rw[hvv] at b0
 have hob:18445055223849287680+(S.length:Int)=objW (S.length:Int):=rfl
 have hw64:IntKind.u64.wrap (18445055223849287680+(S.length:Int))=objW (S.length:Int):=by rw[IntKind.wrap_u64];unfold objW;omega
 have HSL:Hid ((S.length:Int)<65536):=hsl
 have HOB:Hid (18445055223849287680+(S.length:Int)=objW (S.length:Int)∧IntKind.u64.wrap (18445055223849287680+(S.length:Int))=objW (S.length:Int)):=⟨hob,hw64⟩
 clear hob hw64
 unfold stV at ka ⊢
 rw[hvv] at hwb ka ⊢
 obtain⟨ta,tl,tc⟩:=vt
 rw[show(SV.mk ta tl tc).val = .slice ta tl tc from rfl] at *
 have hnb:(objW (p:Int) != 18445336698825998337)=true:=bne_iff_ne.mpr hne
 generalize objW (p:Int)=o at *
 clear h hB hBw hbs hbr hv h1 h2 hl hvv hp
 have kk0:decide (kind<0)=false:=decide_eq_false (by omega)
 have kk6:decide (6<kind)=false:=decide_eq_false (by omega)
 have kkl:decide (65536≤(S.length:Int))=false:=decide_eq_false (by omega)
 generalize hsn:S.length=n at *
 have HSN:Hid (S.length=n):=hsn
 clear hsn
 go_enter Tryz.func29,Tryz.ntmps29
 go_upto_region 1 with fail
 rw[←hwb]
 clear hwb
 generalize hnul:(18445336698825998337:Int)=nul at *
 clear hnul
 go_wp2_with fail
 refine ka.mono ?_
 rintro e w2 ⟨rfl,hB2⟩
 have hsn:=HSN.out
 subst hsn
 obtain⟨h,hBw0,hbs0,hbr0,hB,hl⟩:=HH.out
 have hvv:=HVV.out
 have hBw:=bel_sm' hBw0 hB2
 have hbs:=hbs0.below hB2
 have hbr:=hbr0.below hB2
 have hlz:(S.zip qs).length=S.length:=by rw[List.length_zip,h.len];omega
 have HAL:Hid (Below w2.heap.size w2 (w2.alloc (.cells #[.int .i64 kind,.int .u64 o,.bool false,.slice none 0 0,.slice none 0 0,.slice none 0 0,.slice none 0 0] 71))):=(Below.refl _ _).alloc (Nat.le_refl _) _
 have hwal:=hBw.trans (HAL.out.mono hBw.size)
 have HOWN:Hid (OwnR soC 7 71 B (w2.alloc (.cells #[.int .i64 kind,.int .u64 o,.bool false,.slice none 0 0,.slice none 0 0,.slice none 0 0,.slice none 0 0] 71)) (.slice ad S.length cap) (S.zip qs)):=by
  have:=(h.below hwal).row.1
  rw[hvv] at this
  exact this
 have HONE:Hid (Sli.ok soC 7 (w2.alloc (.cells #[.int .i64 kind,.int .u64 o,.bool false,.slice none 0 0,.slice none 0 0,.slice none 0 0,.slice none 0 0] 71)) ⟨some ⟨w2.heap.size,0,none⟩,1,[(newS kind o,QV.none)]⟩):=one_sli rtSo (at_new _ _) rfl
 have HBX:Hid ((((S.zip qs).length+1)+((S.zip qs).length+1) / 4+192)*120≤281474976710656∧(S.zip qs).length+1≤maxLen):=by rw[hlz];exact⟨by omega,by unfold maxLen;omega⟩
 have HSZ:Hid (B≤(w2.alloc (.cells #[.int .i64 kind,.int .u64 o,.bool false,.slice none 0 0,.slice none 0 0,.slice none 0 0,.slice none 0 0] 71)).heap.size):=Nat.le_trans hB hwal.size
 have HPU:Hid (∀(w5:World) (g5 c5:Nat),OwnR soC 7 71 B w5 (.slice (some ⟨g5,0,none⟩) (S.length+1) c5) (S.zip qs++[(newS kind o,QV.none)])→Chg (fun b=>(Value.slice ad S.length cap).ownBlock=some b) w2 w5→((Value.slice ad S.length cap).ownBlock=some g5∨w2.heap.size≤g5)→(BxS w5 w.heap.size vo ⟨ta,tl,tc⟩∧BxS w5 (w.heap.size+1) .nil .nil)∧∀W'',Chg (fun b=>b=w.heap.size∨b=w.heap.size+1) w5 W''→SWent w B tg (S++[newS kind o]) ⟨some ⟨g5,0,none⟩,S.length+1,c5⟩ W''):=fun w5 g5 c5 q1 q2 q3=>by
  have hvb:∀b,w.heap.size≤b→¬(Value.slice ad S.length cap).ownBlock=some b:=fun b hb r=>by
   have:=(h.row.1.lt b (by rw[hvv];exact r)).2
   omega
  refine⟨⟨hbs.kept q2 (hvb _ (Nat.le_refl _)),hbr.kept q2 (hvb _ (by omega))⟩,fun W'' q4 => ?_⟩
  have hg5:g5≠w.heap.size∧g5≠w.heap.size+1:=by
   rcases q3 with q | q
   ·have:=(h.row.1.lt g5 (by rw[hvv];exact q)).2
    omega
   ·have:=hbr.lt
    omega
  have o1:=q1.kept q4 (fun b r s=>by have r:g5=b:=(by simpa [Value.ownBlock] using r);omega)
  refine h.push o1 ?_ ?_ hl
  ·have c1:Chg (fun b=>(Value.slice ad S.length cap).ownBlock=some b∨w.heap.size≤b) w W'':=(((Chg.of_below hBw).trans q2 (fun b _ r=>Or.inl r)).trans q4 (fun b _ r=>Or.inr (by omega)))
   exact⟨c1.os,c1.tape,c1.output,c1.size,fun b hb hn=>c1.block b hb (fun r=>by rcases r with r | r;exact hn (by rw[hvv];exact r);omega)⟩
  ·rcases q3 with q | q
   ·exact Or.inl (by rw[hvv,q];rfl)
   ·exact Or.inr ⟨g5,Nat.le_trans hBw.size q,rfl⟩
 obtain⟨b0,b1⟩:=hbs.ce
 rw[hvv] at b0
 rw[show(SV.mk ta tl tc).val = .slice ta tl tc from rfl] at b1
 have HLZ:Hid ((S.zip qs).length=S.length):=hlz
 clear ka hB2 hBw0 hbs0 hbr0 h hB hBw hwal hl HH hlz hvv hsl hne HSN
 generalize hsn:S.length=n at *
 have hpd:decide ((p:Int)<0)=false:=decide_eq_false (by omega)
 clear hp0
 go_wp2_with (at_builtin;refine app_row rtSo rfl _ _ rfl B (.slice ad n cap) (S.zip qs) (by rfl) HOWN.out ⟨some ⟨w2.heap.size,0,none⟩,1,[(newS kind o,QV.none)]⟩ (by rfl) HONE.out HBX.out.2 HBX.out.1 HSZ.out ?_)
 intro v5 w5 ho5 hg5 hl5
 have hll:(S.zip qs++[(newS kind o,QV.none)]).length=n+1:=by rw[List.length_append,HLZ.out];rfl
 have ho6:w5.ownsRow B 71 7 v5 (n+1) ((S.zip qs++[(newS kind o,QV.none)]).flatMap soC):=by rw[←hll];exact ho5
 obtain⟨g5,c5,rfl,_,_⟩:=ho6.form (by omega)
 have hch:Chg (fun b=>(Value.slice ad n cap).ownBlock=some b) w2 w5:=(Chg.of_below HAL.out).trans (Chg.of_grown (S:=fun b=>(Value.slice ad n cap).ownBlock=some b) hg5 (fun k q=>q)) (fun _ _ q=>q)
 obtain⟨⟨hb1,hb2⟩,hfin⟩:=HPU.out w5 g5 c5 ho5 hch (hl5.imp (fun q=>by rw[←q];rfl) (fun q=>by
  have q:g5=w2.heap.size+1:=by simpa [Value.ownBlock] using q
  omega))
 obtain⟨p0,p1⟩:=hb1.ce
 rw[HVV.out] at p0
 rw[show(SV.mk ta tl tc).val = .slice ta tl tc from rfl] at p1
 obtain⟨pf0,pf1⟩:=hb1.fz
 have hs1:=heap_setCell_same _ w.heap.size 0 _ _ (.slice (some ⟨g5,0,none⟩) (n+1) c5) hb1
 have hc6:Chg (fun b=>b=w.heap.size) w5 (w5.setCell ⟨w.heap.size,0,none⟩ (.slice (some ⟨g5,0,none⟩) (n+1) c5)):=Chg.set (S:=fun b=>b=w.heap.size) w5 ⟨w.heap.size,0,none⟩ _ rfl
 have hb3:=hb2.kept hc6 (by omega)
 have HFI:=(show Hid _ from hfin)
 have HC6:=(show Hid _ from hc6)
 clear ho5 ho6 hg5 hl5 hch HPU HAL HOWN HONE HBX HSZ hb1 hb2 hfin hc6
 go_upto_region 4 with fail
 generalize (w5.setCell ⟨w.heap.size,0,none⟩ (.slice (some ⟨g5,0,none⟩) (n+1) c5))=w6 at *
 have m0:w6.cell? ⟨w.heap.size,0,none⟩=some (.slice (some ⟨g5,0,none⟩) (n+1) c5):=cell_of_row w6 w.heap.size 0 _ _ (0,0) hs1
 have m1:w6.cell? ⟨w.heap.size,1,none⟩=some (.slice ta tl tc):=cell_of_row w6 w.heap.size 1 _ _ (0,0) hs1
 obtain⟨r0,r1⟩:=hb3.ce
 obtain⟨rf0,rf1⟩:=hb3.fz
 have z0:=heap_setCell_same _ (w.heap.size+1) 0 _ _ (.slice (some ⟨g5,0,none⟩) (n+1) c5) hb3
 have z1:=heap_setCell_same _ (w.heap.size+1) 1 _ _ (.slice ta tl tc) z0
 have HZ:=(show Hid _ from z1)
 have hsl:=HSL.out
 have hsub:IntKind.i64.wrap (((n+1:Nat):Int) - 1)=(n:Int):=by rw[IntKind.wrap_i64];omega
 have hcv:IntKind.u64.wrap (n:Int)=(n:Int):=by rw[IntKind.wrap_u64];omega
 obtain⟨hob,hw64⟩:=HOB.out
 clear p0 p1 pf0 pf1 hs1 hb3 z0 z1 b0 b1 hbs hbr
 go_region
 all_goals
  go_wp2_with fail
  refine bodyPost_ret (res4 rfl _ _ (w.heap.size+1) 33 _ (0,0) _ rfl HZ.out Tryz.underlying33 rfl (by kernel_rfl)) rfl ?_
  refine⟨⟨some ⟨g5,0,none⟩,n+1,c5⟩,by first | rfl | (rw[hsn];rfl) | (rw[←hsn];rfl),HFI.out _ ?_⟩
  exact(((HC6.out.mono (fun b r=>Or.inl r)).trans (Chg.set (S:=fun b=>b=w.heap.size∨b=w.heap.size+1) w6 ⟨w.heap.size+1,0,none⟩ _ (Or.inr rfl)) (fun _ _ q=>q)).trans (Chg.set (S:=fun b=>b=w.heap.size∨b=w.heap.size+1) _ ⟨w.heap.size+1,1,none⟩ _ (Or.inr rfl)) (fun _ _ q=>q)).drew
end
section
variable {w W W' w' w1:World}{B b:Nat}{tg:Nat→Nat}{S S':List So}{vo vt:SV}{qs:List QV}{i:Nat}{x x':So}{q:QV}
theorem rmake_miss (h:StAt w B tg S vo qs)(vt:SV)(n:Int)(k0:0≤n)(k6:n≤6)(o:Int)(o0:0≤o)(o1:o<18446744073709551616)(hm:obS S o=none)(hnb:(o != 18445336698825998337)=true) :
  Calls Tryz.prog 29 #[stV vo vt,.int .i64 n,.int .u64 o] w fun e w'=>e = .returned (.tuple #[stV vo vt,.int .u64 18445336698825998336,.bool false])∧SWent w B tg S vo w':=by
 obtain⟨wb,hwb⟩:∃wb,wb=(w.alloc (.cells #[vo.val,vt.val] 33)).alloc (.cells #[.slice none 0 0,.slice none 0 0] 33):=⟨_,rfl⟩
 obtain⟨hbs,hbr,hB⟩:=boxS2 w vo vt
 rw[←hwb] at hbs hbr hB
 have kk0:decide (n<0)=false:=decide_eq_false (by omega)
 have kk6:decide (6<n)=false:=decide_eq_false (by omega)
 have ka:=rat_miss (h.below hB) vt o o0 o1 hm
 have HBS:Hid (∀W,Below wb.heap.size wb W→W.cell? ⟨w.heap.size,0,none⟩=some vo.val∧W.cell? ⟨w.heap.size,1,none⟩=some vt.val):=fun W r=>(hbs.below r).ce
 have HE:Hid (∀W,Below wb.heap.size wb W→BxS W (w.heap.size+1) .nil .nil∧BxS ((W.setCell ⟨w.heap.size+1,0,none⟩ vo.val).setCell ⟨w.heap.size+1,1,none⟩ vt.val) (w.heap.size+1) vo vt∧SWent w B tg S vo ((W.setCell ⟨w.heap.size+1,0,none⟩ vo.val).setCell ⟨w.heap.size+1,1,none⟩ vt.val)):=fun W r=>st_res h (bel_sm' hB r) (hbr.below r) (SWent.same (h.below (bel_sm' hB r)) (Below.refl _ _)) vt
 obtain⟨b0,b1⟩:=hbs.ce
 obtain⟨va,vl,vc⟩:=vo
 obtain⟨ta,tl,tc⟩:=vt
 rw[show(SV.mk va vl vc).val = .slice va vl vc from rfl,show(SV.mk ta tl tc).val = .slice ta tl tc from rfl] at HBS HE hwb
 rw[show(SV.mk va vl vc).val = .slice va vl vc from rfl] at b0
 rw[show(SV.mk ta tl tc).val = .slice ta tl tc from rfl] at b1
 unfold stV at ka ⊢
 rw[show(SV.mk va vl vc).val = .slice va vl vc from rfl,show(SV.mk ta tl tc).val = .slice ta tl tc from rfl] at ka ⊢
 clear h hB hbs hbr hm
 go_enter Tryz.func29,Tryz.ntmps29
 go_upto_region 1 with fail
 rw[←hwb]
 clear hwb
 generalize hnul:(18445336698825998337:Int)=nul at *
 clear hnul
 go_wp2_with fail
 refine ka.mono ?_
 rintro e w2 ⟨rfl,hB2⟩
 obtain⟨b0,b1⟩:=HBS.out w2 hB2
 obtain⟨k1,k2,k3⟩:=HE.out w2 hB2
 obtain⟨r0,r1⟩:=k1.ce
 obtain⟨f0,f1⟩:=k1.fz
 have HF:=(show Hid _ from And.intro k2 k3)
 clear ka hB2 HE HBS k1 k2 k3
 unfold SV.nil SV.val at r0 r1
 simp only at r0 r1
 go_wp2_with fail
 refine bodyPost_ret (res4 rfl _ _ (w.heap.size+1) 33 _ (0,0) _ rfl HF.out.1 Tryz.underlying33 rfl (by kernel_rfl)) rfl ?_
 exact⟨rfl,HF.out.2⟩
theorem rmake_low (h:StAt w B tg S vo qs)(vt:SV)(n o:Int)(hn:n<0) :
  Calls Tryz.prog 29 #[stV vo vt,.int .i64 n,.int .u64 o] w fun e w'=>e = .returned (.tuple #[stV vo vt,.int .u64 18445336698825998336,.bool false])∧SWent w B tg S vo w':=by
 obtain⟨wb,hwb⟩:∃wb,wb=(w.alloc (.cells #[vo.val,vt.val] 33)).alloc (.cells #[.slice none 0 0,.slice none 0 0] 33):=⟨_,rfl⟩
 obtain⟨hbs,hbr,hB⟩:=boxS2 w vo vt
 rw[←hwb] at hbs hbr hB
 have kk0:decide (n<0)=true:=decide_eq_true hn
 clear hn
 have HBS:Hid (∀W,Below wb.heap.size wb W→W.cell? ⟨w.heap.size,0,none⟩=some vo.val∧W.cell? ⟨w.heap.size,1,none⟩=some vt.val):=fun W r=>(hbs.below r).ce
 have HE:Hid (∀W,Below wb.heap.size wb W→BxS W (w.heap.size+1) .nil .nil∧BxS ((W.setCell ⟨w.heap.size+1,0,none⟩ vo.val).setCell ⟨w.heap.size+1,1,none⟩ vt.val) (w.heap.size+1) vo vt∧SWent w B tg S vo ((W.setCell ⟨w.heap.size+1,0,none⟩ vo.val).setCell ⟨w.heap.size+1,1,none⟩ vt.val)):=fun W r=>st_res h (bel_sm' hB r) (hbr.below r) (SWent.same (h.below (bel_sm' hB r)) (Below.refl _ _)) vt
 obtain⟨b0,b1⟩:=hbs.ce
 obtain⟨va,vl,vc⟩:=vo
 obtain⟨ta,tl,tc⟩:=vt
 rw[show(SV.mk va vl vc).val = .slice va vl vc from rfl,show(SV.mk ta tl tc).val = .slice ta tl tc from rfl] at HBS HE hwb
 rw[show(SV.mk va vl vc).val = .slice va vl vc from rfl] at b0
 rw[show(SV.mk ta tl tc).val = .slice ta tl tc from rfl] at b1
 unfold stV at ⊢
 rw[show(SV.mk va vl vc).val = .slice va vl vc from rfl,show(SV.mk ta tl tc).val = .slice ta tl tc from rfl] at ⊢
 clear h hB hbs hbr
 go_enter Tryz.func29,Tryz.ntmps29
 go_upto_region 1 with fail
 rw[←hwb]
 clear hwb
 obtain⟨b0,b1⟩:=HBS.out wb (Below.refl _ _)
 obtain⟨k1,k2,k3⟩:=HE.out wb (Below.refl _ _)
 obtain⟨r0,r1⟩:=k1.ce
 obtain⟨f0,f1⟩:=k1.fz
 have HF:=(show Hid _ from And.intro k2 k3)
 clear HE HBS k1 k2 k3
 unfold SV.nil SV.val at r0 r1
 simp only at r0 r1
 go_wp2_with fail
 refine bodyPost_ret (res4 rfl _ _ (w.heap.size+1) 33 _ (0,0) _ rfl HF.out.1 Tryz.underlying33 rfl (by kernel_rfl)) rfl ?_
 exact⟨rfl,HF.out.2⟩
theorem rmake_high (h:StAt w B tg S vo qs)(vt:SV)(n o:Int)(hn:6<n) :
  Calls Tryz.prog 29 #[stV vo vt,.int .i64 n,.int .u64 o] w fun e w'=>e = .returned (.tuple #[stV vo vt,.int .u64 18445336698825998336,.bool false])∧SWent w B tg S vo w':=by
 obtain⟨wb,hwb⟩:∃wb,wb=(w.alloc (.cells #[vo.val,vt.val] 33)).alloc (.cells #[.slice none 0 0,.slice none 0 0] 33):=⟨_,rfl⟩
 obtain⟨hbs,hbr,hB⟩:=boxS2 w vo vt
 rw[←hwb] at hbs hbr hB
 have kk0:decide (n<0)=false:=decide_eq_false (by omega)
 have kk6:decide (6<n)=true:=decide_eq_true hn
 clear hn
 have HBS:Hid (∀W,Below wb.heap.size wb W→W.cell? ⟨w.heap.size,0,none⟩=some vo.val∧W.cell? ⟨w.heap.size,1,none⟩=some vt.val):=fun W r=>(hbs.below r).ce
 have HE:Hid (∀W,Below wb.heap.size wb W→BxS W (w.heap.size+1) .nil .nil∧BxS ((W.setCell ⟨w.heap.size+1,0,none⟩ vo.val).setCell ⟨w.heap.size+1,1,none⟩ vt.val) (w.heap.size+1) vo vt∧SWent w B tg S vo ((W.setCell ⟨w.heap.size+1,0,none⟩ vo.val).setCell ⟨w.heap.size+1,1,none⟩ vt.val)):=fun W r=>st_res h (bel_sm' hB r) (hbr.below r) (SWent.same (h.below (bel_sm' hB r)) (Below.refl _ _)) vt
 obtain⟨b0,b1⟩:=hbs.ce
 obtain⟨va,vl,vc⟩:=vo
 obtain⟨ta,tl,tc⟩:=vt
 rw[show(SV.mk va vl vc).val = .slice va vl vc from rfl,show(SV.mk ta tl tc).val = .slice ta tl tc from rfl] at HBS HE hwb
 rw[show(SV.mk va vl vc).val = .slice va vl vc from rfl] at b0
 rw[show(SV.mk ta tl tc).val = .slice ta tl tc from rfl] at b1
 unfold stV at ⊢
 rw[show(SV.mk va vl vc).val = .slice va vl vc from rfl,show(SV.mk ta tl tc).val = .slice ta tl tc from rfl] at ⊢
 clear h hB hbs hbr
 go_enter Tryz.func29,Tryz.ntmps29
 go_upto_region 1 with fail
 rw[←hwb]
 clear hwb
 obtain⟨b0,b1⟩:=HBS.out wb (Below.refl _ _)
 obtain⟨k1,k2,k3⟩:=HE.out wb (Below.refl _ _)
 obtain⟨r0,r1⟩:=k1.ce
 obtain⟨f0,f1⟩:=k1.fz
 have HF:=(show Hid _ from And.intro k2 k3)
 clear HE HBS k1 k2 k3
 unfold SV.nil SV.val at r0 r1
 simp only at r0 r1
 go_wp2_with fail
 refine bodyPost_ret (res4 rfl _ _ (w.heap.size+1) 33 _ (0,0) _ rfl HF.out.1 Tryz.underlying33 rfl (by kernel_rfl)) rfl ?_
 exact⟨rfl,HF.out.2⟩
end
section
variable {w W W' w' w1:World}{B b:Nat}{tg:Nat→Nat}{S S':List So}{vo vt:SV}{qs:List QV}{i:Nat}{x x':So}{q:QV}
theorem rmake_fullN (h:StAt w B tg S vo qs)(vt:SV)(n:Int)(k0:0≤n)(k6:n≤6)(hn:65536≤S.length) :
  Calls Tryz.prog 29 #[stV vo vt,.int .i64 n,.int .u64 18445336698825998337] w fun e w'=>e = .returned (.tuple #[stV vo vt,.int .u64 18445336698825998336,.bool false])∧SWent w B tg S vo w':=by
 obtain⟨wb,hwb⟩:∃wb,wb=(w.alloc (.cells #[vo.val,vt.val] 33)).alloc (.cells #[.slice none 0 0,.slice none 0 0] 33):=⟨_,rfl⟩
 obtain⟨hbs,hbr,hB⟩:=boxS2 w vo vt
 rw[←hwb] at hbs hbr hB
 have kk0:decide (n<0)=false:=decide_eq_false (by omega)
 have kk6:decide (6<n)=false:=decide_eq_false (by omega)
 have HBS:Hid (∀W,Below wb.heap.size wb W→W.cell? ⟨w.heap.size,0,none⟩=some vo.val∧W.cell? ⟨w.heap.size,1,none⟩=some vt.val):=fun W r=>(hbs.below r).ce
 have HE:Hid (∀W,Below wb.heap.size wb W→BxS W (w.heap.size+1) .nil .nil∧BxS ((W.setCell ⟨w.heap.size+1,0,none⟩ vo.val).setCell ⟨w.heap.size+1,1,none⟩ vt.val) (w.heap.size+1) vo vt∧SWent w B tg S vo ((W.setCell ⟨w.heap.size+1,0,none⟩ vo.val).setCell ⟨w.heap.size+1,1,none⟩ vt.val)):=fun W r=>st_res h (bel_sm' hB r) (hbr.below r) (SWent.same (h.below (bel_sm' hB r)) (Below.refl _ _)) vt
 obtain⟨b0,b1⟩:=hbs.ce
 have kkl:decide (65536≤(vo.len:Int))=true:=by
  obtain⟨ad0,cap0,hv0,_,_⟩:=h.vol
  rw[hv0]
  exact decide_eq_true (by show(65536:Int)≤(S.length:Int);omega)
 obtain⟨va,vl,vc⟩:=vo
 have kkl:decide (65536≤(vl:Int))=true:=kkl
 obtain⟨ta,tl,tc⟩:=vt
 rw[show(SV.mk va vl vc).val = .slice va vl vc from rfl,show(SV.mk ta tl tc).val = .slice ta tl tc from rfl] at HBS HE hwb
 rw[show(SV.mk va vl vc).val = .slice va vl vc from rfl] at b0
 rw[show(SV.mk ta tl tc).val = .slice ta tl tc from rfl] at b1
 unfold stV at ⊢
 rw[show(SV.mk va vl vc).val = .slice va vl vc from rfl,show(SV.mk ta tl tc).val = .slice ta tl tc from rfl] at ⊢
 clear h hB hbs hbr hn
 go_enter Tryz.func29,Tryz.ntmps29
 go_upto_region 1 with fail
 rw[←hwb]
 clear hwb
 obtain⟨b0,b1⟩:=HBS.out wb (Below.refl _ _)
 obtain⟨k1,k2,k3⟩:=HE.out wb (Below.refl _ _)
 obtain⟨r0,r1⟩:=k1.ce
 obtain⟨f0,f1⟩:=k1.fz
 have HF:=(show Hid _ from And.intro k2 k3)
 clear HE HBS k1 k2 k3
 unfold SV.nil SV.val at r0 r1
 simp only at r0 r1
 go_wp2_with fail
 refine bodyPost_ret (res4 rfl _ _ (w.heap.size+1) 33 _ (0,0) _ rfl HF.out.1 Tryz.underlying33 rfl (by kernel_rfl)) rfl ?_
 exact⟨rfl,HF.out.2⟩
theorem rmake_fullO (h:StAt w B tg S vo qs)(vt:SV)(n:Int)(k0:0≤n)(k6:n≤6)(hn:65536≤S.length){p:Nat}(hp:p<S.length) :
  Calls Tryz.prog 29 #[stV vo vt,.int .i64 n,.int .u64 (objW (p:Int))] w fun e w'=>e = .returned (.tuple #[stV vo vt,.int .u64 18445336698825998336,.bool false])∧SWent w B tg S vo w':=by
 obtain⟨wb,hwb⟩:∃wb,wb=(w.alloc (.cells #[vo.val,vt.val] 33)).alloc (.cells #[.slice none 0 0,.slice none 0 0] 33):=⟨_,rfl⟩
 obtain⟨hbs,hbr,hB⟩:=boxS2 w vo vt
 rw[←hwb] at hbs hbr hB
 have kk0:decide (n<0)=false:=decide_eq_false (by omega)
 have kk6:decide (6<n)=false:=decide_eq_false (by omega)
 have hpd:decide ((p:Int)<0)=false:=decide_eq_false (by omega)
 have hbg:=h.big
 have hnb:(objW (p:Int) != 18445336698825998337)=true:=bne_iff_ne.mpr (by unfold objW;omega)
 have ka:=rat_any (h.below hB) vt hp
 have HBS:Hid (∀W,Below wb.heap.size wb W→W.cell? ⟨w.heap.size,0,none⟩=some vo.val∧W.cell? ⟨w.heap.size,1,none⟩=some vt.val):=fun W r=>(hbs.below r).ce
 have HE:Hid (∀W,Below wb.heap.size wb W→BxS W (w.heap.size+1) .nil .nil∧BxS ((W.setCell ⟨w.heap.size+1,0,none⟩ vo.val).setCell ⟨w.heap.size+1,1,none⟩ vt.val) (w.heap.size+1) vo vt∧SWent w B tg S vo ((W.setCell ⟨w.heap.size+1,0,none⟩ vo.val).setCell ⟨w.heap.size+1,1,none⟩ vt.val)):=fun W r=>st_res h (bel_sm' hB r) (hbr.below r) (SWent.same (h.below (bel_sm' hB r)) (Below.refl _ _)) vt
 obtain⟨b0,b1⟩:=hbs.ce
 have kkl:decide (65536≤(vo.len:Int))=true:=by
  obtain⟨ad0,cap0,hv0,_,_⟩:=h.vol
  rw[hv0]
  exact decide_eq_true (by show(65536:Int)≤(S.length:Int);omega)
 obtain⟨va,vl,vc⟩:=vo
 have kkl:decide (65536≤(vl:Int))=true:=kkl
 obtain⟨ta,tl,tc⟩:=vt
 rw[show(SV.mk va vl vc).val = .slice va vl vc from rfl,show(SV.mk ta tl tc).val = .slice ta tl tc from rfl] at HBS HE hwb
 rw[show(SV.mk va vl vc).val = .slice va vl vc from rfl] at b0
 rw[show(SV.mk ta tl tc).val = .slice ta tl tc from rfl] at b1
 unfold stV at ka ⊢
 rw[show(SV.mk va vl vc).val = .slice va vl vc from rfl,show(SV.mk ta tl tc).val = .slice ta tl tc from rfl] at ka ⊢
 clear h hB hbs hbr hn hp hbg
 generalize objW (p:Int)=o at *
 go_enter Tryz.func29,Tryz.ntmps29
 go_upto_region 1 with fail
 rw[←hwb]
 clear hwb
 generalize hnul:(18445336698825998337:Int)=nul at *
 clear hnul
 go_wp2_with fail
 refine ka.mono ?_
 rintro e w2 ⟨rfl,hB2⟩
 obtain⟨b0,b1⟩:=HBS.out w2 hB2
 obtain⟨k1,k2,k3⟩:=HE.out w2 hB2
 obtain⟨r0,r1⟩:=k1.ce
 obtain⟨f0,f1⟩:=k1.fz
 have HF:=(show Hid _ from And.intro k2 k3)
 clear ka hB2 HE HBS k1 k2 k3
 unfold SV.nil SV.val at r0 r1
 simp only at r0 r1
 go_wp2_with fail
 refine bodyPost_ret (res4 rfl _ _ (w.heap.size+1) 33 _ (0,0) _ rfl HF.out.1 Tryz.underlying33 rfl (by kernel_rfl)) rfl ?_
 exact⟨rfl,HF.out.2⟩
end
end Go.Proofs.YtahhionlbfhinabGreatDoor.Hp
