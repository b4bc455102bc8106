/- VZ -/
import Derived.Test.YtahhionlbfhinabGreatDoorB18
import Derived.Test.YtahhionlbfhinabGreatDoorB12
set_option linter.unusedVariables false
set_option linter.unusedSimpArgs false
set_option maxRecDepth 100000
set_option maxHeartbeats 40000000
namespace Go.Proofs.YtahhionlbfhinabGreatDoor.Hp
open Go.RowKit
theorem era_at {β:Type}{l:List β}{j m:Nat}{u:β}(h:l[j]?=some u):(l.take (j+1)).eraseIdx m=if j=m then (l.take j).eraseIdx m else (l.take j).eraseIdx m++[u]:=by
 have hj:j<l.length:=(List.getElem?_eq_some_iff.1 h).1
 have hl:(l.take j).length=j:=by rw[List.length_take];omega
 have e:l.take (j+1)=l.take j++[u]:=by rw[List.take_add_one,h];rfl
 rw[e]
 by_cases c:j=m
 ·rw[if_pos c,List.eraseIdx_append_of_length_le (by omega),show m - (l.take j).length=0 by omega,List.eraseIdx_of_length_le (l:=l.take j) (k:=m) (by omega)]
  simp
 ·rw[if_neg c]
  by_cases d:m<j
  ·rw[List.eraseIdx_append_of_lt_length (by omega)]
  ·rw[List.eraseIdx_append_of_length_le (by omega),List.eraseIdx_of_length_le (l:=l.take j) (by omega),List.eraseIdx_of_length_le (by simp;omega)]
structure DlAt (w3:World)(B:Nat)(wr:World)(l:List ByteArray)(l':List De)(v v':Value):Prop where
 chg:Chg (fun _=>False) w3 wr
 o1:OwnR strC 1 9 B wr v l
 o2:OwnR deC 3 39 B wr v' l'
 n1:∀b,v.ownBlock=some b→w3.heap.size≤b
 n2:∀b,v'.ownBlock=some b→w3.heap.size≤b
 ap:∀b,v.ownBlock=some b→v'.ownBlock≠some b
section
variable {w W W' w' w1:World}{B b n:Nat}{tg:Nat→Nat}{S S':List So}{vo vt:SV}{qs:List QV}{i:Nat}{x x':So}{q:QV}
theorem DlAt.next1 {w3 wr wa w7:World}{l l1:List ByteArray}{l':List De}{v v' v7:Value}(h:DlAt w3 B wr l l' v v')(hb:Below wr.heap.size wr wa)(ho:OwnR strC 1 9 B w7 v7 l1)(hg:wa.grownBy w7 v.ownBlock)(hl:v7.ownBlock=v.ownBlock∨v7.ownBlock=some wa.heap.size):DlAt w3 B w7 l1 l' v7 v':=by
 have h1:=h.chg.size
 have h2:=hb.size
 refine⟨h.chg.trans ((Chg.of_below hb).trans (Chg.of_grown (S:=fun b=>v.ownBlock=some b) hg (fun k q=>q)) (fun _ _ q=>q)) (fun b hb' r => ?_),ho,(h.o2.below hb).kept (Chg.of_grown (S:=fun b=>v.ownBlock=some b) hg (fun k q=>q)) (fun b r s=>h.ap b s r),fun b r => ?_,h.n2,fun b r s => ?_⟩
 ·have:=h.n1 b r
  omega
 ·rcases hl with e1 | e1
  ·exact h.n1 b (by rw[←e1];exact r)
  ·rw[e1] at r
   have:=Option.some.inj r
   omega
 ·rcases hl with e1 | e1
  ·exact h.ap b (by rw[←e1];exact r) s
  ·rw[e1] at r
   have:=Option.some.inj r
   have:=(h.o2.lt b s).2
   omega
theorem DlAt.next2 {w3 wr wa w7:World}{l:List ByteArray}{l' l2:List De}{v v' v7:Value}(h:DlAt w3 B wr l l' v v')(hb:Below wr.heap.size wr wa)(ho:OwnR deC 3 39 B w7 v7 l2)(hg:wa.grownBy w7 v'.ownBlock)(hl:v7.ownBlock=v'.ownBlock∨v7.ownBlock=some wa.heap.size):DlAt w3 B w7 l l2 v v7:=by
 have h1:=h.chg.size
 have h2:=hb.size
 refine⟨h.chg.trans ((Chg.of_below hb).trans (Chg.of_grown (S:=fun b=>v'.ownBlock=some b) hg (fun k q=>q)) (fun _ _ q=>q)) (fun b hb' r => ?_),(h.o1.below hb).kept (Chg.of_grown (S:=fun b=>v'.ownBlock=some b) hg (fun k q=>q)) (fun b r s=>h.ap b r s),ho,h.n1,fun b r => ?_,fun b r s => ?_⟩
 ·have:=h.n2 b r
  omega
 ·rcases hl with e1 | e1
  ·exact h.n2 b (by rw[←e1];exact r)
  ·rw[e1] at r
   have:=Option.some.inj r
   omega
 ·rcases hl with e1 | e1
  ·exact h.ap b r (by rw[←e1];exact s)
  ·rw[e1] at s
   have:=Option.some.inj s
   have:=(h.o1.lt b r).2
   omega
theorem era_len {β:Type}(l:List β)(j m:Nat):((l.take j).eraseIdx m).length≤l.length:=by
 have h1:=List.length_eraseIdx_le (l.take j) m
 rw[List.length_take] at h1
 omega
theorem PuS.two {W0:World}{y y':So×QV}(hp:PuS W0 W B tg i (fun _=>0) y)(hc:Chg (fun _=>False) W W'){v1 v2:Value}
  (g1:∀g,v1.ownBlock=some g→W.heap.size≤g∧g<W'.heap.size) (g2:∀g,v2.ownBlock=some g→W.heap.size≤g∧g<W'.heap.size) (ap:∀b,v1.ownBlock=some b→v2.ownBlock≠some b)
  (r1:∀O:Nat→Prop,(∀b,v1.ownBlock=some b→O b)→SoP W' B O y'.1 y'.2 0) (r2:∀O:Nat→Prop,(∀b,v2.ownBlock=some b→O b)→SoP W' B O y'.1 y'.2 1)
  (hs:∀c (O:Nat→Prop),c<4→2≤c→SoP W' B O y.1 y.2 c→SoP W' B O y'.1 y'.2 c) :
  PuS W0 W' B tg i (fun b=>if v1.ownBlock=some b then 2+4*i+0 else if v2.ownBlock=some b then 2+4*i+1 else 0) y':=by
 have hsz:=hp.chg.size
 have hsz2:=hc.size
 refine⟨hp.chg.trans hc (fun b hb r=>r.elim),fun c hc4 => ?_,fun b r => ?_⟩
 ·rcases (show c=0∨c=1∨2≤c by omega) with rfl | rfl | h2
  ·refine r1 _ (fun b r => ?_)
   have:=g1 b r
   show ntg tg _ W0.heap.size b=_
   unfold ntg
   rw[if_neg (by omega)]
   show(if _ then _ else _)=_
   rw[if_pos r]
  ·refine r2 _ (fun b r => ?_)
   have:=g2 b r
   show ntg tg _ W0.heap.size b=_
   unfold ntg
   rw[if_neg (by omega)]
   show(if _ then _ else _)=_
   rw[if_neg (fun e=>ap b e r),if_pos r]
  ·refine hs c _ hc4 h2 (SoP.mono c (SoP.kept c (hp.rows c hc4) hc (fun b _ r=>r)) (fun b _ r => ?_))
   have r:ntg tg (fun _=>0) W0.heap.size b=2+4*i+c:=r
   show ntg tg _ W0.heap.size b=_
   unfold ntg at r ⊢
   by_cases cb:b<W0.heap.size
   ·rw[if_pos cb] at r ⊢
    exact r
   ·rw[if_neg cb] at r
    have r:(0:Nat)=2+4*i+c:=r
    omega
 ·change (if _ then _ else _)≠_ at r
  by_cases c1:v1.ownBlock=some b
  ·have:=g1 b c1
   exact⟨by omega,this.2,0,by omega,by show(if _ then _ else _)=_;rw[if_pos c1]⟩
  ·rw[if_neg c1] at r
   by_cases c2:v2.ownBlock=some b
   ·have:=g2 b c2
    exact⟨by omega,this.2,1,by omega,by show(if _ then _ else _)=_;rw[if_neg c1,if_pos c2]⟩
   ·rw[if_neg c2] at r
    exact absurd rfl r
theorem rdrop_hit (h:StAt w B tg S vo qs)(vt:SV)(hi:S[i]?=some x)(k:ByteArray)(m:Nat)(hp:plS x.nm k=some m)(hnl:x.nm.length≤1999999999999) :
  Calls Tryz.prog 74 #[stV vo vt,.int .u64 (objW (i:Int)),.string k] w fun e w'=>e = .returned (.tuple #[stV vo vt,.bool true])∧SWent w B tg (S.set i { x with nm:=x.nm.eraseIdx m,ds:=x.ds.eraseIdx m }) vo w':=by
 obtain⟨wb,hwb⟩:∃wb,wb=(w.alloc (.cells #[vo.val,vt.val] 33)).alloc (.cells #[.slice none 0 0,.slice none 0 0] 33):=⟨_,rfl⟩
 obtain⟨hbs,hbr,hB⟩:=boxS2 w vo vt
 rw[←hwb] at hbs hbr hB
 have hil:i<S.length:=(List.getElem?_eq_some_iff.1 hi).1
 have h2:=h.below hB
 have ka:=rat_any h2 vt hil
 obtain⟨g,cap,q,hv,hq,t1,hgl,hcell,hfz,hl1,hl2,hrow⟩:=h2.obj hi
 have hbig:=h.big
 have hsame:=h.same x (List.mem_of_getElem? hi)
 have HBw:Hid (B≤wb.heap.size):=by show _≤_;have:=h2.lt g (by omega);omega
 have HN:Hid (∀W,Below wb.heap.size wb W→(W.cell? ⟨w.heap.size,0,none⟩=some vo.val∧W.cell? ⟨w.heap.size,1,none⟩=some vt.val)∧(∀j u,(soC (x,q))[j]?=some u→W.cell? ⟨g,i*7+j,none⟩=some u)):=fun W r=>⟨(hbs.below r).ce,fun j u hj=>cells_below r _ _ (hcell j u hj)⟩
 have HBS:Hid (∀W,Below wb.heap.size wb W→BxS W w.heap.size vo vt):=fun W r=>hbs.below r
 have HP:Hid (∀W,Below wb.heap.size wb W→PuS wb W B tg i (fun _=>0) (x,q)):=fun W r=>(h2.pus hi hq).below r
 have HW:Hid (∀W N y,PuS wb W B tg i N y→y.1.ds.length=y.1.nm.length→Calls Tryz.prog 81 #[stV vo vt,.int .i64 (i:Int),soV y] W fun e w'=>e = .returned (stV vo vt)∧SWent wb B tg (S.set i y.1) vo w'):=fun W N y a b=>with_pus h2 vt hi hq a b
 have HE:Hid (∀S' W',SWent wb B tg S' vo W'→BxS W' (w.heap.size+1) .nil .nil∧BxS ((W'.setCell ⟨w.heap.size+1,0,none⟩ vo.val).setCell ⟨w.heap.size+1,1,none⟩ vt.val) (w.heap.size+1) vo vt∧SWent w B tg S' vo ((W'.setCell ⟨w.heap.size+1,0,none⟩ vo.val).setCell ⟨w.heap.size+1,1,none⟩ vt.val)):=fun S' W' s=>st_res h hB hbr s vt
 have hrn:RowIn strC 1 9 B wb (fun b=>tg b=2+4*i+0) q.vn x.nm:=h2.ob i x q 0 hi hq (by omega)
 obtain⟨q1,q2,q3,q4⟩:=hrn.open rtStr.len
 have hrd:RowIn deC 3 39 B wb (fun b=>tg b=2+4*i+1) q.vd x.ds:=h2.ob i x q 1 hi hq (by omega)
 obtain⟨p1,p2,p3,p4⟩:=hrd.open rtDe.len
 have H4:Hid (∀W W',Below wb.heap.size wb W→Chg (fun _=>False) W W'→∀j u,x.nm[j]?=some u→∃ge,q.vn.ad=some ⟨ge,0,none⟩∧W'.cell? ⟨ge,j,none⟩=some (.string u)):=fun W W' r s j u hj=>by
  obtain⟨ge,e1,_,_,_,hc,_⟩:=q4 (by intro e;rw[e] at hj;simp at hj)
  have:=hc j u hj 0 _ rfl
  simp only[Nat.mul_one,Nat.add_zero] at this
  exact⟨ge,e1,s.cell (cells_below r _ _ this) (fun r=>r)⟩
 have H5:Hid (∀W W',Below wb.heap.size wb W→Chg (fun _=>False) W W'→∀j (u:De),x.ds[j]?=some u→∃ge,q.vd.ad=some ⟨ge,0,none⟩∧W'.cell? ⟨ge,j*3,none⟩=some (.int .u64 u.va)∧W'.cell? ⟨ge,j*3+1,none⟩=some (.int .u64 u.se)∧W'.cell? ⟨ge,j*3+2,none⟩=some (.int .i64 u.fl)):=fun W W' r s j u hj=>by
  obtain⟨ge,e1,_,_,_,hc,_⟩:=p4 (by intro e;rw[e] at hj;simp at hj)
  exact⟨ge,e1,s.cell (cells_below r _ _ (hc j u hj 0 _ rfl)) (fun r=>r),s.cell (cells_below r _ _ (hc j u hj 1 _ rfl)) (fun r=>r),s.cell (cells_below r _ _ (hc j u hj 2 _ rfl)) (fun r=>r)⟩
 have HPL:Hid (∀W,Below wb.heap.size wb W→Calls Tryz.prog 97 #[soV (x,q),.string k] W fun e w'=>e = .returned (.int .i64 (m:Int))∧Below W.heap.size W w'):=fun W r=>by
  have:=place_any (x,q) ((HP.out W r).rows 0 (by omega)) k
  rw[show plI x.nm k=(m:Int) from by unfold plI;rw[hp]] at this
  exact this
 have HQ1:Hid (q.vn.len=x.nm.length∧q.vd.len=x.nm.length∧x.nm.length≤1999999999999∧x.ds.length=x.nm.length):=⟨q1,by omega,hnl,hsame⟩
 have hm0:¬((m:Int)<0):=by omega
 have HLO:Hid (w.heap.size<wb.heap.size∧x.ds.length=x.nm.length):=⟨hbs.lt,hsame⟩
 have hii:(i:Int)<(S.length:Int):=by omega
 have hsl:(S.length:Int)≤65536:=by omega
 obtain⟨b0,b1⟩:=hbs.ce
 have h0i:¬((i:Int)<0):=by omega
 have hvv:vo.val = .slice (some ⟨g,0,none⟩) S.length cap:=by rw[hv];rfl
 have HVV:Hid (vo.val = .slice (some ⟨g,0,none⟩) S.length cap):=hvv
 unfold stV at ka ⊢
 rw[hvv] at hwb ka b0 ⊢
 rw[show vt.val = .slice vt.ad vt.len vt.cap from rfl] at *
 generalize objW (i:Int)=o at *
 clear h h2 hB hbs hbr hq t1 hgl hcell hfz hrow hi hsame hil hbig hv hvv hrn hrd q1 q2 q3 q4 p1 p2 p3 p4 hp hnl
 go_enter Tryz.func74,Tryz.ntmps74
 go_upto_region 1 with fail
 rw[←hwb]
 clear hwb
 go_wp2_with fail
 refine ka.mono ?_
 rintro e w2 ⟨rfl,hB2⟩
 obtain⟨⟨b0,b1⟩,hc⟩:=HN.out w2 hB2
 rw[HVV.out] at b0
 have c0:=hc 0 _ rfl
 have c1:=hc 1 _ rfl
 have c2:=hc 2 _ rfl
 have c3:=hc 3 _ rfl
 have c4:=hc 4 _ rfl
 have c5:=hc 5 _ rfl
 have c6:=hc 6 _ rfl
 simp only[Nat.add_zero] at c0 c3 c4 c5 c6
 unfold SV.val at c3 c4 c5 c6
 simp only at c0 c1 c2 c3 c4 c5 c6
 have HB2:Hid (Below wb.heap.size wb w2):=hB2
 clear ka hB2 hc
 have HO3:Hid (BxO (w2.alloc (.cells #[.int .i64 x.kind,.int .u64 x.proto,.bool x.shut,.slice q.vn.ad q.vn.len q.vn.cap,.slice q.vd.ad q.vd.len q.vd.cap,.slice q.ve.ad q.ve.len q.ve.cap,.slice q.vi.ad q.vi.len q.vi.cap] 71)) w2.heap.size (x,q)):=BxO.new w2 (x,q)
 have HB3:Hid (Below wb.heap.size wb (w2.alloc (.cells #[.int .i64 x.kind,.int .u64 x.proto,.bool x.shut,.slice q.vn.ad q.vn.len q.vn.cap,.slice q.vd.ad q.vd.len q.vd.cap,.slice q.ve.ad q.ve.len q.ve.cap,.slice q.vi.ad q.vi.len q.vi.cap] 71))∧wb.heap.size≤w2.heap.size):=⟨bel_sm' HB2.out ((Below.refl _ _).alloc (Nat.le_refl _) _),HB2.out.size⟩
 clear HB2
 go_upto_region 5 with fail
 generalize w2.alloc (.cells #[.int .i64 x.kind,.int .u64 x.proto,.bool x.shut,.slice q.vn.ad q.vn.len q.vn.cap,.slice q.vd.ad q.vd.len q.vd.cap,.slice q.ve.ad q.ve.len q.ve.cap,.slice q.vi.ad q.vi.len q.vi.cap] 71)=w3 at *
 generalize w2.heap.size=bo at *
 obtain⟨c0,c1,c2,c3,c4,c5,c6⟩:=HO3.out.ce
 unfold SV.val at c3 c4 c5 c6
 simp only at c0 c1 c2 c3 c4 c5 c6
 have kp:=HPL.out w3 HB3.out.1
 unfold soV SV.val at kp
 simp only at kp
 clear b0 b1 HN HPL
 go_wp2_with fail
 refine kp.mono ?_
 rintro e w4 ⟨rfl,hB4⟩
 have HO4:Hid (BxO w4 bo (x,q)):=HO3.out.below hB4
 have HB4:Hid (Below wb.heap.size wb w4∧wb.heap.size≤bo):=⟨bel_sm' HB3.out.1 hB4,HB3.out.2⟩
 have HBB:Hid (B≤w4.heap.size):=Nat.le_trans HBw.out HB4.out.1.size
 have HC4:Hid (∀W',Chg (fun _=>False) w4 W'→BxO W' bo (x,q)∧(∀j u,x.nm[j]?=some u→∃ge,q.vn.ad=some ⟨ge,0,none⟩∧W'.cell? ⟨ge,j,none⟩=some (.string u))∧(∀j (u:De),x.ds[j]?=some u→∃ge,q.vd.ad=some ⟨ge,0,none⟩∧W'.cell? ⟨ge,j*3,none⟩=some (.int .u64 u.va)∧W'.cell? ⟨ge,j*3+1,none⟩=some (.int .u64 u.se)∧W'.cell? ⟨ge,j*3+2,none⟩=some (.int .i64 u.fl))):=fun W' s=>⟨HO4.out.kept s (fun r=>r),H4.out w4 W' HB4.out.1 s,H5.out w4 W' HB4.out.1 s⟩
 have HS0:Hid (DlAt w4 B w4 ((x.nm.take 0).eraseIdx m) ((x.ds.take 0).eraseIdx m) (.slice none 0 0) (.slice none 0 0)):=by
  show DlAt _ _ _ _ _ _ _
  exact⟨Chg.refl _ _,OwnR.nil _ _,OwnR.nil _ _,fun b r=>by simp[Value.ownBlock] at r,fun b r=>by simp[Value.ownBlock] at r,fun b r=>by simp[Value.ownBlock] at r⟩
 clear c0 c1 c2 c3 c4 c5 c6 kp hB4 H4 H5 HO3 HB3
 go_wp2_with fail
 go_loopw [11,12,13] (fun p s r wr=>∃(j:Nat) (v1 v2:Value),j≤x.nm.length∧Hid (DlAt w4 B wr ((x.nm.take j).eraseIdx m) ((x.ds.take j).eraseIdx m) v1 v2)∧v1=p∧v2=s∧r = .int .i64 (j:Int)) (fun p s r wr=>((x.nm.length:Int) - intOf r).toNat)
 case atStart=>exact⟨0,_,_,Nat.zero_le _,HS0,rfl,rfl,rfl⟩
 case round =>
  obtain⟨j,v1,v2,hj,HR,rfl,rfl,rfl⟩:=hrel
  have hbx3:=HC4.out wr HR.out.chg
  obtain⟨hbx,hnm,hde⟩:=hbx3
  obtain⟨_,_,_,c3,c4,_,_⟩:=hbx.ce
  unfold SV.val at c3 c4
  simp only at c3 c4
  have HLN:Hid (((x.nm.take j).eraseIdx m).length≤1999999999999∧((x.ds.take j).eraseIdx m).length≤1999999999999):=⟨Nat.le_trans (era_len _ _ _) HQ1.out.2.2.1,Nat.le_trans (era_len _ _ _) (by have:=HQ1.out.2.2;omega)⟩
  by_cases c:j<x.nm.length
  ·have hjj:(j:Int)<(q.vn.len:Int):=by rw[HQ1.out.1];omega
   have hjd:(j:Int)<(q.vd.len:Int):=by rw[HQ1.out.2.1];omega
   have hw1:IntKind.i64.wrap ((j:Int)+1)=((j+1:Nat):Int):=by rw[IntKind.wrap_i64];have:=HQ1.out.2.2.1;omega
   have hj0:¬((j:Int)<0):=by omega
   have hql:(q.vn.len:Int)≤9223372036854775807:=by have:=HQ1.out.2.2.1;rw[HQ1.out.1];omega
   have hqd:(q.vd.len:Int)≤9223372036854775807:=by have:=HQ1.out.2.2.1;rw[HQ1.out.2.1];omega
   have HJ:Hid (j<x.nm.length∧True):=⟨c,trivial⟩
   obtain⟨u,hu⟩:∃u,x.nm[j]?=some u:=⟨_,List.getElem?_eq_getElem c⟩
   obtain⟨d,hd⟩:∃d,x.ds[j]?=some d:=⟨_,List.getElem?_eq_getElem (by rw[HQ1.out.2.2.2];exact c)⟩
   by_cases cj:j=m
   ·have hjm:(j:Int)=(m:Int):=by omega
    have HN7:Hid (DlAt w4 B wr ((x.nm.take (j+1)).eraseIdx m) ((x.ds.take (j+1)).eraseIdx m) v1 v2):=by
     show DlAt _ _ _ _ _ _ _
     rw[era_at hu,if_pos cj,era_at hd,if_pos cj]
     exact HR.out
    have HJM:Hid (j=m):=cj
    clear hu hd cj c hbx hnm hde HR HLN hj
    go_wp2_with fail
    refine⟨⟨j+1,_,_,by have:=HJ.out.1;omega,HN7,rfl,rfl,by first | rfl | trivial | (have:=HJM.out;subst this;rfl)⟩,?_⟩
    have:=HJ.out.1
    have:=HJM.out
    simp[intOf]
    omega
   ·have hjm:¬((j:Int)=(m:Int)):=by omega
    have HEQ:Hid ((x.nm.take (j+1)).eraseIdx m=(x.nm.take j).eraseIdx m++[u]∧(x.ds.take (j+1)).eraseIdx m=(x.ds.take j).eraseIdx m++[d]):=by
     refine⟨?_,?_⟩
     ·rw[era_at hu,if_neg cj]
     ·rw[era_at hd,if_neg cj]
    generalize (x.nm.take j).eraseIdx m=L1 at *
    generalize (x.ds.take j).eraseIdx m=L2 at *
    obtain⟨ge,hge,du⟩:=hnm j u hu
    obtain⟨gd,hgd,d0,d1,d2⟩:=hde j d hd
    rw[hge] at c3
    rw[hgd] at c4
    obtain⟨⟨sa,sc,sx⟩,hv1,hsx,_,_⟩:=HR.out.o1.sl rtStr.len
    simp only at hsx
    subst hsx
    change v1 = .slice sa sx.length sc at hv1
    subst hv1
    have HAL:Hid (Below wr.heap.size wr (wr.alloc (.cells #[.string u] 9))):=(Below.refl _ _).alloc (Nat.le_refl _) _
    have HOW:Hid (OwnR strC 1 9 B (wr.alloc (.cells #[.string u] 9)) (.slice sa sx.length sc) sx):=OwnR.below HR.out.o1 HAL.out
    have HONE:Hid (Sli.ok strC 1 (wr.alloc (.cells #[.string u] 9)) ⟨some ⟨wr.heap.size,0,none⟩,1,[u]⟩):=one_sli rtStr (at_new _ _) rfl
    have HSZ:Hid (B≤(wr.alloc (.cells #[.string u] 9)).heap.size):=Nat.le_trans HBB.out (Nat.le_trans HR.out.chg.size HAL.out.size)
    have HBX:Hid (((sx.length+1)+(sx.length+1) / 4+192)*16≤281474976710656∧sx.length+1≤maxLen):=by have:=HLN.out.1;exact⟨by omega,by unfold maxLen;omega⟩
    have HD:Hid (x.ds[j]?=some d):=hd
    clear cj c hbx hnm hde hj hu hd hge hgd
    go_wp2_with (at_builtin;refine app_row rtStr rfl _ _ rfl B (.slice sa sx.length sc) sx (by rfl) HOW.out ⟨some ⟨wr.heap.size,0,none⟩,1,[u]⟩ (by rfl) HONE.out HBX.out.2 HBX.out.1 HSZ.out ?_)
    intro v7 w7 ho7 hg7 hl7
    have HR7:Hid (DlAt w4 B w7 (sx++[u]) L2 v7 v2):=HR.out.next1 HAL.out ho7 hg7 (hl7.imp id (fun e=>e.trans (by rw[size_new])))
    clear ho7 hg7 hl7 HAL HOW HONE HSZ HBX HR d0 d1 d2
    obtain⟨⟨ta,tc,tx⟩,hv2,htx,_,_⟩:=HR7.out.o2.sl rtDe.len
    simp only at htx
    subst htx
    change v2 = .slice ta tx.length tc at hv2
    subst hv2
    obtain⟨hbx,hnm,hde⟩:=HC4.out w7 HR7.out.chg
    obtain⟨_,_,_,_,c4,_,_⟩:=hbx.ce
    unfold SV.val at c4
    simp only at c4
    obtain⟨gd2,hgd2,d0,d1,d2⟩:=hde j d HD.out
    rw[hgd2] at c4
    have HAL:Hid (Below w7.heap.size w7 (w7.alloc (.cells #[.int .u64 d.va,.int .u64 d.se,.int .i64 d.fl] 39))):=(Below.refl _ _).alloc (Nat.le_refl _) _
    have HOW:Hid (OwnR deC 3 39 B (w7.alloc (.cells #[.int .u64 d.va,.int .u64 d.se,.int .i64 d.fl] 39)) (.slice ta tx.length tc) tx):=OwnR.below HR7.out.o2 HAL.out
    have HONE:Hid (Sli.ok deC 3 (w7.alloc (.cells #[.int .u64 d.va,.int .u64 d.se,.int .i64 d.fl] 39)) ⟨some ⟨w7.heap.size,0,none⟩,1,[d]⟩):=one_sli rtDe (at_new _ _) rfl
    have HSZ:Hid (B≤(w7.alloc (.cells #[.int .u64 d.va,.int .u64 d.se,.int .i64 d.fl] 39)).heap.size):=Nat.le_trans HBB.out (Nat.le_trans HR7.out.chg.size HAL.out.size)
    have HBX:Hid (((tx.length+1)+(tx.length+1) / 4+192)*24≤281474976710656∧tx.length+1≤maxLen):=by have:=HLN.out.2;exact⟨by omega,by unfold maxLen;omega⟩
    clear hbx hnm hde hgd2
    go_wp2_with (at_builtin;refine app_row rtDe rfl _ _ rfl B (.slice ta tx.length tc) tx (by rfl) HOW.out ⟨some ⟨w7.heap.size,0,none⟩,1,[d]⟩ (by rfl) HONE.out HBX.out.2 HBX.out.1 HSZ.out ?_)
    intro v8 w8 ho8 hg8 hl8
    have HN8:Hid (DlAt w4 B w8 ((x.nm.take (j+1)).eraseIdx m) ((x.ds.take (j+1)).eraseIdx m) v7 v8):=by
     show DlAt _ _ _ _ _ _ _
     rw[HEQ.out.1,HEQ.out.2]
     exact HR7.out.next2 HAL.out ho8 hg8 (hl8.imp id (fun e=>e.trans (by rw[size_new])))
    clear ho8 hg8 hl8 HAL HOW HONE HSZ HBX HR7 HEQ d0 d1 d2 c3 c4
    go_wp2_with fail
    refine⟨⟨j+1,_,_,by have:=HJ.out.1;omega,HN8,rfl,rfl,by first | rfl | trivial⟩,?_⟩
    have:=HJ.out.1
    simp[intOf]
    omega
  ·obtain rfl:j=x.nm.length:=by omega
   have hjj:¬((x.nm.length:Int)<(q.vn.len:Int)):=by rw[HQ1.out.1];omega
   have HT:Hid (x.nm.eraseIdx m=(x.nm.take x.nm.length).eraseIdx m∧x.ds.eraseIdx m=(x.ds.take x.nm.length).eraseIdx m∧(x.ds.eraseIdx m).length=(x.nm.eraseIdx m).length):=by
    refine⟨by rw[List.take_length],by rw[←HQ1.out.2.2.2,List.take_length],?_⟩
    rw[List.length_eraseIdx,List.length_eraseIdx,HQ1.out.2.2.2]
   have HRR:Hid (DlAt w4 B wr (x.nm.eraseIdx m) (x.ds.eraseIdx m) v1 v2):=by
    show DlAt _ _ _ _ _ _ _
    rw[HT.out.1,HT.out.2.1]
    exact HR.out
   have HLL:=(show Hid _ from HT.out.2.2)
   clear HR HT
   generalize hE1:x.nm.eraseIdx m=E1 at *
   generalize hE2:x.ds.eraseIdx m=E2 at *
   have HE1:Hid (x.nm.eraseIdx m=E1∧x.ds.eraseIdx m=E2):=⟨hE1,hE2⟩
   clear hE1 hE2
   obtain⟨⟨sa,sc,sx⟩,hv1,hsx,_,_⟩:=HRR.out.o1.sl rtStr.len
   simp only at hsx
   subst hsx
   change v1 = .slice sa sx.length sc at hv1
   subst hv1
   obtain⟨⟨ta,tc,tx⟩,hv2,htx,_,_⟩:=HRR.out.o2.sl rtDe.len
   simp only at htx
   subst htx
   change v2 = .slice ta tx.length tc at hv2
   subst hv2
   have hR:=HRR.out
   have hp8:=(HP.out w4 HB4.out.1).two hR.chg (v1 := .slice sa sx.length sc) (v2 := .slice ta tx.length tc) (fun g e=>⟨hR.n1 g e,(OwnR.lt hR.o1 g e).2⟩) (fun g e=>⟨hR.n2 g e,(OwnR.lt hR.o2 g e).2⟩) hR.ap (y':=({ x with nm:=sx,ds:=tx },{ q with vn:=⟨sa,sx.length,sc⟩,vd:=⟨ta,tx.length,tc⟩ })) (fun O hO=>⟨hR.o1,hO⟩) (fun O hO=>⟨hR.o2,hO⟩) (fun c O hc4 hcn hs=>by
    rcases (show c=2∨c=3 by omega) with rfl | rfl
    ·exact hs
    ·exact hs)
   have hbo:=hbx.lt
   have hbo3:=HO4.out.lt
   have hlo:=HB4.out.2
   have hset:Chg (fun b=>b=bo) wr ((wr.setCell ⟨bo,3,none⟩ (.slice sa sx.length sc)).setCell ⟨bo,4,none⟩ (.slice ta tx.length tc)):=(Chg.set (S:=fun b=>b=bo) wr ⟨bo,3,none⟩ _ rfl).trans (Chg.set (S:=fun b=>b=bo) _ ⟨bo,4,none⟩ _ rfl) (fun _ _ e=>e)
   have hp9:=hp8.own hset (fun b _ r=>by
    subst r
    refine⟨hlo,?_⟩
    show(if _ then _ else _)=0
    rw[if_neg (fun e=>by have:=hR.n1 _ e;omega),if_neg (fun e=>by have:=hR.n2 _ e;omega)])
   have HP8:=(show Hid _ from hp9)
   have h3:=heap_setCell_same _ bo 3 _ _ (.slice sa sx.length sc) hbx
   have HO8:Hid (BxO ((wr.setCell ⟨bo,3,none⟩ (.slice sa sx.length sc)).setCell ⟨bo,4,none⟩ (.slice ta tx.length tc)) bo ({ x with nm:=sx,ds:=tx },{ q with vn:=⟨sa,sx.length,sc⟩,vd:=⟨ta,tx.length,tc⟩ })):=heap_setCell_same _ bo 4 _ _ (.slice ta tx.length tc) h3
   have HS8:Hid (BxS ((wr.setCell ⟨bo,3,none⟩ (.slice sa sx.length sc)).setCell ⟨bo,4,none⟩ (.slice ta tx.length tc)) w.heap.size vo vt):=((HBS.out w4 HB4.out.1).kept hR.chg (fun r=>r)).kept hset (by have:=HLO.out.1;omega)
   have e3:=hbx.fz 3
   have e4:=hbx.fz 4
   have HLO:Hid (True∧tx.length=sx.length):=⟨trivial,HLL.out⟩
   clear hp8 hp9 hbx hbo hbo3 hlo hset hR HRR HO4 HB4 HP HBS HC4 HS0 HQ1 HBB hj c hm0 hnm hde h3 HLN HLL
   go_upto_region 18 with fail
   generalize (wr.setCell ⟨bo,3,none⟩ (.slice sa sx.length sc)).setCell ⟨bo,4,none⟩ (.slice ta tx.length tc)=w8 at *
   obtain⟨b0,b1⟩:=HS8.out.ce
   rw[HVV.out] at b0
   obtain⟨c0,c1,c2,c3,c4,c5,c6⟩:=HO8.out.ce
   have kw:=HW.out w8 _ _ HP8.out HLO.out.2
   unfold stV soV at kw
   rw[HVV.out] at kw
   unfold SV.val at c3 c4 c5 c6 kw b1
   simp only at c0 c1 c2 c3 c4 c5 c6 kw
   clear HW HO8 HS8 HP8 e3 e4
   go_wp2_with fail
   refine kw.mono ?_
   rintro e w5 ⟨rfl,hs5⟩
   obtain⟨k1,k2,k3⟩:=HE.out _ w5 hs5
   obtain⟨r0,r1⟩:=k1.ce
   obtain⟨f0,f1⟩:=k1.fz
   rw[HVV.out] at k2 k3
   have HF:=(show Hid _ from And.intro k2 k3)
   clear kw hs5 HE k1 k2 k3 b0 b1 c0 c1 c2 c3 c4 c5 c6
   unfold SV.nil SV.val at r0 r1
   simp only at r0 r1
   go_wp2_with fail
   refine bodyPost_ret (res2 rfl _ _ (w.heap.size+1) 33 _ (0,0) _ rfl HF.out.1 Tryz.underlying33 rfl (by kernel_rfl)) rfl ?_
   exact⟨by rw[HVV.out];rfl,by rw[HE1.out.1,HE1.out.2];exact HF.out.2⟩
end
end Go.Proofs.YtahhionlbfhinabGreatDoor.Hp
