/- LL -/
import Derived.Test.YtahhionlbfhinabGreatDoorB16
set_option linter.unusedVariables false
set_option linter.unusedSimpArgs false
set_option maxRecDepth 100000
set_option maxHeartbeats 40000000
namespace Go.Proofs.YtahhionlbfhinabGreatDoor.Hp
open Go.RowKit
theorem and14 {m:Int}(h0:8≤m)(h1:m<16):bits .and .i64 m 14=m / 2*2:=by
 rcases (show m=8∨m=9∨m=10∨m=11∨m=12∨m=13∨m=14∨m=15 by omega) with rfl | rfl | rfl | rfl | rfl | rfl | rfl | rfl <;> decide
theorem own_put3 {B g n cap i:Nat}{w:World}{xs:List De}{y:De}(h:OwnR deC 3 39 B w (.slice (some ⟨g,0,none⟩) n cap) xs)(hi:xs[i]?=some y)(d:De) :
  OwnR deC 3 39 B (((w.setCell ⟨g,i*3,none⟩ (.int .u64 d.va)).setCell ⟨g,i*3+1,none⟩ (.int .u64 d.se)).setCell ⟨g,i*3+2,none⟩ (.int .i64 d.fl)) (.slice (some ⟨g,0,none⟩) n cap) (xs.set i d):=by
 have hil:i<xs.length:=(List.getElem?_eq_some_iff.1 hi).1
 have s0:=h.put (j:=0) (u := .int .u64 d.va) (y':={ y with va:=d.va }) rtDe.len hi (by omega) rfl
 have s1:=s0.put (j:=1) (u := .int .u64 d.se) (y':={ y with va:=d.va,se:=d.se }) rtDe.len (List.getElem?_set_self hil) (by omega) rfl
 rw[List.set_set] at s1
 have s2:=s1.put (j:=2) (u := .int .i64 d.fl) (y':=d) rtDe.len (List.getElem?_set_self hil) (by omega) rfl
 rw[List.set_set] at s2
 exact s2
section
variable {w W W':World}{B:Nat}{tg:Nat→Nat}{S:List So}{vo vt:SV}{qs:List QV}{i bo:Nat}{x:So}{q:QV}
theorem rput_any (h:StAt w B tg S vo qs)(vt:SV)(hi:S[i]?=some x)(k:ByteArray)(hnl:x.nm.length≤1999999999999)(d:De) :
  Calls Tryz.prog 71 #[stV vo vt,.int .u64 (objW (i:Int)),.string k,deV d] w fun e w'=>e = .returned (stV vo vt)∧SWent w B tg (S.set i (putS x k d)) vo w':=by
 obtain⟨wb,hwb⟩:∃wb,wb=wPu w vo vt d:=⟨_,rfl⟩
 obtain⟨hbs,hbd,hbr,hB,hsz⟩:=wPu_facts w vo vt d
 rw[←hwb] at hbs hbd hbr hB hsz
 have hil:i<S.length:=(List.getElem?_eq_some_iff.1 hi).1
 have ka:=rat_any (h.below hB) vt hil
 obtain⟨g,cap,q,hv,hq,t1,hgl,hcell,hfz,hl1,hl2,hrow⟩:=h.obj hi
 have hbig:=h.big
 have hsame:=h.same x (List.mem_of_getElem? hi)
 have hBw:B≤w.heap.size:=by have:=h.lt g (by omega);omega
 have hrn:RowIn strC 1 9 B w _ q.vn x.nm:=h.ob i x q 0 hi hq (by omega)
 have hrd:RowIn deC 3 39 B w _ q.vd x.ds:=h.ob i x q 1 hi hq (by omega)
 obtain⟨n1,n2,n3,_⟩:=hrn.open rtStr.len
 obtain⟨m1,m2,m3,_⟩:=hrd.open rtDe.len
 have hcel:=h.celO hi hv
 have HFIN:Hid (∀ {W W':World} {N:Nat→Nat} {y:So×QV} {bo:Nat} {d':De} {w5:World},PuA w W B tg i N y vo vt d' bo→y.1.ds.length=y.1.nm.length→Below W.heap.size W w5→Chg (fun b=>b=W.heap.size+2) (st7 w5 g (i*7) y) W'→BxS W' (w.heap.size+2) .nil .nil∧∀W'',Chg (fun b=>b=w.heap.size+2) W' W''→SWent w B tg (S.set i y.1) vo W''):=fun a b c d=>PuA.fin h hi hq hv a b c d
 have HWI:Hid (∀ {W:World} {N:Nat→Nat} {y:So×QV} {bo:Nat} {d':De},PuA w W B tg i N y vo vt d' bo→Calls Tryz.prog 81 #[stV vo vt,.int .i64 (i:Int),soV y] W fun e w'=>e = .returned (stV vo vt)∧∃w5,Below W.heap.size W w5∧Chg (fun b=>b=W.heap.size+2) (st7 w5 g (i*7) y) w'):=fun {W N y bo d'} a=>by
  have hc:CelO W g (i*7):=hcel.kept a.pus.chg (fun ⟨c,_,r⟩=>by omega)
  have:=with_any (w:=W) (cap:=cap) vt i hc hil h.big y
  rw[←hv] at this
  exact this
 have HP0:Hid (∀W,Below wb.heap.size wb W→(∀j u,(soC (x,q))[j]?=some u→W.cell? ⟨g,i*7+j,none⟩=some u)∧PuA w (W.alloc (.cells #[.int .i64 x.kind,.int .u64 x.proto,.bool x.shut,q.vn.val,q.vd.val,q.ve.val,q.vi.val] 71)) B tg i (fun _=>0) (x,q) vo vt d W.heap.size):=fun W r=>by
  have hwW:Below w.heap.size w W:=hB.trans (r.mono hB.size)
  have hal:Below W.heap.size W (W.alloc (.cells #[.int .i64 x.kind,.int .u64 x.proto,.bool x.shut,q.vn.val,q.vd.val,q.ve.val,q.vi.val] 71)):=(Below.refl _ _).alloc (Nat.le_refl _) _
  exact⟨fun j u hj=>cells_below hwW _ _ (hcell j u hj),((h.pus hi hq).below hwW).below hal,(hbs.below r).below hal,(hbd.below r).below hal,(hbr.below r).below hal,BxO.new W (x,q),by have:=r.size;omega,fun b r=>absurd rfl r⟩
 have HST:Hid (∀W (y:So×QV) (bo:Nat) (d1 d2:De),PuA w W B tg i (fun _=>0) y vo vt d1 bo→d1.va=d2.va→d1.se=d2.se→PuA w (W.setCell ⟨w.heap.size+1,2,none⟩ (.int .i64 d2.fl)) B tg i (fun _=>0) y vo vt d2 bo):=fun W y bo d1 d2 a e1 e2=>by
  have hset:Chg (fun b=>b=w.heap.size+1) W (W.setCell ⟨w.heap.size+1,2,none⟩ (.int .i64 d2.fl)):=Chg.set (S:=fun b=>b=w.heap.size+1) W ⟨w.heap.size+1,2,none⟩ _ rfl
  have hp:=a.bd.pfl d2.fl
  rw[show({ d1 with fl:=d2.fl }:De)=d2 from by cases d1;cases d2;simp only at e1 e2;rw[e1,e2]] at hp
  exact⟨a.pus.own hset (fun b _ r=>⟨by omega,rfl⟩),a.bs.kept hset (by omega),hp,a.br.kept hset (by omega),a.bo'.kept hset (by have:=a.lo;omega),a.lo,a.nn⟩
 have hii:(i:Int)<(S.length:Int):=by omega
 have hsl:(S.length:Int)≤65536:=by omega
 obtain⟨b0,b1⟩:=hbs.ce
 have h0i:¬((i:Int)<0):=by omega
 have a15:=and15 d.fl
 have HKD:Hid (keptD d=⟨d.va,d.se,keptI d.fl⟩):=rfl
 have HEQ:Hid (putS x k d=match plS x.nm k with
  | some m=>{ x with ds:=x.ds.set m (keptD d) }
  | none=>{ x with nm:=x.nm++[k],ds:=x.ds++[keptD d] }):=rfl
 generalize hPS:putS x k d=PS at *
 have hvv:vo.val = .slice (some ⟨g,0,none⟩) S.length cap:=by rw[hv];rfl
 unfold stV at ka ⊢
 unfold wPu at hwb
 rw[hvv] at hwb ka b0 ⊢
 have HSA:Hid (x.ds.length=x.nm.length∧x.nm.length≤1999999999999∧B≤w.heap.size):=⟨hsame,hnl,hBw⟩
 have HPL0:Hid (∀ {W:World} {N:Nat→Nat} {qq:QV} {bo:Nat} {d':De},PuA w W B tg i N (x,qq) vo vt d' bo→Calls Tryz.prog 97 #[soV (x,qq),.string k] W fun e w'=>e = .returned (.int .i64 (plI x.nm k))∧Below W.heap.size W w'):=fun {W N qq bo d'} a=>place_any (x,qq) (a.pus.rows 0 (by omega)) k
 have HBS2:Hid (∀W,Below wb.heap.size wb W→W.cell? ⟨w.heap.size,0,none⟩=some (.slice (some ⟨g,0,none⟩) S.length cap)∧W.cell? ⟨w.heap.size,1,none⟩=some vt.val):=fun W r=>by
  have:=(hbs.below r).ce
  rw[hvv] at this
  exact this
 have HVV:Hid (vo.val = .slice (some ⟨g,0,none⟩) S.length cap):=hvv
 obtain⟨⟨na,nl,nc⟩,⟨da,dl,dc⟩,⟨ea,el',ec⟩,⟨ia,il,ic⟩⟩:=q
 obtain⟨ta,tl,tc⟩:=vt
 simp only at n1 n2 n3 m1 m2 m3
 subst n1
 subst m1
 simp only at HP0
 rw[show(SV.mk na x.nm.length nc).val = .slice na x.nm.length nc from rfl,show(SV.mk da x.ds.length dc).val = .slice da x.ds.length dc from rfl,show(SV.mk ea el' ec).val = .slice ea el' ec from rfl,show(SV.mk ia il ic).val = .slice ia il ic from rfl] at HP0
 rw[show(SV.mk ta tl tc).val = .slice ta tl tc from rfl] at *
 generalize objW (i:Int)=o at *
 unfold deV
 clear hrn hrd
 clear h hB hbs hbd hbr hsz hq t1 hgl hcell hfz hrow hi hcel hPS hsame hnl hBw hv hil hbig
 by_cases c8:d.fl % 16<8
 ·have c8':d.fl % 16<8:=c8
  have c80:0≤d.fl % 16:=by omega
  have HC8:Hid (d.fl % 16<8):=c8
  clear c8
  cases hp:plS x.nm k with
  | none =>
    rw[hp] at HEQ
    rw[show plI x.nm k = -1 from by unfold plI;rw[hp]] at HPL0
    go_enter Tryz.func71,Tryz.ntmps71
    go_upto_region 1 with fail
    rw[←hwb]
    clear hwb
    go_wp2_with fail
    refine ka.mono ?_
    rintro e w2 ⟨rfl,hB2⟩
    obtain⟨hc,hp0⟩:=HP0.out w2 hB2
    have c0:=hc 0 _ rfl
    have c1:=hc 1 _ rfl
    have c2:=hc 2 _ rfl
    have c3:=hc 3 _ rfl
    have c4:=hc 4 _ rfl
    have c5:=hc 5 _ rfl
    have c6:=hc 6 _ rfl
    simp only[Nat.add_zero] at c0
    rw[show(SV.mk na x.nm.length nc).val = .slice na x.nm.length nc from rfl] at c3
    rw[show(SV.mk da x.ds.length dc).val = .slice da x.ds.length dc from rfl] at c4
    rw[show(SV.mk ea el' ec).val = .slice ea el' ec from rfl] at c5
    rw[show(SV.mk ia il ic).val = .slice ia il ic from rfl] at c6
    simp only at c0 c1 c2
    obtain⟨p0,p1⟩:=HBS2.out w2 hB2
    obtain⟨d0,d1,d2⟩:=hp0.bd.ce
    obtain⟨f0,f1,f2⟩:=hp0.bd.fz
    have hlo:=hp0.lo
    have hpa:=HST.out _ _ _ d ⟨d.va,d.se,d.fl % 16⟩ hp0 rfl rfl
    dsimp only at hpa
    rw[show(⟨d.va,d.se,d.fl % 16⟩:De)=keptD d from by rw[HKD.out];unfold keptI;rw[if_pos (by omega)]] at hpa
    obtain⟨o0,o1,o2,o3,o4,o5,o6⟩:=hp0.bo'.ce
    rw[show(SV.mk na x.nm.length nc).val = .slice na x.nm.length nc from rfl] at o3
    rw[show(SV.mk da x.ds.length dc).val = .slice da x.ds.length dc from rfl] at o4
    rw[show(SV.mk ea el' ec).val = .slice ea el' ec from rfl] at o5
    rw[show(SV.mk ia il ic).val = .slice ia il ic from rfl] at o6
    simp only at o0 o1 o2
    have kp:=HPL0.out hpa
    have HPA:=(show Hid _ from hpa)
    unfold soV at kp
    simp only at kp
    rw[show(SV.mk na x.nm.length nc).val = .slice na x.nm.length nc from rfl,show(SV.mk da x.ds.length dc).val = .slice da x.ds.length dc from rfl,show(SV.mk ea el' ec).val = .slice ea el' ec from rfl,show(SV.mk ia il ic).val = .slice ia il ic from rfl] at kp
    clear ka hB2 hc hp0 HP0 HBS2 HST hpa HPL0
    go_upto_region 8 with fail
    generalize ((w2.alloc (.cells #[.int .i64 x.kind,.int .u64 x.proto,.bool x.shut,.slice na x.nm.length nc,.slice da x.ds.length dc,.slice ea el' ec,.slice ia il ic] 71)).setCell ⟨w.heap.size+1,2,none⟩ (.int .i64 (d.fl % 16)))=W5 at *
    generalize w2.heap.size=bo at *
    clear c0 c1 c2 c3 c4 c5 c6 d0 d1 d2 f0 f1 f2 o0 o1 o2 o3 o4 o5 o6 p0 p1 a15  hlo
    obtain⟨o0,o1,o2,o3,o4,o5,o6⟩:=HPA.out.bo'.ce
    rw[show(SV.mk na x.nm.length nc).val = .slice na x.nm.length nc from rfl] at o3
    rw[show(SV.mk da x.ds.length dc).val = .slice da x.ds.length dc from rfl] at o4
    rw[show(SV.mk ea el' ec).val = .slice ea el' ec from rfl] at o5
    rw[show(SV.mk ia il ic).val = .slice ia il ic from rfl] at o6
    simp only at o0 o1 o2
    go_wp2_with fail
    refine kp.mono ?_
    rintro e w6 ⟨rfl,hB6⟩
    have h6:=HPA.out.below hB6
    have HP6:Hid (PuA w w6 B tg i (fun _=>0) (x,⟨⟨na,x.nm.length,nc⟩,⟨da,x.ds.length,dc⟩,⟨ea,el',ec⟩,⟨ia,il,ic⟩⟩) vo ⟨ta,tl,tc⟩ (keptD d) bo):=h6
    obtain⟨o0,o1,o2,o3,o4,o5,o6⟩:=h6.bo'.ce
    rw[show(SV.mk na x.nm.length nc).val = .slice na x.nm.length nc from rfl] at o3
    rw[show(SV.mk da x.ds.length dc).val = .slice da x.ds.length dc from rfl] at o4
    rw[show(SV.mk ea el' ec).val = .slice ea el' ec from rfl] at o5
    rw[show(SV.mk ia il ic).val = .slice ia il ic from rfl] at o6
    simp only at o0 o1 o2
    have hr6:RowIn strC 1 9 B w6 _ ⟨na,x.nm.length,nc⟩ x.nm:=h6.pus.rows 0 (by omega)
    have HR6:Hid (∀b,(Value.slice na x.nm.length nc).ownBlock=some b→ntg tg (fun _=>0) w.heap.size b=2+4*i+0):=hr6.2
    have HAL:Hid (Below w6.heap.size w6 (w6.alloc (.cells #[.string k] 9))):=(Below.refl _ _).alloc (Nat.le_refl _) _
    have HOWN:Hid (OwnR strC 1 9 B (w6.alloc (.cells #[.string k] 9)) (.slice na x.nm.length nc) x.nm):=OwnR.below hr6.1 HAL.out
    have HONE:Hid (Sli.ok strC 1 (w6.alloc (.cells #[.string k] 9)) ⟨some ⟨w6.heap.size,0,none⟩,1,[k]⟩):=one_sli rtStr (at_new _ _) rfl
    have HBX:Hid (((x.nm.length+1)+(x.nm.length+1) / 4+192)*16≤281474976710656∧x.nm.length+1≤maxLen):=by have:=HSA.out.2.1;exact⟨by omega,by unfold maxLen;omega⟩
    have HSZ:Hid (B≤(w6.alloc (.cells #[.string k] 9)).heap.size):=Nat.le_trans HSA.out.2.2 (Nat.le_trans h6.pus.chg.size HAL.out.size)
    clear kp hB6 h6 hr6 HPA
    go_wp2_with (at_builtin;refine app_row rtStr rfl _ _ rfl B (.slice na x.nm.length nc) x.nm (by rfl) HOWN.out ⟨some ⟨w6.heap.size,0,none⟩,1,[k]⟩ (by rfl) HONE.out HBX.out.2 HBX.out.1 HSZ.out ?_)
    intro v7 w7 ho7 hg7 hl7
    have hll:(x.nm++[k]).length=x.nm.length+1:=by simp
    have ho8:w7.ownsRow B 9 1 v7 (x.nm.length+1) ((x.nm++[k]).flatMap strC):=by rw[←hll];exact ho7
    obtain⟨g7,c7,rfl,_,_⟩:=ho8.form (by omega)
    have hch:Chg (fun b=>(Value.slice na x.nm.length nc).ownBlock=some b) w6 w7:=(Chg.of_below HAL.out).trans (Chg.of_grown (S:=fun b=>(Value.slice na x.nm.length nc).ownBlock=some b) hg7 (fun k q=>q)) (fun _ _ q=>q)
    obtain⟨hbx7,hp8⟩:=HP6.out.row (c0:=0) (by omega) HR6.out hch (hl7.imp id (fun q=>⟨g7,by have q:g7=w6.heap.size+1:=(by simpa [Value.ownBlock] using q);omega,(OwnR.lt ho7 g7 rfl).2,rfl⟩)) ({ x with nm:=x.nm++[k] },⟨⟨some ⟨g7,0,none⟩,x.nm.length+1,c7⟩,⟨da,x.ds.length,dc⟩,⟨ea,el',ec⟩,⟨ia,il,ic⟩⟩) (fun O hO=>⟨ho7,hO⟩) (fun c O hc4 hcn hs=>by
     rcases (show c=1∨c=2∨c=3 by omega) with rfl | rfl | rfl
     ·exact hs
     ·exact hs
     ·exact hs) 3 (.slice (some ⟨g7,0,none⟩) (x.nm.length+1) c7) (fun W'' hb=>heap_setCell_same _ bo 3 _ _ _ hb)
    obtain⟨_,_,_,z3,z4,_,_⟩:=hbx7.ce
    have zf:=hbx7.fz 3
    rw[show(SV.mk na x.nm.length nc).val = .slice na x.nm.length nc from rfl] at z3
    clear ho7 ho8 hg7 hl7 hch HP6 HR6 HAL HOWN HONE HBX HSZ hbx7 z4
    go_upto_region 11 with fail
    generalize (w7.setCell ⟨bo,3,none⟩ (.slice (some ⟨g7,0,none⟩) (x.nm.length+1) c7))=w8 at *
    have HP8:=(show Hid _ from hp8)
    obtain⟨o0,o1,o2,o3,o4,o5,o6⟩:=hp8.bo'.ce
    obtain⟨d0,d1,d2⟩:=hp8.bd.ce
    rw[show(SV.mk da x.ds.length dc).val = .slice da x.ds.length dc from rfl] at o4
    have hr8:RowIn deC 3 39 B w8 _ ⟨da,x.ds.length,dc⟩ x.ds:=hp8.pus.rows 1 (by omega)
    have HR8:=(show Hid _ from hr8.2)
    generalize hkd:keptD d=kd at *
    have HAL:Hid (Below w8.heap.size w8 (w8.alloc (.cells #[.int .u64 kd.va,.int .u64 kd.se,.int .i64 kd.fl] 39))):=(Below.refl _ _).alloc (Nat.le_refl _) _
    have HOWN:Hid (OwnR deC 3 39 B (w8.alloc (.cells #[.int .u64 kd.va,.int .u64 kd.se,.int .i64 kd.fl] 39)) (.slice da x.ds.length dc) x.ds):=OwnR.below hr8.1 HAL.out
    have HONE:Hid (Sli.ok deC 3 (w8.alloc (.cells #[.int .u64 kd.va,.int .u64 kd.se,.int .i64 kd.fl] 39)) ⟨some ⟨w8.heap.size,0,none⟩,1,[kd]⟩):=one_sli rtDe (at_new _ _) rfl
    have HBX:Hid (((x.ds.length+1)+(x.ds.length+1) / 4+192)*24≤281474976710656∧x.ds.length+1≤maxLen):=by have h1:=HSA.out.1;have h2:=HSA.out.2.1;exact⟨by omega,by unfold maxLen;omega⟩
    have HSZ:Hid (B≤(w8.alloc (.cells #[.int .u64 kd.va,.int .u64 kd.se,.int .i64 kd.fl] 39)).heap.size):=Nat.le_trans HSA.out.2.2 (Nat.le_trans hp8.pus.chg.size HAL.out.size)
    clear hr8 hp8 z3 zf
    go_wp2_with (at_builtin;refine app_row rtDe rfl _ _ rfl B (.slice da x.ds.length dc) x.ds (by rfl) HOWN.out ⟨some ⟨w8.heap.size,0,none⟩,1,[kd]⟩ (by rfl) HONE.out HBX.out.2 HBX.out.1 HSZ.out ?_)
    intro v9 w9 ho9 hg9 hl9
    have hlm:(x.ds++[kd]).length=x.ds.length+1:=by simp
    have ho10:w9.ownsRow B 39 3 v9 (x.ds.length+1) ((x.ds++[kd]).flatMap deC):=by rw[←hlm];exact ho9
    obtain⟨g9,c9,rfl,_,_⟩:=ho10.form (by omega)
    have hch:Chg (fun b=>(Value.slice da x.ds.length dc).ownBlock=some b) w8 w9:=(Chg.of_below HAL.out).trans (Chg.of_grown (S:=fun b=>(Value.slice da x.ds.length dc).ownBlock=some b) hg9 (fun k q=>q)) (fun _ _ q=>q)
    obtain⟨hbx9,hp10⟩:=HP8.out.row (c0:=1) (by omega) HR8.out hch (hl9.imp id (fun q=>⟨g9,by have q:g9=w8.heap.size+1:=(by simpa [Value.ownBlock] using q);omega,(OwnR.lt ho9 g9 rfl).2,rfl⟩)) ({ x with nm:=x.nm++[k],ds:=x.ds++[kd] },⟨⟨some ⟨g7,0,none⟩,x.nm.length+1,c7⟩,⟨some ⟨g9,0,none⟩,x.ds.length+1,c9⟩,⟨ea,el',ec⟩,⟨ia,il,ic⟩⟩) (fun O hO=>⟨ho9,hO⟩) (fun c O hc4 hcn hs=>by
     rcases (show c=0∨c=2∨c=3 by omega) with rfl | rfl | rfl
     ·exact hs
     ·exact hs
     ·exact hs) 4 (.slice (some ⟨g9,0,none⟩) (x.ds.length+1) c9) (fun W'' hb=>heap_setCell_same _ bo 4 _ _ _ hb)
    obtain⟨_,_,_,z3,z4,_,_⟩:=hbx9.ce
    have zf:=hbx9.fz 4
    rw[show(SV.mk da x.ds.length dc).val = .slice da x.ds.length dc from rfl] at z4
    clear ho9 ho10 hg9 hl9 hch HP8 HR8 HAL HOWN HONE HBX HSZ hbx9 z3
    go_upto_region 12 with fail
    generalize (w9.setCell ⟨bo,4,none⟩ (.slice (some ⟨g9,0,none⟩) (x.ds.length+1) c9))=w10 at *
    have HP10:=(show Hid _ from hp10)
    obtain⟨o0,o1,o2,o3,o4,o5,o6⟩:=hp10.bo'.ce
    obtain⟨p0,p1⟩:=hp10.bs.ce
    rw[hvv] at p0
    rw[show(SV.mk ta tl tc).val = .slice ta tl tc from rfl] at p1
    rw[show(SV.mk (some ⟨g7,0,none⟩) (x.nm.length+1) c7).val = .slice (some ⟨g7,0,none⟩) (x.nm.length+1) c7 from rfl] at o3
    rw[show(SV.mk (some ⟨g9,0,none⟩) (x.ds.length+1) c9).val = .slice (some ⟨g9,0,none⟩) (x.ds.length+1) c9 from rfl] at o4
    rw[show(SV.mk ea el' ec).val = .slice ea el' ec from rfl] at o5
    rw[show(SV.mk ia il ic).val = .slice ia il ic from rfl] at o6
    simp only at o0 o1 o2
    have kw:=HWI.out hp10
    unfold stV soV at kw
    rw[hvv] at kw
    simp only at kw
    rw[show(SV.mk ta tl tc).val = .slice ta tl tc from rfl,show(SV.mk (some ⟨g7,0,none⟩) (x.nm.length+1) c7).val = .slice (some ⟨g7,0,none⟩) (x.nm.length+1) c7 from rfl,show(SV.mk (some ⟨g9,0,none⟩) (x.ds.length+1) c9).val = .slice (some ⟨g9,0,none⟩) (x.ds.length+1) c9 from rfl,show(SV.mk ea el' ec).val = .slice ea el' ec from rfl,show(SV.mk ia il ic).val = .slice ia il ic from rfl] at kw
    have HLE:Hid ((x.ds++[kd]).length=(x.nm++[k]).length):=by show _=_;have:=HSA.out.1;simp;omega
    clear hp10 z4 zf
    go_wp2_with fail
    refine kw.mono ?_
    rintro e w11 ⟨rfl,w5,hb5,hc5⟩
    obtain⟨hbr,hfin⟩:=HFIN.out HP10.out HLE.out hb5 hc5
    obtain⟨r0,r1⟩:=hbr.ce
    obtain⟨t0,t1⟩:=hbr.fz
    have hs0:=heap_setCell_same _ (w.heap.size+2) 0 _ _ (.slice (some ⟨g,0,none⟩) S.length cap) hbr
    have hs1:=heap_setCell_same _ (w.heap.size+2) 1 _ _ (.slice ta tl tc) hs0
    have HRS:=(show Hid _ from hs1)
    have HFI:=(show Hid _ from hfin)
    clear kw hb5 hc5 hbr hfin hs0 hs1 HP10 HWI HFIN o0 o1 o2 o3 o4 o5 o6 p0 p1
    go_wp2_with fail
    refine bodyPost_ret (res1 rfl _ _ (w.heap.size+2) 33 _ (0,0) _ rfl HRS.out Tryz.underlying33 rfl (by kernel_rfl)) rfl ?_
    refine⟨rfl,?_⟩
    rw[HEQ.out]
    exact HFI.out _ ((Chg.set (S:=fun b=>b=w.heap.size+2) w11 ⟨w.heap.size+2,0,none⟩ _ rfl).trans (Chg.set (S:=fun b=>b=w.heap.size+2) _ ⟨w.heap.size+2,1,none⟩ _ rfl) (fun _ _ q=>q))
  | some m =>
    rw[hp] at HEQ
    rw[show plI x.nm k=(m:Int) from by unfold plI;rw[hp]] at HPL0
    have HM:Hid (m<x.ds.length∧True):=by
     have h1:=hp
     unfold plS at h1
     rw[List.findIdx?_eq_some_iff_getElem] at h1
     have h2:=HSA.out.1
     have h3:=h1.1
     exact⟨by omega,trivial⟩
    have hm0:¬((m:Int)<0):=by omega
    have hml:(m:Int)<(x.ds.length:Int):=by have:=HM.out.1;omega
    have hmx:(x.ds.length:Int)≤9223372036854775807:=by have h1:=HSA.out.1;have h2:=HSA.out.2.1;omega
    go_enter Tryz.func71,Tryz.ntmps71
    go_upto_region 1 with fail
    rw[←hwb]
    clear hwb
    go_wp2_with fail
    refine ka.mono ?_
    rintro e w2 ⟨rfl,hB2⟩
    obtain⟨hc,hp0⟩:=HP0.out w2 hB2
    have c0:=hc 0 _ rfl
    have c1:=hc 1 _ rfl
    have c2:=hc 2 _ rfl
    have c3:=hc 3 _ rfl
    have c4:=hc 4 _ rfl
    have c5:=hc 5 _ rfl
    have c6:=hc 6 _ rfl
    simp only[Nat.add_zero] at c0
    rw[show(SV.mk na x.nm.length nc).val = .slice na x.nm.length nc from rfl] at c3
    rw[show(SV.mk da x.ds.length dc).val = .slice da x.ds.length dc from rfl] at c4
    rw[show(SV.mk ea el' ec).val = .slice ea el' ec from rfl] at c5
    rw[show(SV.mk ia il ic).val = .slice ia il ic from rfl] at c6
    simp only at c0 c1 c2
    obtain⟨p0,p1⟩:=HBS2.out w2 hB2
    obtain⟨d0,d1,d2⟩:=hp0.bd.ce
    obtain⟨f0,f1,f2⟩:=hp0.bd.fz
    have hlo:=hp0.lo
    have hpa:=HST.out _ _ _ d ⟨d.va,d.se,d.fl % 16⟩ hp0 rfl rfl
    dsimp only at hpa
    rw[show(⟨d.va,d.se,d.fl % 16⟩:De)=keptD d from by rw[HKD.out];unfold keptI;rw[if_pos (by omega)]] at hpa
    obtain⟨o0,o1,o2,o3,o4,o5,o6⟩:=hp0.bo'.ce
    rw[show(SV.mk na x.nm.length nc).val = .slice na x.nm.length nc from rfl] at o3
    rw[show(SV.mk da x.ds.length dc).val = .slice da x.ds.length dc from rfl] at o4
    rw[show(SV.mk ea el' ec).val = .slice ea el' ec from rfl] at o5
    rw[show(SV.mk ia il ic).val = .slice ia il ic from rfl] at o6
    simp only at o0 o1 o2
    have kp:=HPL0.out hpa
    have HPA:=(show Hid _ from hpa)
    unfold soV at kp
    simp only at kp
    rw[show(SV.mk na x.nm.length nc).val = .slice na x.nm.length nc from rfl,show(SV.mk da x.ds.length dc).val = .slice da x.ds.length dc from rfl,show(SV.mk ea el' ec).val = .slice ea el' ec from rfl,show(SV.mk ia il ic).val = .slice ia il ic from rfl] at kp
    clear ka hB2 hc hp0 HP0 HBS2 HST hpa HPL0
    go_upto_region 8 with fail
    generalize ((w2.alloc (.cells #[.int .i64 x.kind,.int .u64 x.proto,.bool x.shut,.slice na x.nm.length nc,.slice da x.ds.length dc,.slice ea el' ec,.slice ia il ic] 71)).setCell ⟨w.heap.size+1,2,none⟩ (.int .i64 (d.fl % 16)))=W5 at *
    generalize w2.heap.size=bo at *
    clear c0 c1 c2 c3 c4 c5 c6 d0 d1 d2 f0 f1 f2 o0 o1 o2 o3 o4 o5 o6 p0 p1 a15  hlo
    obtain⟨o0,o1,o2,o3,o4,o5,o6⟩:=HPA.out.bo'.ce
    rw[show(SV.mk na x.nm.length nc).val = .slice na x.nm.length nc from rfl] at o3
    rw[show(SV.mk da x.ds.length dc).val = .slice da x.ds.length dc from rfl] at o4
    rw[show(SV.mk ea el' ec).val = .slice ea el' ec from rfl] at o5
    rw[show(SV.mk ia il ic).val = .slice ia il ic from rfl] at o6
    simp only at o0 o1 o2
    go_wp2_with fail
    refine kp.mono ?_
    rintro e w6 ⟨rfl,hB6⟩
    have h6:=HPA.out.below hB6
    have HP6:Hid (PuA w w6 B tg i (fun _=>0) (x,⟨⟨na,x.nm.length,nc⟩,⟨da,x.ds.length,dc⟩,⟨ea,el',ec⟩,⟨ia,il,ic⟩⟩) vo ⟨ta,tl,tc⟩ (keptD d) bo):=h6
    obtain⟨o0,o1,o2,o3,o4,o5,o6⟩:=h6.bo'.ce
    rw[show(SV.mk na x.nm.length nc).val = .slice na x.nm.length nc from rfl] at o3
    rw[show(SV.mk da x.ds.length dc).val = .slice da x.ds.length dc from rfl] at o4
    rw[show(SV.mk ea el' ec).val = .slice ea el' ec from rfl] at o5
    rw[show(SV.mk ia il ic).val = .slice ia il ic from rfl] at o6
    simp only at o0 o1 o2
    have hr6:RowIn deC 3 39 B w6 _ ⟨da,x.ds.length,dc⟩ x.ds:=h6.pus.rows 1 (by omega)
    have HAL:Hid (Below w6.heap.size w6 (w6.alloc (.cells #[] 39))):=(Below.refl _ _).alloc (Nat.le_refl _) _
    have HSZ:Hid (B≤(w6.alloc (.cells #[] 39)).heap.size∧B≤w6.heap.size):=⟨Nat.le_trans HSA.out.2.2 (Nat.le_trans h6.pus.chg.size HAL.out.size),Nat.le_trans HSA.out.2.2 h6.pus.chg.size⟩
    have HEM:Hid (OwnR deC 3 39 B (w6.alloc (.cells #[] 39)) (.slice (some ⟨w6.heap.size,0,none⟩) 0 0) []):=empty_own (at_new _ _) HSZ.out.2
    have HSL:Hid (Sli.ok deC 3 (w6.alloc (.cells #[] 39)) ⟨da,dc,x.ds⟩):=by
     obtain⟨s,s1,s2,s3,_⟩:=(OwnR.below hr6.1 HAL.out).sl rtDe.len
     have e:s=⟨da,dc,x.ds⟩:=by
      obtain⟨sa,sc,sx⟩:=s
      simp only at s2
      subst s2
      unfold SV.val Sli.val at s1
      injection s1 with e1 e2 e3
      simp only at e1 e3
      rw[←e1,←e3]
     rw[←e]
     exact s3
    have HBX:Hid ((((([]:List De).length+x.ds.length)+(([]:List De).length+x.ds.length) / 4+192)*24≤281474976710656)∧([]:List De).length+x.ds.length≤maxLen):=by have h1:=HSA.out.1;have h2:=HSA.out.2.1;simp only[List.length_nil,Nat.zero_add];exact⟨by omega,by unfold maxLen;omega⟩
    have o4:=cells_below HAL.out _ _ o4
    clear kp hB6 h6 hr6 HPA
    go_wp2_with (at_builtin;refine app_row rtDe rfl _ _ rfl B (.slice (some ⟨w6.heap.size,0,none⟩) 0 0) [] (by rfl) HEM.out ⟨da,dc,x.ds⟩ (by rfl) HSL.out HBX.out.2 HBX.out.1 HSZ.out.1 ?_)
    intro v7 w7 ho7 hg7 hl7
    obtain⟨g7,c7,rfl,_,_⟩:=World.ownsRow.form ho7 (by have:=HM.out.1;omega)
    have hch:Chg (fun _=>False) w6 w7:=⟨by rw[hg7.os];rfl,by rw[hg7.tape];rfl,by rw[hg7.output];rfl,Nat.le_trans HAL.out.size hg7.size,fun b hb _=>by rw[hg7.block b (Nat.lt_of_lt_of_le hb HAL.out.size) (by intro e;have e:w6.heap.size=b:=(by simpa [Value.ownBlock] using e.symm);omega)];exact HAL.out.block b hb⟩
    have hg7':w6.heap.size≤g7:=by
     rcases hl7 with e | e
     ·have e:g7=w6.heap.size:=by simpa [Value.ownBlock] using e
      omega
     ·have e:g7=w6.heap.size+1:=by simpa [Value.ownBlock] using e
      omega
    have ho7:OwnR deC 3 39 B w7 (.slice (some ⟨g7,0,none⟩) x.ds.length c7) x.ds:=ho7
    obtain⟨dm,hdm⟩:∃dm,x.ds[m]?=some dm:=⟨_,List.getElem?_eq_getElem HM.out.1⟩
    have z0:=ho7.at' rtDe.len hdm (j:=0) rfl
    have z1:=ho7.at' rtDe.len hdm (j:=1) rfl
    have z2:=ho7.at' rtDe.len hdm (j:=2) rfl
    have y0:=ho7.fz (m*3)
    have y1:=ho7.fz (m*3+1)
    have y2:=ho7.fz (m*3+2)
    simp only[Nat.add_zero] at z0
    have HO7:Hid (OwnR deC 3 39 B w7 (.slice (some ⟨g7,0,none⟩) x.ds.length c7) x.ds∧x.ds[m]?=some dm∧Chg (fun _=>False) w6 w7∧w6.heap.size≤g7):=⟨ho7,hdm,hch,hg7'⟩
    have h7:=HP6.out.pus.own hch (fun _ _ r=>r.elim)
    have HD7:Hid (Bx3 w7 (w.heap.size+1) (keptD d)):=HP6.out.bd.kept hch (fun r=>r)
    obtain⟨d0,d1,d2⟩:=HD7.out.ce
    generalize hkd:keptD d=kd at *
    have HEQ:=HEQ
    clear ho7 hg7 hl7 hch HAL HEM HSL HBX HSZ hdm h7 hg7' hkd
    go_upto_region 15 with fail
    obtain⟨ho7,hdm,hch,hg7'⟩:=HO7.out
    have ho8:=own_put3 ho7 hdm kd
    have hset:Chg (fun b=>b=g7) w7 (((w7.setCell ⟨g7,m*3,none⟩ (.int .u64 kd.va)).setCell ⟨g7,m*3+1,none⟩ (.int .u64 kd.se)).setCell ⟨g7,m*3+2,none⟩ (.int .i64 kd.fl)):=((Chg.set (S:=fun b=>b=g7) w7 ⟨g7,m*3,none⟩ _ rfl).trans (Chg.set (S:=fun b=>b=g7) _ ⟨g7,m*3+1,none⟩ _ rfl) (fun _ _ q=>q)).trans (Chg.set (S:=fun b=>b=g7) _ ⟨g7,m*3+2,none⟩ _ rfl) (fun _ _ q=>q)
    generalize (((w7.setCell ⟨g7,m*3,none⟩ (.int .u64 kd.va)).setCell ⟨g7,m*3+1,none⟩ (.int .u64 kd.se)).setCell ⟨g7,m*3+2,none⟩ (.int .i64 kd.fl))=w8 at *
    have hch8:Chg (fun b=>(Value.slice none 0 0).ownBlock=some b) w6 w8:=(hch.mono (fun _ r=>r.elim)).trans hset (fun b hb r=>by omega)
    obtain⟨hbx9,hp10⟩:=HP6.out.row (c0:=1) (by omega) (fun b r=>by simp[Value.ownBlock] at r) hch8 (Or.inr ⟨g7,hg7',(OwnR.lt ho8 g7 rfl).2,rfl⟩) (v' := .slice (some ⟨g7,0,none⟩) x.ds.length c7) ({ x with ds:=x.ds.set m kd },⟨⟨na,x.nm.length,nc⟩,⟨some ⟨g7,0,none⟩,x.ds.length,c7⟩,⟨ea,el',ec⟩,⟨ia,il,ic⟩⟩) (fun O hO=>⟨ho8,hO⟩) (fun c O hc4 hcn hs=>by
     rcases (show c=0∨c=2∨c=3 by omega) with rfl | rfl | rfl
     ·exact hs
     ·exact hs
     ·exact hs) 4 (.slice (some ⟨g7,0,none⟩) x.ds.length c7) (fun W'' hb=>heap_setCell_same _ bo 4 _ _ _ hb)
    obtain⟨_,_,_,_,z4,_,_⟩:=hbx9.ce
    have zf:=hbx9.fz 4
    rw[show(SV.mk da x.ds.length dc).val = .slice da x.ds.length dc from rfl] at z4
    clear ho7 hdm hch hg7' ho8 hset hch8 hbx9 HO7 HP6 z0 z1 z2 y0 y1 y2 d0 d1 d2 HD7 o0 o1 o2 o3 o4 o5 o6
    go_upto_region 16 with fail
    generalize (w8.setCell ⟨bo,4,none⟩ (.slice (some ⟨g7,0,none⟩) x.ds.length c7))=w10 at *
    have HP10:=(show Hid _ from hp10)
    obtain⟨o0,o1,o2,o3,o4,o5,o6⟩:=hp10.bo'.ce
    obtain⟨p0,p1⟩:=hp10.bs.ce
    rw[hvv] at p0
    rw[show(SV.mk ta tl tc).val = .slice ta tl tc from rfl] at p1
    rw[show(SV.mk na x.nm.length nc).val = .slice na x.nm.length nc from rfl] at o3
    rw[show(SV.mk (some ⟨g7,0,none⟩) x.ds.length c7).val = .slice (some ⟨g7,0,none⟩) x.ds.length c7 from rfl] at o4
    rw[show(SV.mk ea el' ec).val = .slice ea el' ec from rfl] at o5
    rw[show(SV.mk ia il ic).val = .slice ia il ic from rfl] at o6
    simp only at o0 o1 o2
    have kw:=HWI.out hp10
    unfold stV soV at kw
    rw[hvv] at kw
    simp only at kw
    rw[show(SV.mk ta tl tc).val = .slice ta tl tc from rfl,show(SV.mk na x.nm.length nc).val = .slice na x.nm.length nc from rfl,show(SV.mk (some ⟨g7,0,none⟩) x.ds.length c7).val = .slice (some ⟨g7,0,none⟩) x.ds.length c7 from rfl,show(SV.mk ea el' ec).val = .slice ea el' ec from rfl,show(SV.mk ia il ic).val = .slice ia il ic from rfl] at kw
    have HLE:Hid ((x.ds.set m kd).length=x.nm.length):=by show _=_;have:=HSA.out.1;simp;omega
    clear hp10 z4 zf
    go_wp2_with fail
    refine kw.mono ?_
    rintro e w11 ⟨rfl,w5,hb5,hc5⟩
    obtain⟨hbr,hfin⟩:=HFIN.out HP10.out HLE.out hb5 hc5
    obtain⟨r0,r1⟩:=hbr.ce
    obtain⟨t0,t1⟩:=hbr.fz
    have hs0:=heap_setCell_same _ (w.heap.size+2) 0 _ _ (.slice (some ⟨g,0,none⟩) S.length cap) hbr
    have hs1:=heap_setCell_same _ (w.heap.size+2) 1 _ _ (.slice ta tl tc) hs0
    have HRS:=(show Hid _ from hs1)
    have HFI:=(show Hid _ from hfin)
    clear kw hb5 hc5 hbr hfin hs0 hs1 HP10 HWI HFIN o0 o1 o2 o3 o4 o5 o6 p0 p1
    go_wp2_with fail
    refine bodyPost_ret (res1 rfl _ _ (w.heap.size+2) 33 _ (0,0) _ rfl HRS.out Tryz.underlying33 rfl (by kernel_rfl)) rfl ?_
    refine⟨rfl,?_⟩
    rw[HEQ.out]
    exact HFI.out _ ((Chg.set (S:=fun b=>b=w.heap.size+2) w11 ⟨w.heap.size+2,0,none⟩ _ rfl).trans (Chg.set (S:=fun b=>b=w.heap.size+2) _ ⟨w.heap.size+2,1,none⟩ _ rfl) (fun _ _ q=>q))
 ·have c8':8≤d.fl % 16:=by omega
  have c80:d.fl % 16<16:=by omega
  have a14:=and14 c8' c80
  have HC8:Hid (¬d.fl % 16<8):=c8
  clear c8
  cases hp:plS x.nm k with
  | none =>
    rw[hp] at HEQ
    rw[show plI x.nm k = -1 from by unfold plI;rw[hp]] at HPL0
    go_enter Tryz.func71,Tryz.ntmps71
    go_upto_region 1 with fail
    rw[←hwb]
    clear hwb
    go_wp2_with fail
    refine ka.mono ?_
    rintro e w2 ⟨rfl,hB2⟩
    obtain⟨hc,hp0⟩:=HP0.out w2 hB2
    have c0:=hc 0 _ rfl
    have c1:=hc 1 _ rfl
    have c2:=hc 2 _ rfl
    have c3:=hc 3 _ rfl
    have c4:=hc 4 _ rfl
    have c5:=hc 5 _ rfl
    have c6:=hc 6 _ rfl
    simp only[Nat.add_zero] at c0
    rw[show(SV.mk na x.nm.length nc).val = .slice na x.nm.length nc from rfl] at c3
    rw[show(SV.mk da x.ds.length dc).val = .slice da x.ds.length dc from rfl] at c4
    rw[show(SV.mk ea el' ec).val = .slice ea el' ec from rfl] at c5
    rw[show(SV.mk ia il ic).val = .slice ia il ic from rfl] at c6
    simp only at c0 c1 c2
    obtain⟨p0,p1⟩:=HBS2.out w2 hB2
    obtain⟨d0,d1,d2⟩:=hp0.bd.ce
    obtain⟨f0,f1,f2⟩:=hp0.bd.fz
    have hlo:=hp0.lo
    have hpa:=HST.out _ _ _ ⟨d.va,d.se,d.fl % 16⟩ ⟨d.va,d.se,d.fl % 16 / 2*2⟩ (HST.out _ _ _ d ⟨d.va,d.se,d.fl % 16⟩ hp0 rfl rfl) rfl rfl
    dsimp only at hpa
    rw[show(⟨d.va,d.se,d.fl % 16 / 2*2⟩:De)=keptD d from by rw[HKD.out];unfold keptI;rw[if_neg (by omega)]] at hpa
    obtain⟨o0,o1,o2,o3,o4,o5,o6⟩:=hp0.bo'.ce
    rw[show(SV.mk na x.nm.length nc).val = .slice na x.nm.length nc from rfl] at o3
    rw[show(SV.mk da x.ds.length dc).val = .slice da x.ds.length dc from rfl] at o4
    rw[show(SV.mk ea el' ec).val = .slice ea el' ec from rfl] at o5
    rw[show(SV.mk ia il ic).val = .slice ia il ic from rfl] at o6
    simp only at o0 o1 o2
    have kp:=HPL0.out hpa
    have HPA:=(show Hid _ from hpa)
    unfold soV at kp
    simp only at kp
    rw[show(SV.mk na x.nm.length nc).val = .slice na x.nm.length nc from rfl,show(SV.mk da x.ds.length dc).val = .slice da x.ds.length dc from rfl,show(SV.mk ea el' ec).val = .slice ea el' ec from rfl,show(SV.mk ia il ic).val = .slice ia il ic from rfl] at kp
    clear ka hB2 hc hp0 HP0 HBS2 HST hpa HPL0
    go_upto_region 8 with fail
    generalize (((w2.alloc (.cells #[.int .i64 x.kind,.int .u64 x.proto,.bool x.shut,.slice na x.nm.length nc,.slice da x.ds.length dc,.slice ea el' ec,.slice ia il ic] 71)).setCell ⟨w.heap.size+1,2,none⟩ (.int .i64 (d.fl % 16))).setCell ⟨w.heap.size+1,2,none⟩ (.int .i64 (d.fl % 16 / 2*2)))=W5 at *
    generalize w2.heap.size=bo at *
    clear c0 c1 c2 c3 c4 c5 c6 d0 d1 d2 f0 f1 f2 o0 o1 o2 o3 o4 o5 o6 p0 p1 a15 a14 hlo
    obtain⟨o0,o1,o2,o3,o4,o5,o6⟩:=HPA.out.bo'.ce
    rw[show(SV.mk na x.nm.length nc).val = .slice na x.nm.length nc from rfl] at o3
    rw[show(SV.mk da x.ds.length dc).val = .slice da x.ds.length dc from rfl] at o4
    rw[show(SV.mk ea el' ec).val = .slice ea el' ec from rfl] at o5
    rw[show(SV.mk ia il ic).val = .slice ia il ic from rfl] at o6
    simp only at o0 o1 o2
    go_wp2_with fail
    refine kp.mono ?_
    rintro e w6 ⟨rfl,hB6⟩
    have h6:=HPA.out.below hB6
    have HP6:Hid (PuA w w6 B tg i (fun _=>0) (x,⟨⟨na,x.nm.length,nc⟩,⟨da,x.ds.length,dc⟩,⟨ea,el',ec⟩,⟨ia,il,ic⟩⟩) vo ⟨ta,tl,tc⟩ (keptD d) bo):=h6
    obtain⟨o0,o1,o2,o3,o4,o5,o6⟩:=h6.bo'.ce
    rw[show(SV.mk na x.nm.length nc).val = .slice na x.nm.length nc from rfl] at o3
    rw[show(SV.mk da x.ds.length dc).val = .slice da x.ds.length dc from rfl] at o4
    rw[show(SV.mk ea el' ec).val = .slice ea el' ec from rfl] at o5
    rw[show(SV.mk ia il ic).val = .slice ia il ic from rfl] at o6
    simp only at o0 o1 o2
    have hr6:RowIn strC 1 9 B w6 _ ⟨na,x.nm.length,nc⟩ x.nm:=h6.pus.rows 0 (by omega)
    have HR6:Hid (∀b,(Value.slice na x.nm.length nc).ownBlock=some b→ntg tg (fun _=>0) w.heap.size b=2+4*i+0):=hr6.2
    have HAL:Hid (Below w6.heap.size w6 (w6.alloc (.cells #[.string k] 9))):=(Below.refl _ _).alloc (Nat.le_refl _) _
    have HOWN:Hid (OwnR strC 1 9 B (w6.alloc (.cells #[.string k] 9)) (.slice na x.nm.length nc) x.nm):=OwnR.below hr6.1 HAL.out
    have HONE:Hid (Sli.ok strC 1 (w6.alloc (.cells #[.string k] 9)) ⟨some ⟨w6.heap.size,0,none⟩,1,[k]⟩):=one_sli rtStr (at_new _ _) rfl
    have HBX:Hid (((x.nm.length+1)+(x.nm.length+1) / 4+192)*16≤281474976710656∧x.nm.length+1≤maxLen):=by have:=HSA.out.2.1;exact⟨by omega,by unfold maxLen;omega⟩
    have HSZ:Hid (B≤(w6.alloc (.cells #[.string k] 9)).heap.size):=Nat.le_trans HSA.out.2.2 (Nat.le_trans h6.pus.chg.size HAL.out.size)
    clear kp hB6 h6 hr6 HPA
    go_wp2_with (at_builtin;refine app_row rtStr rfl _ _ rfl B (.slice na x.nm.length nc) x.nm (by rfl) HOWN.out ⟨some ⟨w6.heap.size,0,none⟩,1,[k]⟩ (by rfl) HONE.out HBX.out.2 HBX.out.1 HSZ.out ?_)
    intro v7 w7 ho7 hg7 hl7
    have hll:(x.nm++[k]).length=x.nm.length+1:=by simp
    have ho8:w7.ownsRow B 9 1 v7 (x.nm.length+1) ((x.nm++[k]).flatMap strC):=by rw[←hll];exact ho7
    obtain⟨g7,c7,rfl,_,_⟩:=ho8.form (by omega)
    have hch:Chg (fun b=>(Value.slice na x.nm.length nc).ownBlock=some b) w6 w7:=(Chg.of_below HAL.out).trans (Chg.of_grown (S:=fun b=>(Value.slice na x.nm.length nc).ownBlock=some b) hg7 (fun k q=>q)) (fun _ _ q=>q)
    obtain⟨hbx7,hp8⟩:=HP6.out.row (c0:=0) (by omega) HR6.out hch (hl7.imp id (fun q=>⟨g7,by have q:g7=w6.heap.size+1:=(by simpa [Value.ownBlock] using q);omega,(OwnR.lt ho7 g7 rfl).2,rfl⟩)) ({ x with nm:=x.nm++[k] },⟨⟨some ⟨g7,0,none⟩,x.nm.length+1,c7⟩,⟨da,x.ds.length,dc⟩,⟨ea,el',ec⟩,⟨ia,il,ic⟩⟩) (fun O hO=>⟨ho7,hO⟩) (fun c O hc4 hcn hs=>by
     rcases (show c=1∨c=2∨c=3 by omega) with rfl | rfl | rfl
     ·exact hs
     ·exact hs
     ·exact hs) 3 (.slice (some ⟨g7,0,none⟩) (x.nm.length+1) c7) (fun W'' hb=>heap_setCell_same _ bo 3 _ _ _ hb)
    obtain⟨_,_,_,z3,z4,_,_⟩:=hbx7.ce
    have zf:=hbx7.fz 3
    rw[show(SV.mk na x.nm.length nc).val = .slice na x.nm.length nc from rfl] at z3
    clear ho7 ho8 hg7 hl7 hch HP6 HR6 HAL HOWN HONE HBX HSZ hbx7 z4
    go_upto_region 11 with fail
    generalize (w7.setCell ⟨bo,3,none⟩ (.slice (some ⟨g7,0,none⟩) (x.nm.length+1) c7))=w8 at *
    have HP8:=(show Hid _ from hp8)
    obtain⟨o0,o1,o2,o3,o4,o5,o6⟩:=hp8.bo'.ce
    obtain⟨d0,d1,d2⟩:=hp8.bd.ce
    rw[show(SV.mk da x.ds.length dc).val = .slice da x.ds.length dc from rfl] at o4
    have hr8:RowIn deC 3 39 B w8 _ ⟨da,x.ds.length,dc⟩ x.ds:=hp8.pus.rows 1 (by omega)
    have HR8:=(show Hid _ from hr8.2)
    generalize hkd:keptD d=kd at *
    have HAL:Hid (Below w8.heap.size w8 (w8.alloc (.cells #[.int .u64 kd.va,.int .u64 kd.se,.int .i64 kd.fl] 39))):=(Below.refl _ _).alloc (Nat.le_refl _) _
    have HOWN:Hid (OwnR deC 3 39 B (w8.alloc (.cells #[.int .u64 kd.va,.int .u64 kd.se,.int .i64 kd.fl] 39)) (.slice da x.ds.length dc) x.ds):=OwnR.below hr8.1 HAL.out
    have HONE:Hid (Sli.ok deC 3 (w8.alloc (.cells #[.int .u64 kd.va,.int .u64 kd.se,.int .i64 kd.fl] 39)) ⟨some ⟨w8.heap.size,0,none⟩,1,[kd]⟩):=one_sli rtDe (at_new _ _) rfl
    have HBX:Hid (((x.ds.length+1)+(x.ds.length+1) / 4+192)*24≤281474976710656∧x.ds.length+1≤maxLen):=by have h1:=HSA.out.1;have h2:=HSA.out.2.1;exact⟨by omega,by unfold maxLen;omega⟩
    have HSZ:Hid (B≤(w8.alloc (.cells #[.int .u64 kd.va,.int .u64 kd.se,.int .i64 kd.fl] 39)).heap.size):=Nat.le_trans HSA.out.2.2 (Nat.le_trans hp8.pus.chg.size HAL.out.size)
    clear hr8 hp8 z3 zf
    go_wp2_with (at_builtin;refine app_row rtDe rfl _ _ rfl B (.slice da x.ds.length dc) x.ds (by rfl) HOWN.out ⟨some ⟨w8.heap.size,0,none⟩,1,[kd]⟩ (by rfl) HONE.out HBX.out.2 HBX.out.1 HSZ.out ?_)
    intro v9 w9 ho9 hg9 hl9
    have hlm:(x.ds++[kd]).length=x.ds.length+1:=by simp
    have ho10:w9.ownsRow B 39 3 v9 (x.ds.length+1) ((x.ds++[kd]).flatMap deC):=by rw[←hlm];exact ho9
    obtain⟨g9,c9,rfl,_,_⟩:=ho10.form (by omega)
    have hch:Chg (fun b=>(Value.slice da x.ds.length dc).ownBlock=some b) w8 w9:=(Chg.of_below HAL.out).trans (Chg.of_grown (S:=fun b=>(Value.slice da x.ds.length dc).ownBlock=some b) hg9 (fun k q=>q)) (fun _ _ q=>q)
    obtain⟨hbx9,hp10⟩:=HP8.out.row (c0:=1) (by omega) HR8.out hch (hl9.imp id (fun q=>⟨g9,by have q:g9=w8.heap.size+1:=(by simpa [Value.ownBlock] using q);omega,(OwnR.lt ho9 g9 rfl).2,rfl⟩)) ({ x with nm:=x.nm++[k],ds:=x.ds++[kd] },⟨⟨some ⟨g7,0,none⟩,x.nm.length+1,c7⟩,⟨some ⟨g9,0,none⟩,x.ds.length+1,c9⟩,⟨ea,el',ec⟩,⟨ia,il,ic⟩⟩) (fun O hO=>⟨ho9,hO⟩) (fun c O hc4 hcn hs=>by
     rcases (show c=0∨c=2∨c=3 by omega) with rfl | rfl | rfl
     ·exact hs
     ·exact hs
     ·exact hs) 4 (.slice (some ⟨g9,0,none⟩) (x.ds.length+1) c9) (fun W'' hb=>heap_setCell_same _ bo 4 _ _ _ hb)
    obtain⟨_,_,_,z3,z4,_,_⟩:=hbx9.ce
    have zf:=hbx9.fz 4
    rw[show(SV.mk da x.ds.length dc).val = .slice da x.ds.length dc from rfl] at z4
    clear ho9 ho10 hg9 hl9 hch HP8 HR8 HAL HOWN HONE HBX HSZ hbx9 z3
    go_upto_region 12 with fail
    generalize (w9.setCell ⟨bo,4,none⟩ (.slice (some ⟨g9,0,none⟩) (x.ds.length+1) c9))=w10 at *
    have HP10:=(show Hid _ from hp10)
    obtain⟨o0,o1,o2,o3,o4,o5,o6⟩:=hp10.bo'.ce
    obtain⟨p0,p1⟩:=hp10.bs.ce
    rw[hvv] at p0
    rw[show(SV.mk ta tl tc).val = .slice ta tl tc from rfl] at p1
    rw[show(SV.mk (some ⟨g7,0,none⟩) (x.nm.length+1) c7).val = .slice (some ⟨g7,0,none⟩) (x.nm.length+1) c7 from rfl] at o3
    rw[show(SV.mk (some ⟨g9,0,none⟩) (x.ds.length+1) c9).val = .slice (some ⟨g9,0,none⟩) (x.ds.length+1) c9 from rfl] at o4
    rw[show(SV.mk ea el' ec).val = .slice ea el' ec from rfl] at o5
    rw[show(SV.mk ia il ic).val = .slice ia il ic from rfl] at o6
    simp only at o0 o1 o2
    have kw:=HWI.out hp10
    unfold stV soV at kw
    rw[hvv] at kw
    simp only at kw
    rw[show(SV.mk ta tl tc).val = .slice ta tl tc from rfl,show(SV.mk (some ⟨g7,0,none⟩) (x.nm.length+1) c7).val = .slice (some ⟨g7,0,none⟩) (x.nm.length+1) c7 from rfl,show(SV.mk (some ⟨g9,0,none⟩) (x.ds.length+1) c9).val = .slice (some ⟨g9,0,none⟩) (x.ds.length+1) c9 from rfl,show(SV.mk ea el' ec).val = .slice ea el' ec from rfl,show(SV.mk ia il ic).val = .slice ia il ic from rfl] at kw
    have HLE:Hid ((x.ds++[kd]).length=(x.nm++[k]).length):=by show _=_;have:=HSA.out.1;simp;omega
    clear hp10 z4 zf
    go_wp2_with fail
    refine kw.mono ?_
    rintro e w11 ⟨rfl,w5,hb5,hc5⟩
    obtain⟨hbr,hfin⟩:=HFIN.out HP10.out HLE.out hb5 hc5
    obtain⟨r0,r1⟩:=hbr.ce
    obtain⟨t0,t1⟩:=hbr.fz
    have hs0:=heap_setCell_same _ (w.heap.size+2) 0 _ _ (.slice (some ⟨g,0,none⟩) S.length cap) hbr
    have hs1:=heap_setCell_same _ (w.heap.size+2) 1 _ _ (.slice ta tl tc) hs0
    have HRS:=(show Hid _ from hs1)
    have HFI:=(show Hid _ from hfin)
    clear kw hb5 hc5 hbr hfin hs0 hs1 HP10 HWI HFIN o0 o1 o2 o3 o4 o5 o6 p0 p1
    go_wp2_with fail
    refine bodyPost_ret (res1 rfl _ _ (w.heap.size+2) 33 _ (0,0) _ rfl HRS.out Tryz.underlying33 rfl (by kernel_rfl)) rfl ?_
    refine⟨rfl,?_⟩
    rw[HEQ.out]
    exact HFI.out _ ((Chg.set (S:=fun b=>b=w.heap.size+2) w11 ⟨w.heap.size+2,0,none⟩ _ rfl).trans (Chg.set (S:=fun b=>b=w.heap.size+2) _ ⟨w.heap.size+2,1,none⟩ _ rfl) (fun _ _ q=>q))
  | some m =>
    rw[hp] at HEQ
    rw[show plI x.nm k=(m:Int) from by unfold plI;rw[hp]] at HPL0
    have HM:Hid (m<x.ds.length∧True):=by
     have h1:=hp
     unfold plS at h1
     rw[List.findIdx?_eq_some_iff_getElem] at h1
     have h2:=HSA.out.1
     have h3:=h1.1
     exact⟨by omega,trivial⟩
    have hm0:¬((m:Int)<0):=by omega
    have hml:(m:Int)<(x.ds.length:Int):=by have:=HM.out.1;omega
    have hmx:(x.ds.length:Int)≤9223372036854775807:=by have h1:=HSA.out.1;have h2:=HSA.out.2.1;omega
    go_enter Tryz.func71,Tryz.ntmps71
    go_upto_region 1 with fail
    rw[←hwb]
    clear hwb
    go_wp2_with fail
    refine ka.mono ?_
    rintro e w2 ⟨rfl,hB2⟩
    obtain⟨hc,hp0⟩:=HP0.out w2 hB2
    have c0:=hc 0 _ rfl
    have c1:=hc 1 _ rfl
    have c2:=hc 2 _ rfl
    have c3:=hc 3 _ rfl
    have c4:=hc 4 _ rfl
    have c5:=hc 5 _ rfl
    have c6:=hc 6 _ rfl
    simp only[Nat.add_zero] at c0
    rw[show(SV.mk na x.nm.length nc).val = .slice na x.nm.length nc from rfl] at c3
    rw[show(SV.mk da x.ds.length dc).val = .slice da x.ds.length dc from rfl] at c4
    rw[show(SV.mk ea el' ec).val = .slice ea el' ec from rfl] at c5
    rw[show(SV.mk ia il ic).val = .slice ia il ic from rfl] at c6
    simp only at c0 c1 c2
    obtain⟨p0,p1⟩:=HBS2.out w2 hB2
    obtain⟨d0,d1,d2⟩:=hp0.bd.ce
    obtain⟨f0,f1,f2⟩:=hp0.bd.fz
    have hlo:=hp0.lo
    have hpa:=HST.out _ _ _ ⟨d.va,d.se,d.fl % 16⟩ ⟨d.va,d.se,d.fl % 16 / 2*2⟩ (HST.out _ _ _ d ⟨d.va,d.se,d.fl % 16⟩ hp0 rfl rfl) rfl rfl
    dsimp only at hpa
    rw[show(⟨d.va,d.se,d.fl % 16 / 2*2⟩:De)=keptD d from by rw[HKD.out];unfold keptI;rw[if_neg (by omega)]] at hpa
    obtain⟨o0,o1,o2,o3,o4,o5,o6⟩:=hp0.bo'.ce
    rw[show(SV.mk na x.nm.length nc).val = .slice na x.nm.length nc from rfl] at o3
    rw[show(SV.mk da x.ds.length dc).val = .slice da x.ds.length dc from rfl] at o4
    rw[show(SV.mk ea el' ec).val = .slice ea el' ec from rfl] at o5
    rw[show(SV.mk ia il ic).val = .slice ia il ic from rfl] at o6
    simp only at o0 o1 o2
    have kp:=HPL0.out hpa
    have HPA:=(show Hid _ from hpa)
    unfold soV at kp
    simp only at kp
    rw[show(SV.mk na x.nm.length nc).val = .slice na x.nm.length nc from rfl,show(SV.mk da x.ds.length dc).val = .slice da x.ds.length dc from rfl,show(SV.mk ea el' ec).val = .slice ea el' ec from rfl,show(SV.mk ia il ic).val = .slice ia il ic from rfl] at kp
    clear ka hB2 hc hp0 HP0 HBS2 HST hpa HPL0
    go_upto_region 8 with fail
    generalize (((w2.alloc (.cells #[.int .i64 x.kind,.int .u64 x.proto,.bool x.shut,.slice na x.nm.length nc,.slice da x.ds.length dc,.slice ea el' ec,.slice ia il ic] 71)).setCell ⟨w.heap.size+1,2,none⟩ (.int .i64 (d.fl % 16))).setCell ⟨w.heap.size+1,2,none⟩ (.int .i64 (d.fl % 16 / 2*2)))=W5 at *
    generalize w2.heap.size=bo at *
    clear c0 c1 c2 c3 c4 c5 c6 d0 d1 d2 f0 f1 f2 o0 o1 o2 o3 o4 o5 o6 p0 p1 a15 a14 hlo
    obtain⟨o0,o1,o2,o3,o4,o5,o6⟩:=HPA.out.bo'.ce
    rw[show(SV.mk na x.nm.length nc).val = .slice na x.nm.length nc from rfl] at o3
    rw[show(SV.mk da x.ds.length dc).val = .slice da x.ds.length dc from rfl] at o4
    rw[show(SV.mk ea el' ec).val = .slice ea el' ec from rfl] at o5
    rw[show(SV.mk ia il ic).val = .slice ia il ic from rfl] at o6
    simp only at o0 o1 o2
    go_wp2_with fail
    refine kp.mono ?_
    rintro e w6 ⟨rfl,hB6⟩
    have h6:=HPA.out.below hB6
    have HP6:Hid (PuA w w6 B tg i (fun _=>0) (x,⟨⟨na,x.nm.length,nc⟩,⟨da,x.ds.length,dc⟩,⟨ea,el',ec⟩,⟨ia,il,ic⟩⟩) vo ⟨ta,tl,tc⟩ (keptD d) bo):=h6
    obtain⟨o0,o1,o2,o3,o4,o5,o6⟩:=h6.bo'.ce
    rw[show(SV.mk na x.nm.length nc).val = .slice na x.nm.length nc from rfl] at o3
    rw[show(SV.mk da x.ds.length dc).val = .slice da x.ds.length dc from rfl] at o4
    rw[show(SV.mk ea el' ec).val = .slice ea el' ec from rfl] at o5
    rw[show(SV.mk ia il ic).val = .slice ia il ic from rfl] at o6
    simp only at o0 o1 o2
    have hr6:RowIn deC 3 39 B w6 _ ⟨da,x.ds.length,dc⟩ x.ds:=h6.pus.rows 1 (by omega)
    have HAL:Hid (Below w6.heap.size w6 (w6.alloc (.cells #[] 39))):=(Below.refl _ _).alloc (Nat.le_refl _) _
    have HSZ:Hid (B≤(w6.alloc (.cells #[] 39)).heap.size∧B≤w6.heap.size):=⟨Nat.le_trans HSA.out.2.2 (Nat.le_trans h6.pus.chg.size HAL.out.size),Nat.le_trans HSA.out.2.2 h6.pus.chg.size⟩
    have HEM:Hid (OwnR deC 3 39 B (w6.alloc (.cells #[] 39)) (.slice (some ⟨w6.heap.size,0,none⟩) 0 0) []):=empty_own (at_new _ _) HSZ.out.2
    have HSL:Hid (Sli.ok deC 3 (w6.alloc (.cells #[] 39)) ⟨da,dc,x.ds⟩):=by
     obtain⟨s,s1,s2,s3,_⟩:=(OwnR.below hr6.1 HAL.out).sl rtDe.len
     have e:s=⟨da,dc,x.ds⟩:=by
      obtain⟨sa,sc,sx⟩:=s
      simp only at s2
      subst s2
      unfold SV.val Sli.val at s1
      injection s1 with e1 e2 e3
      simp only at e1 e3
      rw[←e1,←e3]
     rw[←e]
     exact s3
    have HBX:Hid ((((([]:List De).length+x.ds.length)+(([]:List De).length+x.ds.length) / 4+192)*24≤281474976710656)∧([]:List De).length+x.ds.length≤maxLen):=by have h1:=HSA.out.1;have h2:=HSA.out.2.1;simp only[List.length_nil,Nat.zero_add];exact⟨by omega,by unfold maxLen;omega⟩
    have o4:=cells_below HAL.out _ _ o4
    clear kp hB6 h6 hr6 HPA
    go_wp2_with (at_builtin;refine app_row rtDe rfl _ _ rfl B (.slice (some ⟨w6.heap.size,0,none⟩) 0 0) [] (by rfl) HEM.out ⟨da,dc,x.ds⟩ (by rfl) HSL.out HBX.out.2 HBX.out.1 HSZ.out.1 ?_)
    intro v7 w7 ho7 hg7 hl7
    obtain⟨g7,c7,rfl,_,_⟩:=World.ownsRow.form ho7 (by have:=HM.out.1;omega)
    have hch:Chg (fun _=>False) w6 w7:=⟨by rw[hg7.os];rfl,by rw[hg7.tape];rfl,by rw[hg7.output];rfl,Nat.le_trans HAL.out.size hg7.size,fun b hb _=>by rw[hg7.block b (Nat.lt_of_lt_of_le hb HAL.out.size) (by intro e;have e:w6.heap.size=b:=(by simpa [Value.ownBlock] using e.symm);omega)];exact HAL.out.block b hb⟩
    have hg7':w6.heap.size≤g7:=by
     rcases hl7 with e | e
     ·have e:g7=w6.heap.size:=by simpa [Value.ownBlock] using e
      omega
     ·have e:g7=w6.heap.size+1:=by simpa [Value.ownBlock] using e
      omega
    have ho7:OwnR deC 3 39 B w7 (.slice (some ⟨g7,0,none⟩) x.ds.length c7) x.ds:=ho7
    obtain⟨dm,hdm⟩:∃dm,x.ds[m]?=some dm:=⟨_,List.getElem?_eq_getElem HM.out.1⟩
    have z0:=ho7.at' rtDe.len hdm (j:=0) rfl
    have z1:=ho7.at' rtDe.len hdm (j:=1) rfl
    have z2:=ho7.at' rtDe.len hdm (j:=2) rfl
    have y0:=ho7.fz (m*3)
    have y1:=ho7.fz (m*3+1)
    have y2:=ho7.fz (m*3+2)
    simp only[Nat.add_zero] at z0
    have HO7:Hid (OwnR deC 3 39 B w7 (.slice (some ⟨g7,0,none⟩) x.ds.length c7) x.ds∧x.ds[m]?=some dm∧Chg (fun _=>False) w6 w7∧w6.heap.size≤g7):=⟨ho7,hdm,hch,hg7'⟩
    have h7:=HP6.out.pus.own hch (fun _ _ r=>r.elim)
    have HD7:Hid (Bx3 w7 (w.heap.size+1) (keptD d)):=HP6.out.bd.kept hch (fun r=>r)
    obtain⟨d0,d1,d2⟩:=HD7.out.ce
    generalize hkd:keptD d=kd at *
    have HEQ:=HEQ
    clear ho7 hg7 hl7 hch HAL HEM HSL HBX HSZ hdm h7 hg7' hkd
    go_upto_region 15 with fail
    obtain⟨ho7,hdm,hch,hg7'⟩:=HO7.out
    have ho8:=own_put3 ho7 hdm kd
    have hset:Chg (fun b=>b=g7) w7 (((w7.setCell ⟨g7,m*3,none⟩ (.int .u64 kd.va)).setCell ⟨g7,m*3+1,none⟩ (.int .u64 kd.se)).setCell ⟨g7,m*3+2,none⟩ (.int .i64 kd.fl)):=((Chg.set (S:=fun b=>b=g7) w7 ⟨g7,m*3,none⟩ _ rfl).trans (Chg.set (S:=fun b=>b=g7) _ ⟨g7,m*3+1,none⟩ _ rfl) (fun _ _ q=>q)).trans (Chg.set (S:=fun b=>b=g7) _ ⟨g7,m*3+2,none⟩ _ rfl) (fun _ _ q=>q)
    generalize (((w7.setCell ⟨g7,m*3,none⟩ (.int .u64 kd.va)).setCell ⟨g7,m*3+1,none⟩ (.int .u64 kd.se)).setCell ⟨g7,m*3+2,none⟩ (.int .i64 kd.fl))=w8 at *
    have hch8:Chg (fun b=>(Value.slice none 0 0).ownBlock=some b) w6 w8:=(hch.mono (fun _ r=>r.elim)).trans hset (fun b hb r=>by omega)
    obtain⟨hbx9,hp10⟩:=HP6.out.row (c0:=1) (by omega) (fun b r=>by simp[Value.ownBlock] at r) hch8 (Or.inr ⟨g7,hg7',(OwnR.lt ho8 g7 rfl).2,rfl⟩) (v' := .slice (some ⟨g7,0,none⟩) x.ds.length c7) ({ x with ds:=x.ds.set m kd },⟨⟨na,x.nm.length,nc⟩,⟨some ⟨g7,0,none⟩,x.ds.length,c7⟩,⟨ea,el',ec⟩,⟨ia,il,ic⟩⟩) (fun O hO=>⟨ho8,hO⟩) (fun c O hc4 hcn hs=>by
     rcases (show c=0∨c=2∨c=3 by omega) with rfl | rfl | rfl
     ·exact hs
     ·exact hs
     ·exact hs) 4 (.slice (some ⟨g7,0,none⟩) x.ds.length c7) (fun W'' hb=>heap_setCell_same _ bo 4 _ _ _ hb)
    obtain⟨_,_,_,_,z4,_,_⟩:=hbx9.ce
    have zf:=hbx9.fz 4
    rw[show(SV.mk da x.ds.length dc).val = .slice da x.ds.length dc from rfl] at z4
    clear ho7 hdm hch hg7' ho8 hset hch8 hbx9 HO7 HP6 z0 z1 z2 y0 y1 y2 d0 d1 d2 HD7 o0 o1 o2 o3 o4 o5 o6
    go_upto_region 16 with fail
    generalize (w8.setCell ⟨bo,4,none⟩ (.slice (some ⟨g7,0,none⟩) x.ds.length c7))=w10 at *
    have HP10:=(show Hid _ from hp10)
    obtain⟨o0,o1,o2,o3,o4,o5,o6⟩:=hp10.bo'.ce
    obtain⟨p0,p1⟩:=hp10.bs.ce
    rw[hvv] at p0
    rw[show(SV.mk ta tl tc).val = .slice ta tl tc from rfl] at p1
    rw[show(SV.mk na x.nm.length nc).val = .slice na x.nm.length nc from rfl] at o3
    rw[show(SV.mk (some ⟨g7,0,none⟩) x.ds.length c7).val = .slice (some ⟨g7,0,none⟩) x.ds.length c7 from rfl] at o4
    rw[show(SV.mk ea el' ec).val = .slice ea el' ec from rfl] at o5
    rw[show(SV.mk ia il ic).val = .slice ia il ic from rfl] at o6
    simp only at o0 o1 o2
    have kw:=HWI.out hp10
    unfold stV soV at kw
    rw[hvv] at kw
    simp only at kw
    rw[show(SV.mk ta tl tc).val = .slice ta tl tc from rfl,show(SV.mk na x.nm.length nc).val = .slice na x.nm.length nc from rfl,show(SV.mk (some ⟨g7,0,none⟩) x.ds.length c7).val = .slice (some ⟨g7,0,none⟩) x.ds.length c7 from rfl,show(SV.mk ea el' ec).val = .slice ea el' ec from rfl,show(SV.mk ia il ic).val = .slice ia il ic from rfl] at kw
    have HLE:Hid ((x.ds.set m kd).length=x.nm.length):=by show _=_;have:=HSA.out.1;simp;omega
    clear hp10 z4 zf
    go_wp2_with fail
    refine kw.mono ?_
    rintro e w11 ⟨rfl,w5,hb5,hc5⟩
    obtain⟨hbr,hfin⟩:=HFIN.out HP10.out HLE.out hb5 hc5
    obtain⟨r0,r1⟩:=hbr.ce
    obtain⟨t0,t1⟩:=hbr.fz
    have hs0:=heap_setCell_same _ (w.heap.size+2) 0 _ _ (.slice (some ⟨g,0,none⟩) S.length cap) hbr
    have hs1:=heap_setCell_same _ (w.heap.size+2) 1 _ _ (.slice ta tl tc) hs0
    have HRS:=(show Hid _ from hs1)
    have HFI:=(show Hid _ from hfin)
    clear kw hb5 hc5 hbr hfin hs0 hs1 HP10 HWI HFIN o0 o1 o2 o3 o4 o5 o6 p0 p1
    go_wp2_with fail
    refine bodyPost_ret (res1 rfl _ _ (w.heap.size+2) 33 _ (0,0) _ rfl HRS.out Tryz.underlying33 rfl (by kernel_rfl)) rfl ?_
    refine⟨rfl,?_⟩
    rw[HEQ.out]
    exact HFI.out _ ((Chg.set (S:=fun b=>b=w.heap.size+2) w11 ⟨w.heap.size+2,0,none⟩ _ rfl).trans (Chg.set (S:=fun b=>b=w.heap.size+2) _ ⟨w.heap.size+2,1,none⟩ _ rfl) (fun _ _ q=>q))
end
end Go.Proofs.YtahhionlbfhinabGreatDoor.Hp
