/- XQ -/
import Derived.Test.YtahhionlbfhinabGreatDoorB39
import Derived.Test.YtahhionlbfhinabGreatDoorB7
import Derived.Test.YtahhionlbfhinabGreatDoorOW
set_option linter.unusedVariables false
set_option linter.unusedSimpArgs false
set_option maxRecDepth 100000
set_option maxHeartbeats 40000000
namespace Go.Proofs.YtahhionlbfhinabGreatDoor.Hp
open Go.RowKit
section
variable {w w' w0 w1:World}{B B' hb:Nat}{tg:Nat→Nat}{O:Nat→Prop}{H:He}{M:HV}{S:List So}{vo vt:SV}{qs:List QV}{X:Nat→Prop}{ts:List ByteArray}{n bs:Nat}
theorem RowIn.low {β:Type}{enc:β→List Value}{k:Nat}{e:TypeId}{s:SV}{xs:List β}(h:RowIn enc k e B w O s xs)(hB:B'≤B):RowIn enc k e B' w O s xs:=⟨h.1.low hB,h.2⟩
theorem ObP.low {ob:Ob}{ov:OV}(hB:B'≤B):∀c,ObP w B O ob ov c→ObP w B' O ob ov c
 | 0,h=>RowIn.low (xs:=ob.ps) h hB
 | 1,h=>h
 | 2,h=>RowIn.low (xs:=ob.el) h hB
 | _+3,h=>RowIn.low (xs:=ob.inn) h hB
theorem HeapAt.low (h:HeapAt w B hb tg H M)(hB:B'≤B):HeapAt w B' hb tg H M:=by
 refine⟨fun j => ?_,fun b q=>⟨Nat.le_trans hB (h.lt b q).1,(h.lt b q).2⟩,h.len,h.wf⟩
 have k:=h.prt j
 match j,k with
 | 0,k=>exact k
 | 1,k=>exact k
 | 2,k=>exact RowIn.low (xs:=H.tx) k hB
 | 3,k=>exact k
 | 4,k=>exact RowIn.low (xs:=H.obs.zip M.ovs) k hB
 | 5,⟨Ot,k1,k2⟩=>exact⟨Ot,tree_low k1 hB,k2⟩
 | 6,⟨Oc,k1,k2⟩=>exact⟨Oc,cs_low k1 hB,k2⟩
 | j+7,k=>exact fun ob ov a b=>ObP.low hB _ (k ob ov a b)
theorem SoP.low {x:So}{q:QV}(hB:B'≤B):∀c,SoP w B O x q c→SoP w B' O x q c
 | 0,h=>RowIn.low (xs:=x.nm) h hB
 | 1,h=>RowIn.low (xs:=x.ds) h hB
 | 2,h=>RowIn.low (xs:=x.el) h hB
 | _+3,h=>RowIn.low (xs:=x.inn) h hB
theorem StAt.low (h:StAt w B tg S vo qs)(hB:B'≤B):StAt w B' tg S vo qs :=
 ⟨h.row.low hB,fun i x q c h1 h2 h3=>SoP.low hB c (h.ob i x q c h1 h2 h3),fun b q=>⟨Nat.le_trans hB (h.lt b q).1,(h.lt b q).2⟩,h.len,h.big,h.same⟩
theorem TwoE.setLow (h:TwoE w1 w X hb H S vo vt ts)(hB:w0.heap.size≤w1.heap.size)(hb0:Below w0.heap.size w0 w){b:Nat}(h0:w0.heap.size≤b)(h1:b<w1.heap.size)(j:Nat)(v:Value):∃tgH tgS M qs,Two w0 (w.setCell ⟨b,j,none⟩ v) X hb tgH tgS H M S vo vt qs ts∧(∀c,tgH c≠0→w1.heap.size≤c)∧(∀c,tgS c≠0→w1.heap.size≤c)∧∀c,vt.val.ownBlock=some c→w1.heap.size≤c:=by
 obtain⟨tgH,tgS,M,qs,h⟩:=h
 have hc:Chg (fun c=>c=b) w (w.setCell ⟨b,j,none⟩ v):=Chg.set (S:=fun c=>c=b) w ⟨b,j,none⟩ v rfl
 have l1:∀c,tgH c≠0→w1.heap.size≤c:=fun c q=>(h.hp.lt c q).1
 have l2:∀c,tgS c≠0→w1.heap.size≤c:=fun c q=>(h.st.lt c q).1
 have l3:∀c,vt.val.ownBlock=some c→w1.heap.size≤c:=fun c q=>(h.tx.lt c q).1
 refine⟨tgH,tgS,M,qs,⟨(h.hp.low hB).kept hc (fun c q r => ?_),(h.st.low hB).kept hc (fun c q r => ?_),(h.tx.low hB).kept hc (fun c q r => ?_),h.ap,h.at',fun c q => ?_,hb0.setCell h0 _⟩,l1,l2,l3⟩
 ·have:=l1 c q;have r:c=b:=r;omega
 ·have:=l2 c q;have r:c=b:=r;omega
 ·have:=l3 c q;have r:c=b:=r;omega
 ·obtain⟨a,b',c',d⟩:=h.xs c q
  exact⟨a,b',c',by simpa using d⟩
theorem BxS.below' (h:BxS w1 B vo vt)(hB:Below w1.heap.size w1 w)(hl:B<w1.heap.size):BxS w B vo vt:=by
 unfold BxS
 rw[hB.block B hl]
 exact h
structure LawQ (w wr:World)(hb:Nat)(H:He)(S:List So)(vo:SV)(n:Nat):Prop where
 two:TwoE w wr (fun _=>False) hb H S vo .nil []
 ord:OrP H S [] n
 tb:TbAt w
theorem LawQ.box (h:LawQ w w1 hb H S vo n):LawP w (w1.alloc (.cells #[vo.val,SV.nil.val] 33)) (fun b=>b=w1.heap.size) hb w1.heap.size H S vo n:=by
 have hal:Below w1.heap.size w1 (w1.alloc (.cells #[vo.val,SV.nil.val] 33)):=(Below.refl _ _).alloc (Nat.le_refl _) _
 refine⟨(h.two.box hal).mono (fun b q=>Or.inr ⟨by have q:b=w1.heap.size:=q;omega,by have q:b=w1.heap.size:=q;rw[size_new];omega⟩),rfl,BxS.new w1 vo .nil,h.ord,h.two.bel.size,h.tb⟩
theorem made_out {wr:World}{oa:Option Addr}{ol oc:Nat}(hB:Below w.heap.size w w1)(hl:w.heap.size<w1.heap.size)(h:LawP w1 wr X hb bs H S ⟨oa,ol,oc⟩ n)(hT:TbAt w):LawQ w ((wr.setCell ⟨w.heap.size,0,none⟩ (.slice oa ol oc)).setCell ⟨w.heap.size,1,none⟩ (.slice none 0 0)).drew hb H S ⟨oa,ol,oc⟩ n:=by
 have hb0:Below w.heap.size w wr:=bel_sm' hB h.two.bel
 have k:=(h.two.mono (Y:=fun _=>False) (fun b q=>q.elim))
 obtain⟨tgH,tgS,M,qs,g,l1,l2,l3⟩:=k.setLow (w0:=w) (Nat.le_of_lt hl) hb0 (Nat.le_refl _) hl 0 (.slice oa ol oc)
 have hc:Chg (fun c=>c=w.heap.size) (wr.setCell ⟨w.heap.size,0,none⟩ (.slice oa ol oc)) ((wr.setCell ⟨w.heap.size,0,none⟩ (.slice oa ol oc)).setCell ⟨w.heap.size,1,none⟩ (.slice none 0 0)):=Chg.set (S:=fun c=>c=w.heap.size) _ ⟨w.heap.size,1,none⟩ _ rfl
 refine⟨TwoE.below ⟨tgH,tgS,M,qs,g.hp.kept hc (fun c q r => ?_),g.st.kept hc (fun c q r => ?_),g.tx.kept hc (fun c q r => ?_),g.ap,g.at',fun c q=>q.elim,g.bel.setCell (Nat.le_refl _) _⟩ ((Below.refl _ _).drew),h.ord,hT⟩
 ·have:=l1 c q;have r:c=w.heap.size:=r;omega
 ·have:=l2 c q;have r:c=w.heap.size:=r;omega
 ·have:=l3 c q;have r:c=w.heap.size:=r;omega
theorem resT {P:Program}{fn:Func}{p a:Tmp}{ty:TypeId}(h:fn.results=#[.tmp a,.cell p ty])(tmps:Array Value)(w:World)(g:Nat)(t:TypeId)(cs:Array Value)(fr:Nat×Nat)(d:TypeDesc)
  (hp:tmps.getD p undef = .pointer (some ⟨g,0,none⟩)) (hg:w.heap[g]?=some (.cells cs t fr))
  (hu:P.underlying ty=some d) (hd:(match d with | .struct _ | .array _ _=>true | _=>false)=true) (hi:(P.info? ty).map (·.size)=some cs.size) :
  (results fn tmps).run P w = .ok (.tuple #[tmps.getD a undef,.agg cs]) w:=by
 have hp':tmps[p]?.getD undef = .pointer (some ⟨g,0,none⟩):=by simpa using hp
 simp[results,h,hp',asAddr,run_loadVar_row w g t ty cs fr d hg hu hd hi]
end
theorem made_any (w:World)(hT:TbAt w)(sc:Sli OpP)(hsc:sc.ok opP 11 w)(hwf:∀a∈sc.xs,a.wf)(hsz:96*sc.xs.length≤140737488355328) :
  Calls Tryz.prog 7 #[sc.val] w fun e w'=>∃(hb:Nat) (H:He) (S:List So) (vo:SV) (n:Nat),e = .returned (.tuple #[.pointer (some ⟨hb,0,none⟩),stV vo .nil])∧n≤sc.xs.length∧LawQ w w' hb H S vo n:=by
 obtain⟨wb,hwb⟩:∃wb,wb=w.alloc (.cells #[.slice none 0 0,.slice none 0 0] 33):=⟨_,rfl⟩
 have hB:Below w.heap.size w wb:=by rw[hwb];exact(Below.refl _ _).alloc (Nat.le_refl _) _
 have hbs:BxS wb w.heap.size .nil .nil:=by rw[hwb];exact BxS.new w .nil .nil
 have HBB:Hid (Below w.heap.size w wb∧BxS wb w.heap.size .nil .nil∧w.heap.size<wb.heap.size):=⟨hB,hbs,hbs.lt⟩
 have hsc:=hsc.kept (cells_below hB)
 have HTW:Hid (TbAt w):=hT
 have hT:=hT.below hB
 obtain⟨ca,cc,cx⟩:=sc
 unfold Sli.val
 simp only at *
 have kn:=new_any wb 256
 have HC:Hid (∀W,Below wb.heap.size wb W→Sli.ok opP 11 W ⟨ca,cc,cx⟩):=fun W hW=>hsc.kept (cells_below hW)
 have HWF:Hid ((∀a∈cx,a.wf)∧96*cx.length≤140737488355328):=⟨hwf,hsz⟩
 have hcl:(cx.length:Int)≤1466015503702:=by omega
 have HTB:Hid (TbAt wb):=hT
 clear hsc hwf hsz hT hB hbs
 go_enter Tryz.func7,Tryz.ntmps7
 go_upto_region 1 with fail
 rw[←hwb]
 clear hwb
 go_wp2_with fail
 refine kn.mono ?_
 rintro e w1 ⟨hb,O,rfl,hT,hb1⟩
 have HS:Hid (LawP wb (w1.alloc (.cells #[.slice none 0 0,.slice none 0 0] 33)) (fun b=>b=w1.heap.size) hb w1.heap.size (He.new 256) [] .nil 0):=LawP.start HTB.out hT hb1
 clear kn hT hb1
 go_upto_region 3 with fail
 generalize w1.alloc (.cells #[.slice none 0 0,.slice none 0 0] 33)=w2 at *
 generalize w1.heap.size=bs at *
 have HI:=(show Hid _ from HS.out)
 clear HS
 go_wp2_with fail
 go_loopw [15] (fun iv wr=>∃(i:Nat) (H:He) (S:List So) (vo:SV),(i≤cx.length∧Hid (LawP wb wr (fun b=>b=bs) hb bs H S vo i))∧iv = .int .i64 i) (fun iv wr=>cx.length - (intOf iv).toNat)
 case atStart=>exact⟨0,_,_,_,⟨Nat.zero_le _,HI⟩,rfl⟩
 case round =>
  clear HI
  obtain⟨i,H,S,⟨oa,ol,oc⟩,⟨ple,HL⟩,rfl⟩:=hrel
  rcases Nat.lt_or_ge i cx.length with c | c
  ·have hex:∃a,cx[i]?=some a:=⟨_,List.getElem?_eq_getElem c⟩
   obtain⟨a,ha⟩:=hex
   obtain⟨b,off,e1,hc⟩:=(HC.out wr HL.out.two.bel).cells (by intro e;have e:cx=[]:=e;rw[e] at c;simp at c)
   simp only at e1
   subst e1
   have d0:=hc i a ha 0 _ rfl
   have d1:=hc i a ha 1 _ rfl
   have d2:=hc i a ha 2 _ rfl
   have d3:=hc i a ha 3 _ rfl
   have d4:=hc i a ha 4 _ rfl
   have d5:=hc i a ha 5 _ rfl
   have d6:=hc i a ha 6 _ rfl
   have d7:=hc i a ha 7 _ rfl
   have d8:=hc i a ha 8 _ rfl
   have d9:=hc i a ha 9 _ rfl
   have d10:=hc i a ha 10 _ rfl
   rw[Nat.add_zero] at d0
   have hmem:=HWF.out.1 a (List.mem_of_getElem? ha)
   have cil:(i:Int)<cx.length:=by omega
   obtain⟨kd,oo,op,kk,⟨has,va,ge,se,fl⟩,vv,nn⟩:=a
   simp only at d0 d1 d2 d3 d4 d5 d6 d7 d8 d9 d10
   obtain⟨wq,hwq⟩:∃wq,wq=wr.alloc (.cells #[.int .i64 kd,.int .u64 oo,.int .u64 op,.string kk,.int .i64 has,.int .u64 va,.int .u64 ge,.int .u64 se,.int .i64 fl,.int .u64 vv,.int .i64 nn] 28):=⟨_,rfl⟩
   have hxq:wq.heap[wr.heap.size]?=some (.cells #[.int .i64 kd,.int .u64 oo,.int .u64 op,.string kk,.int .i64 has,.int .u64 va,.int .u64 ge,.int .u64 se,.int .i64 fl,.int .u64 vv,.int .i64 nn] 28 (0,0)):=by rw[hwq];exact at_new _ _
   have hlq:LawP wb wq (fun b=>(fun b=>b=bs) b∨b=wr.heap.size) hb bs H S ⟨oa,ol,oc⟩ i:=by rw[hwq];exact HL.out.new _
   have HXQ:=(show Hid _ from hxq)
   have HNQ:Hid (wr.heap.size≠bs):=fun e=>HL.out.ne (Eq.mpr (congrArg (fun b=>b=bs) e) HL.out.bx)
   have HQ:=(show Hid _ from hlq)
   have ks:=hlq.step (by have:=HWF.out.2;omega) _ hmem
   unfold stV OpP.val OpP.cells at ks
   rw[show(SV.mk oa ol oc).val = .slice oa ol oc from rfl,show SV.nil.val = .slice none 0 0 from rfl] at ks
   simp only at ks
   obtain⟨r0,r1⟩:=HQ.out.box.ce
   rw[show(SV.mk oa ol oc).val = .slice oa ol oc from rfl] at r0
   rw[show SV.nil.val = .slice none 0 0 from rfl] at r1
   have hcq:∀j,wq.cell? ⟨wr.heap.size,j,none⟩=_:=fun j=>cell_of_row wq wr.heap.size j _ _ (0,0) hxq
   have g0:=hcq 0
   have g1:=hcq 1
   have g2:=hcq 2
   have g3:=hcq 3
   have g4:=hcq 4
   have g5:=hcq 5
   have g6:=hcq 6
   have g7:=hcq 7
   have g8:=hcq 8
   have g9:=hcq 9
   have g10:=hcq 10
   clear hc ha hmem hxq hlq hcq HL
   go_upto_region 8 with fail
   rw[←hwq]
   clear hwq d0 d1 d2 d3 d4 d5 d6 d7 d8 d9 d10
   generalize wr.heap.size=bq at *
   simp only[List.getElem?_toArray,List.getElem?_cons_zero,List.getElem?_cons_succ] at g0 g1 g2 g3 g4 g5 g6 g7 g8 g9 g10
   go_wp2_with fail
   refine ks.mono ?_
   rintro e w5 ⟨⟨za,zl,zc⟩,rfl,bx5,hl5,hk5⟩
   have HX:=(show Hid _ from hl5)
   have HXB:=(show Hid _ from (hk5 bq (Or.inr rfl) HNQ.out).trans HXQ.out)
   obtain⟨m0,m1⟩:=bx5.ce
   obtain⟨n0,n1⟩:=bx5.fz
   rw[show(SV.mk oa ol oc).val = .slice oa ol oc from rfl] at m0
   try rw[show SV.nil.val = .slice none 0 0 from rfl] at m1
   rw[show(SV.mk za zl zc).val = .slice za zl zc from rfl] at HX HXB ⊢
   try rw[show SV.nil.val = .slice none 0 0 from rfl] at HX
   try rw[show SV.nil.val = .slice none 0 0 from rfl] at HXB
   try rw[show SV.nil.val = .slice none 0 0 from rfl]
   clear hl5 bx5 hk5 ks g0 g1 g2 g3 g4 g5 g6 g7 g8 g9 g10 r0 r1 HXQ HQ
   go_upto_region 9 with fail
   generalize ((w5.setCell ⟨bs,0,none⟩ (.slice za zl zc)).setCell ⟨bs,1,none⟩ (.slice none 0 0))=w6 at *
   clear m0 m1 n0 n1
   obtain⟨H3,hH3⟩:∃H3,H3=pH H ⟨kd,oo,op,kk,⟨has,va,ge,se,fl⟩,vv,nn⟩:=⟨_,rfl⟩
   obtain⟨S3,hS3⟩:∃S3,S3=pS S ⟨kd,oo,op,kk,⟨has,va,ge,se,fl⟩,vv,nn⟩:=⟨_,rfl⟩
   rw[←hH3,←hS3] at HX
   have HN:Hid (LawP wb w6 (fun b=>b=bs) hb bs H3 S3 ⟨za,zl,zc⟩ (i+1)):=HX.out.less (fun b q=>Or.inl q) rfl
   have HC2:Hid (i<cx.length):=c
   clear hH3 hS3 HXB HNQ c HX
   go_wp2_with fail
   refine⟨⟨i+1,H3,S3,⟨za,zl,zc⟩,⟨HC2.out,HN⟩,by go_num⟩,?_⟩
   have:=HC2.out
   simp[intOf]
   omega
  ·have hil:¬((i:Int)<cx.length):=by omega
   obtain⟨r0,r1⟩:=HL.out.box.ce
   rw[show(SV.mk oa ol oc).val = .slice oa ol oc from rfl] at r0
   rw[show SV.nil.val = .slice none 0 0 from rfl] at r1
   have hq:=HBB.out.2.1.below' HL.out.two.bel HBB.out.2.2
   obtain⟨t0,t1⟩:=hq.ce
   obtain⟨t2,t3⟩:=hq.fz
   rw[show SV.nil.val = .slice none 0 0 from rfl] at t0 t1
   have z0:=heap_setCell_same _ w.heap.size 0 _ _ (.slice oa ol oc) hq
   have z1:=heap_setCell_same _ w.heap.size 1 _ _ (.slice none 0 0) z0
   have HQQ:Hid (((wr.setCell ⟨w.heap.size,0,none⟩ (.slice oa ol oc)).setCell ⟨w.heap.size,1,none⟩ (.slice none 0 0)).heap[w.heap.size]?=some (.cells #[.slice oa ol oc,.slice none 0 0] 33 (0,0))∧LawQ w ((wr.setCell ⟨w.heap.size,0,none⟩ (.slice oa ol oc)).setCell ⟨w.heap.size,1,none⟩ (.slice none 0 0)).drew hb H S ⟨oa,ol,oc⟩ i∧i≤cx.length):=⟨z1,made_out HBB.out.1 HBB.out.2.2 HL.out HTW.out,ple⟩
   clear HL c hq z0 z1 HBB ple
   go_wp2_with fail
   go_region
   go_wp2_with fail
   refine bodyPost_ret (resT rfl _ _ w.heap.size 33 _ (0,0) _ rfl HQQ.out.1 Tryz.underlying33 rfl (by kernel_rfl)) rfl ?_
   exact⟨hb,H,S,⟨oa,ol,oc⟩,i,rfl,HQQ.out.2.2,HQQ.out.2.1⟩
end Go.Proofs.YtahhionlbfhinabGreatDoor.Hp
