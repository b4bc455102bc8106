/- XS -/
import Derived.Test.YtahhionlbfhinaaGreatDoorOW
import Derived.Deep.CutRange
import Derived.Deep.CutBlock
set_option linter.unusedVariables false
set_option linter.unusedSimpArgs false
set_option maxRecDepth 100000
set_option maxHeartbeats 40000000
namespace Go.Proofs.YtahhionlbfhinaaGreatDoor.Hp
open Go.RowKit
def ShutS (S:List So)(o p:Int):Prop:=∃y,soO S o=some y∧y.shut=true∧y.proto=p
theorem ShutS.at {S:List So}{o p:Int}(h:ShutS S o p):¬(atI S o<0):=by
 obtain⟨y,h1,_⟩:=h
 have:=atI_some h1
 omega
theorem ShutS.up {H:He}{S:List So}{n:Nat}{o p:Int}(h:ShutS S o p)(hO:OrP H S [] n):upH H o=p:=by
 obtain⟨y,h1,h2,h3⟩:=h
 rw[hO.up,h1]
 exact h3
theorem ShutS.start {S:List So}{o:Int}{x:So}(h:soO S o=some x):∃p,ShutS (shutG S o) o p:=by
 refine⟨x.proto,{ x with shut:=true },?_,rfl,rfl⟩
 exact so_on (fun x=>{ x with shut:=true }) h
theorem ShutS.step {H:He}{S:List So}{n:Nat}{o p:Int}(h:ShutS S o p)(hO:OrP H S [] n)(hm:H.most≤256)(hw:H.wf)(a:OpP)(k:ByteArray) :
  ShutS (pS S a) o p∧(((soO (pS S a) o).map (fun x=>x.kind == 1)).getD false=false→(ownH (pH H a) o k).isSome=true→(ownH H o k).isSome=true):=by
 obtain⟨y,h1,h2,h3⟩:=h
 obtain⟨y',k1,k2⟩:=step_kp (hO.gd hw) hO.ds a o y h1
 obtain⟨s1,s2,s3⟩:=k2.sh h2
 refine⟨⟨y',k1,s1,by rw[s2];exact h3⟩,fun e1 e2 => ?_⟩
 have hO2:=hO.step hm a
 rw[hO.own,h1]
 rw[hO2.own,k1] at e2
 rw[k1] at e1
 simp only[Option.map_some,Option.getD_some,beq_eq_false_iff_ne] at e1
 exact s3 (by rw[←k2.kd];exact e1) k e2
theorem shut_walk (w:World)(hT:TbAt w)(sc:Sli OpP)(o:Int)(sd:Sli OpP)(hsc:sc.ok opP 11 w)(hwf:∀a∈sc.xs,a.wf)(o0:0≤o)(o1:o<18446744073709551616)(hsd:sd.ok opP 11 w)(hwd:∀a∈sd.xs,a.wf)(hsz:96*sc.xs.length≤140737488355328∧96*sd.xs.length≤140737488355328) :
  Calls Tryz.prog 5 #[sc.val,.int .u64 o,sd.val] w fun e w'=>e = .returned (.bool true)∧Below w.heap.size w w':=by
 obtain⟨ca,cc,cx⟩:=sc
 obtain⟨ea,ec,ex⟩:=sd
 unfold Sli.val
 simp only at *
 have kn:=new_any w 256
 have HC:Hid (∀W,Below w.heap.size w W→Sli.ok opP 11 W ⟨ca,cc,cx⟩):=fun W hW=>hsc.kept (cells_below hW)
 have HE:Hid (∀W,Below w.heap.size w W→Sli.ok opP 11 W ⟨ea,ec,ex⟩):=fun W hW=>hsd.kept (cells_below hW)
 have HWF:Hid ((∀a∈cx,a.wf)∧96*cx.length≤140737488355328):=⟨hwf,by omega⟩
 have HWE:Hid ((∀a∈ex,a.wf)∧96*cx.length≤140737488355328∧96*ex.length≤140737488355328):=⟨hwd,hsz⟩
 have hcl:(cx.length:Int)≤1466015503702:=by omega
 have hel:(ex.length:Int)≤1466015503702:=by omega
 have HTB:Hid (TbAt w):=hT
 have HOO:Hid (0≤o∧o<18446744073709551616):=⟨o0,o1⟩
 clear hsc hwf hsd hwd hsz hT o0 o1
 go_enter Tryz.func5,Tryz.ntmps5
 go_wp2_with fail
 refine kn.mono ?_
 rintro e w1 ⟨hb,O,rfl,hT,hb1⟩
 have HS:Hid (LawP w (w1.alloc (.cells #[.slice none 0 0,.slice none 0 0] 28)) (fun b=>b=w1.heap.size) hb w1.heap.size (He.new 256) [] .nil 0):=LawP.start HTB.out hT hb1
 clear kn hT hb1
 go_upto_region 3 with fail
 generalize w1.alloc (.cells #[.slice none 0 0,.slice none 0 0] 28)=w2 at *
 generalize w1.heap.size=bs at *
 have kal:=palive_any w2 HS.out.tbr.fp
 go_wp2_with fail
 refine kal.mono ?_
 rintro e w3 ⟨rfl,hb3⟩
 have HI:Hid (LawP w w3 (fun b=>b=bs) hb bs (He.new 256) [] .nil 0):=HS.out.below hb3
 clear kal hb3 HS
 go_wp2_with fail
 go_loopw [29] (fun iv wr=>∃(i:Nat) (H:He) (S:List So) (vo:SV),(i≤cx.length∧Hid (LawP w wr (fun b=>b=bs) hb bs H S vo i))∧iv = .int .i64 i) (fun iv wr=>cx.length - (intOf iv).toNat)
 case atStart=>exact⟨0,_,_,_,⟨Nat.zero_le _,HI⟩,rfl⟩
 case round =>
  clear HI
  obtain⟨i,H,S,⟨oa,ol,oc⟩,⟨ple,HL⟩,rfl⟩:=hrel
  rcases Nat.lt_or_ge i cx.length with c | c
  ·have hex:∃a,cx[i]?=some a:=⟨_,List.getElem?_eq_getElem c⟩
   obtain⟨a,ha⟩:=hex
   obtain⟨b,off,e1,hc⟩:=(HC.out wr HL.out.two.bel).cells (by intro e;have e:cx=[]:=e;rw[e] at c;simp at c)
   simp only at e1
   subst e1
   have d0:=hc i a ha 0 _ rfl
   have d1:=hc i a ha 1 _ rfl
   have d2:=hc i a ha 2 _ rfl
   have d3:=hc i a ha 3 _ rfl
   have d4:=hc i a ha 4 _ rfl
   have d5:=hc i a ha 5 _ rfl
   have d6:=hc i a ha 6 _ rfl
   have d7:=hc i a ha 7 _ rfl
   have d8:=hc i a ha 8 _ rfl
   have d9:=hc i a ha 9 _ rfl
   have d10:=hc i a ha 10 _ rfl
   rw[Nat.add_zero] at d0
   have hmem:=HWF.out.1 a (List.mem_of_getElem? ha)
   have cil:(i:Int)<cx.length:=by omega
   obtain⟨kd,oo,op,kk,⟨has,va,ge,se,fl⟩,vv,nn⟩:=a
   simp only at d0 d1 d2 d3 d4 d5 d6 d7 d8 d9 d10
   obtain⟨wq,hwq⟩:∃wq,wq=wr.alloc (.cells #[.int .i64 kd,.int .u64 oo,.int .u64 op,.string kk,.int .i64 has,.int .u64 va,.int .u64 ge,.int .u64 se,.int .i64 fl,.int .u64 vv,.int .i64 nn] 37):=⟨_,rfl⟩
   have hxq:wq.heap[wr.heap.size]?=some (.cells #[.int .i64 kd,.int .u64 oo,.int .u64 op,.string kk,.int .i64 has,.int .u64 va,.int .u64 ge,.int .u64 se,.int .i64 fl,.int .u64 vv,.int .i64 nn] 37 (0,0)):=by rw[hwq];exact at_new _ _
   have hlq:LawP w wq (fun b=>(fun b=>b=bs) b∨b=wr.heap.size) hb bs H S ⟨oa,ol,oc⟩ i:=by rw[hwq];exact HL.out.new _
   have HXQ:=(show Hid _ from hxq)
   have HNQ:Hid (wr.heap.size≠bs):=fun e=>HL.out.ne (Eq.mpr (congrArg (fun b=>b=bs) e) HL.out.bx)
   have HQ:=(show Hid _ from hlq)
   have ks:=hlq.step (by have:=HWF.out.2;omega) _ hmem
   unfold stV OpP.val OpP.cells at ks
   rw[show(SV.mk oa ol oc).val = .slice oa ol oc from rfl,show SV.nil.val = .slice none 0 0 from rfl] at ks
   simp only at ks
   obtain⟨r0,r1⟩:=HQ.out.box.ce
   rw[show(SV.mk oa ol oc).val = .slice oa ol oc from rfl] at r0
   rw[show SV.nil.val = .slice none 0 0 from rfl] at r1
   have hcq:∀j,wq.cell? ⟨wr.heap.size,j,none⟩=_:=fun j=>cell_of_row wq wr.heap.size j _ _ (0,0) hxq
   have g0:=hcq 0
   have g1:=hcq 1
   have g2:=hcq 2
   have g3:=hcq 3
   have g4:=hcq 4
   have g5:=hcq 5
   have g6:=hcq 6
   have g7:=hcq 7
   have g8:=hcq 8
   have g9:=hcq 9
   have g10:=hcq 10
   clear hc ha hmem hxq hlq hcq HL
   go_upto_region 8 with fail
   rw[←hwq]
   clear hwq d0 d1 d2 d3 d4 d5 d6 d7 d8 d9 d10
   generalize wr.heap.size=bq at *
   simp only[List.getElem?_toArray,List.getElem?_cons_zero,List.getElem?_cons_succ] at g0 g1 g2 g3 g4 g5 g6 g7 g8 g9 g10
   go_wp2_with fail
   refine ks.mono ?_
   rintro e w5 ⟨⟨za,zl,zc⟩,rfl,bx5,hl5,hk5⟩
   have HX:=(show Hid _ from hl5)
   have HXB:=(show Hid _ from (hk5 bq (Or.inr rfl) HNQ.out).trans HXQ.out)
   obtain⟨m0,m1⟩:=bx5.ce
   obtain⟨n0,n1⟩:=bx5.fz
   rw[show(SV.mk oa ol oc).val = .slice oa ol oc from rfl] at m0
   try rw[show SV.nil.val = .slice none 0 0 from rfl] at m1
   rw[show(SV.mk za zl zc).val = .slice za zl zc from rfl] at HX HXB ⊢
   try rw[show SV.nil.val = .slice none 0 0 from rfl] at HX
   try rw[show SV.nil.val = .slice none 0 0 from rfl] at HXB
   try rw[show SV.nil.val = .slice none 0 0 from rfl]
   clear hl5 bx5 hk5 ks g0 g1 g2 g3 g4 g5 g6 g7 g8 g9 g10 r0 r1 HXQ HQ
   go_upto_region 9 with fail
   generalize ((w5.setCell ⟨bs,0,none⟩ (.slice za zl zc)).setCell ⟨bs,1,none⟩ (.slice none 0 0))=w6 at *
   clear m0 m1 n0 n1
   obtain⟨H3,hH3⟩:∃H3,H3=pH H ⟨kd,oo,op,kk,⟨has,va,ge,se,fl⟩,vv,nn⟩:=⟨_,rfl⟩
   obtain⟨S3,hS3⟩:∃S3,S3=pS S ⟨kd,oo,op,kk,⟨has,va,ge,se,fl⟩,vv,nn⟩:=⟨_,rfl⟩
   rw[←hH3,←hS3] at HX
   have HN:Hid (LawP w w6 (fun b=>b=bs) hb bs H3 S3 ⟨za,zl,zc⟩ (i+1)):=HX.out.less (fun b q=>Or.inl q) rfl
   have HC2:Hid (i<cx.length):=c
   clear hH3 hS3 HXB HNQ c HX
   go_wp2_with fail
   refine⟨⟨i+1,H3,S3,⟨za,zl,zc⟩,⟨HC2.out,HN⟩,by go_num⟩,?_⟩
   have:=HC2.out
   simp[intOf]
   omega
  ·have hil:¬((i:Int)<cx.length):=by omega
   obtain⟨r0,r1⟩:=HL.out.box.ce
   rw[show(SV.mk oa ol oc).val = .slice oa ol oc from rfl] at r0
   rw[show SV.nil.val = .slice none 0 0 from rfl] at r1
   have ka:=rat_b HL.out o HOO.out.1 HOO.out.2
   cases hs:soO S o with
   | none =>
     rw[atI_none hs HOO.out.1 HOO.out.2] at ka
     unfold stV at ka
     rw[show(SV.mk oa ol oc).val = .slice oa ol oc from rfl,show SV.nil.val = .slice none 0 0 from rfl] at ka
     have HF:=(show Hid _ from HL.out.two.bel)
     clear HL c hs
     go_wp2_with fail
     refine ka.mono ?_
     rintro e w5 ⟨rfl,hB5⟩
     have HF5:=(show Hid (Below w.heap.size w w5) from HF.out.trans (hB5.mono HF.out.size))
     clear hB5 ka r0 r1
     go_wp2_with fail
     go_ret
     exact⟨rfl,HF5.out⟩
   | some x0 =>
     have hai:=atI_some hs
     obtain⟨p0,hp0⟩:=ShutS.start hs
     generalize atI S o=ai at *
     unfold stV at ka
     rw[show(SV.mk oa ol oc).val = .slice oa ol oc from rfl,show SV.nil.val = .slice none 0 0 from rfl] at ka
     have hni:¬(ai<0):=by omega
     clear c hs
     go_wp2_with fail
     refine ka.mono ?_
     rintro e w5 ⟨rfl,hB5⟩
     have HL5:=(show Hid _ from HL.out.below hB5)
     clear hB5 ka HL r0 r1
     have kc:=HL5.out.shut o HOO.out.1 HOO.out.2
     go_wp2_with fail
     refine kc.mono ?_
     rintro e w6 ⟨rfl,hb6,ks⟩
     obtain⟨r0,r1⟩:=hb6.ce
     rw[show(SV.mk oa ol oc).val = .slice oa ol oc from rfl] at r0
     rw[show SV.nil.val = .slice none 0 0 from rfl] at r1
     unfold stV at ks
     rw[show(SV.mk oa ol oc).val = .slice oa ol oc from rfl,show SV.nil.val = .slice none 0 0 from rfl] at ks
     clear kc hb6
     go_wp2_with fail
     refine ks.mono ?_
     rintro e w7 ⟨rfl,hb7,hl7⟩
     have HI2:=(show Hid _ from hl7)
     obtain⟨m0,m1⟩:=hb7.ce
     obtain⟨n0,n1⟩:=hb7.fz
     rw[show(SV.mk oa ol oc).val = .slice oa ol oc from rfl] at m0
     try rw[show SV.nil.val = .slice none 0 0 from rfl] at m1
     try rw[show(SV.mk oa ol oc).val = .slice oa ol oc from rfl] at HI2
     try rw[show SV.nil.val = .slice none 0 0 from rfl] at HI2
     clear ks hb7 hl7 r0 r1 HL5
     go_upto_region 14 with fail
     generalize ((w7.setCell ⟨bs,0,none⟩ (.slice oa ol oc)).setCell ⟨bs,1,none⟩ (.slice none 0 0))=w8 at *
     clear m0 m1 n0 n1
     obtain⟨H4,hH4⟩:∃H4,H4=closeH H o:=⟨_,rfl⟩
     obtain⟨S4,hS4⟩:∃S4,S4=shutG S o:=⟨_,rfl⟩
     rw[←hH4,←hS4] at HI2
     rw[←hS4] at hp0
     have kp:=pproto_e HI2.out o HOO.out.1 HOO.out.2
     rw[hp0.up HI2.out.ord] at kp
     have HP0:Hid (ShutS S4 o p0):=hp0
     clear hH4 hS4 hp0 hai hni
     have HIL:Hid (i≤cx.length):=ple
     clear ple
     go_wp2_with fail
     refine kp.mono ?_
     rintro e w9 ⟨rfl,hw9⟩
     have hw':=hw9.symm
     subst hw'
     clear hw9 kp HC HWF
     go_wp2_with fail
     go_loopw [11,56] (fun pv jv wr=>∃(j:Nat) (H:He) (S:List So) (vo:SV),(j≤ex.length∧Hid (LawP w wr (fun b=>b=bs) hb bs H S vo (i+1+j)∧ShutS S o p0))∧pv = .int .u64 p0∧jv = .int .i64 j) (fun pv jv wr=>ex.length - (intOf jv).toNat)
     case atStart=>exact⟨0,_,_,_,⟨Nat.zero_le _,HI2.out,HP0.out⟩,rfl,rfl⟩
     case round =>
      clear HI2 HP0
      obtain⟨j,H,S,⟨oa,ol,oc⟩,⟨plj,HLS⟩,rfl,rfl⟩:=hrel
      have HL:=(show Hid _ from HLS.out.1)
      have HSS:Hid (ShutS S o p0):=HLS.out.2
      clear HLS
      rcases Nat.lt_or_ge j ex.length with c | c
      ·have hex:∃a,ex[j]?=some a:=⟨_,List.getElem?_eq_getElem c⟩
       obtain⟨a,ha⟩:=hex
       obtain⟨b,off,e1,hc⟩:=(HE.out wr HL.out.two.bel).cells (by intro e;have e:ex=[]:=e;rw[e] at c;simp at c)
       simp only at e1
       subst e1
       have d0:=hc j a ha 0 _ rfl
       have d1:=hc j a ha 1 _ rfl
       have d2:=hc j a ha 2 _ rfl
       have d3:=hc j a ha 3 _ rfl
       have d4:=hc j a ha 4 _ rfl
       have d5:=hc j a ha 5 _ rfl
       have d6:=hc j a ha 6 _ rfl
       have d7:=hc j a ha 7 _ rfl
       have d8:=hc j a ha 8 _ rfl
       have d9:=hc j a ha 9 _ rfl
       have d10:=hc j a ha 10 _ rfl
       rw[Nat.add_zero] at d0
       have hmem:=HWE.out.1 a (List.mem_of_getElem? ha)
       have cil:(j:Int)<ex.length:=by omega
       obtain⟨kd,oo,op,kk,⟨has,va,ge,se,fl⟩,vv,nn⟩:=a
       have hkl:kk.size≤maxLen:=hmem.kl
       have HWA:=(show Hid _ from hmem)
       simp only at d0 d1 d2 d3 d4 d5 d6 d7 d8 d9 d10
       obtain⟨wq,hwq⟩:∃wq,wq=wr.alloc (.cells #[.int .i64 kd,.int .u64 oo,.int .u64 op,.string kk,.int .i64 has,.int .u64 va,.int .u64 ge,.int .u64 se,.int .i64 fl,.int .u64 vv,.int .i64 nn] 37):=⟨_,rfl⟩
       have hxq:wq.heap[wr.heap.size]?=some (.cells #[.int .i64 kd,.int .u64 oo,.int .u64 op,.string kk,.int .i64 has,.int .u64 va,.int .u64 ge,.int .u64 se,.int .i64 fl,.int .u64 vv,.int .i64 nn] 37 (0,0)):=by rw[hwq];exact at_new _ _
       have hlq:LawP w wq (fun b=>(fun b=>b=bs) b∨b=wr.heap.size) hb bs H S ⟨oa,ol,oc⟩ (i+1+j):=by rw[hwq];exact HL.out.new _
       have HXQ:=(show Hid _ from hxq)
       have HNQ:Hid (wr.heap.size≠bs):=fun e=>HL.out.ne (Eq.mpr (congrArg (fun b=>b=bs) e) HL.out.bx)
       have HQ:=(show Hid _ from hlq)
       have hcq:∀j,wq.cell? ⟨wr.heap.size,j,none⟩=_:=fun j=>cell_of_row wq wr.heap.size j _ _ (0,0) hxq
       have g3:=hcq 3
       clear hc ha hmem hxq hlq hcq HL
       go_upto_region 18 with fail
       rw[←hwq]
       clear hwq d0 d1 d2 d3 d4 d5 d6 d7 d8 d9 d10
       generalize wr.heap.size=bq at *
       simp only[List.getElem?_toArray,List.getElem?_cons_zero,List.getElem?_cons_succ] at g3
       have kw0:=pown_b (HQ.out) o HOO.out.1 HOO.out.2 kk hkl
       unfold deV at kw0
       obtain⟨dz,hdz⟩:∃dz,dz=(ownH H o kk).getD zDe:=⟨_,rfl⟩
       obtain⟨had,hhad⟩:∃had,had=(ownH H o kk).isSome:=⟨_,rfl⟩
       rw[←hdz,←hhad] at kw0
       have HST:=(show Hid _ from HSS.out.step HQ.out.ord HQ.out.most HQ.out.two.wf ⟨kd,oo,op,kk,⟨has,va,ge,se,fl⟩,vv,nn⟩ kk)
       rw[←hhad] at HST
       clear hdz hhad HSS
       go_wp2_with fail
       refine kw0.mono ?_
       rintro e w5 ⟨rfl,hB5⟩
       have HQ5:=(show Hid _ from (HQ.out.below hB5).below ((Below.refl _ _).alloc (Nat.le_refl _) (.cells #[.int .u64 dz.va,.int .u64 dz.se,.int .i64 dz.fl] 41)))
       have hx5:(w5.alloc (.cells #[.int .u64 dz.va,.int .u64 dz.se,.int .i64 dz.fl] 41)).heap[bq]?=some (.cells #[.int .i64 kd,.int .u64 oo,.int .u64 op,.string kk,.int .i64 has,.int .u64 va,.int .u64 ge,.int .u64 se,.int .i64 fl,.int .u64 vv,.int .i64 nn] 37 (0,0)):=by
        have z:=Below.block hB5 bq (Array.getElem?_eq_some_iff.1 HXQ.out).1
        have z2:=Below.block ((Below.refl w5.heap.size w5).alloc (Nat.le_refl _) (.cells #[.int .u64 dz.va,.int .u64 dz.se,.int .i64 dz.fl] 41)) bq (by have:=(Array.getElem?_eq_some_iff.1 (z.trans HXQ.out)).1;exact this)
        exact z2.trans (z.trans HXQ.out)
       have HX5:=(show Hid _ from hx5)
       clear hx5 hB5 kw0 HQ HXQ g3
       go_upto_region 19 with fail
       generalize w5.alloc (.cells #[.int .u64 dz.va,.int .u64 dz.se,.int .i64 dz.fl] 41)=w5a at *
       have ks:=HQ5.out.step (by have:=HWE.out.2;have:=HIL.out;omega) _ HWA.out
       unfold stV OpP.val OpP.cells at ks
       rw[show(SV.mk oa ol oc).val = .slice oa ol oc from rfl,show SV.nil.val = .slice none 0 0 from rfl] at ks
       simp only at ks
       obtain⟨r0,r1⟩:=HQ5.out.box.ce
       rw[show(SV.mk oa ol oc).val = .slice oa ol oc from rfl] at r0
       rw[show SV.nil.val = .slice none 0 0 from rfl] at r1
       have hcq:∀j,w5a.cell? ⟨bq,j,none⟩=_:=fun j=>cell_of_row w5a bq j _ _ (0,0) HX5.out
       have g0:=hcq 0
       have g1:=hcq 1
       have g2:=hcq 2
       have g3:=hcq 3
       have g4:=hcq 4
       have g5:=hcq 5
       have g6:=hcq 6
       have g7:=hcq 7
       have g8:=hcq 8
       have g9:=hcq 9
       have g10:=hcq 10
       clear hcq
       simp only[List.getElem?_toArray,List.getElem?_cons_zero,List.getElem?_cons_succ] at g0 g1 g2 g3 g4 g5 g6 g7 g8 g9 g10
       go_wp2_with fail
       refine ks.mono ?_
       rintro e w6 ⟨⟨za,zl,zc⟩,rfl,bx6,hl6,hk6⟩
       have HX:=(show Hid _ from hl6)
       have HXB:=(show Hid _ from (hk6 bq (Or.inr rfl) HNQ.out).trans HX5.out)
       obtain⟨m0,m1⟩:=bx6.ce
       obtain⟨n0,n1⟩:=bx6.fz
       rw[show(SV.mk oa ol oc).val = .slice oa ol oc from rfl] at m0
       try rw[show SV.nil.val = .slice none 0 0 from rfl] at m1
       try rw[show(SV.mk za zl zc).val = .slice za zl zc from rfl] at HX
       try rw[show(SV.mk za zl zc).val = .slice za zl zc from rfl] at HXB
       try rw[show(SV.mk za zl zc).val = .slice za zl zc from rfl]
       try rw[show SV.nil.val = .slice none 0 0 from rfl] at HX
       try rw[show SV.nil.val = .slice none 0 0 from rfl] at HXB
       try rw[show SV.nil.val = .slice none 0 0 from rfl]
       clear hl6 bx6 hk6 ks g0 g1 g2 g3 g4 g5 g6 g7 g8 g9 g10 r0 r1 HX5 HQ5
       go_upto_region 20 with fail
       generalize ((w6.setCell ⟨bs,0,none⟩ (.slice za zl zc)).setCell ⟨bs,1,none⟩ (.slice none 0 0))=w7 at *
       clear m0 m1 n0 n1
       obtain⟨H3,hH3⟩:∃H3,H3=pH H ⟨kd,oo,op,kk,⟨has,va,ge,se,fl⟩,vv,nn⟩:=⟨_,rfl⟩
       obtain⟨S3,hS3⟩:∃S3,S3=pS S ⟨kd,oo,op,kk,⟨has,va,ge,se,fl⟩,vv,nn⟩:=⟨_,rfl⟩
       rw[←hH3,←hS3] at HX HST
       have g3:=cell_of_row w7 bq 3 _ _ (0,0) HXB.out
       simp only[List.getElem?_toArray,List.getElem?_cons_zero,List.getElem?_cons_succ] at g3
       have kw1:=pown_b HX.out o HOO.out.1 HOO.out.2 kk hkl
       unfold deV at kw1
       obtain⟨dy,hdy⟩:∃dy,dy=(ownH H3 o kk).getD zDe:=⟨_,rfl⟩
       obtain⟨has',hhas⟩:∃h,h=(ownH H3 o kk).isSome:=⟨_,rfl⟩
       rw[←hdy,←hhas] at kw1
       rw[←hhas] at HST
       clear hdy hhas hH3 hS3 HNQ HWA
       go_wp2_with fail
       refine kw1.mono ?_
       rintro e w8 ⟨rfl,hB8⟩
       have HX8:=(show Hid _ from (HX.out.below hB8).below ((Below.refl _ _).alloc (Nat.le_refl _) (.cells #[.int .u64 dy.va,.int .u64 dy.se,.int .i64 dy.fl] 41)))
       have hx8:(w8.alloc (.cells #[.int .u64 dy.va,.int .u64 dy.se,.int .i64 dy.fl] 41)).heap[bq]?=some (.cells #[.int .i64 kd,.int .u64 oo,.int .u64 op,.string kk,.int .i64 has,.int .u64 va,.int .u64 ge,.int .u64 se,.int .i64 fl,.int .u64 vv,.int .i64 nn] 37 (0,0)):=by
        have z:=Below.block hB8 bq (Array.getElem?_eq_some_iff.1 HXB.out).1
        have z2:=Below.block ((Below.refl w8.heap.size w8).alloc (Nat.le_refl _) (.cells #[.int .u64 dy.va,.int .u64 dy.se,.int .i64 dy.fl] 41)) bq (by have:=(Array.getElem?_eq_some_iff.1 (z.trans HXB.out)).1;exact this)
        exact z2.trans (z.trans HXB.out)
       have HY8:=(show Hid _ from hx8)
       clear hx8 hB8 kw1 HX HXB g3
       go_upto_region 21 with fail
       generalize w8.alloc (.cells #[.int .u64 dy.va,.int .u64 dy.se,.int .i64 dy.fl] 41)=w8a at *
       obtain⟨r0,r1⟩:=HX8.out.box.ce
       rw[show(SV.mk za zl zc).val = .slice za zl zc from rfl] at r0
       rw[show SV.nil.val = .slice none 0 0 from rfl] at r1
       have kar:=rarray_b HX8.out o HOO.out.1 HOO.out.2
       obtain⟨ar,har⟩:∃ar,ar=((soO S3 o).map (fun x=>x.kind == 1)).getD false:=⟨_,rfl⟩
       rw[←har] at kar
       rw[←har] at HST
       unfold stV at kar
       rw[show(SV.mk za zl zc).val = .slice za zl zc from rfl,show SV.nil.val = .slice none 0 0 from rfl] at kar
       clear har
       go_wp2_with fail
       refine kar.mono ?_
       rintro e w9 ⟨rfl,hB9⟩
       have HX9:=(show Hid _ from HX8.out.below hB9)
       have HY9:Hid (w9.heap[bq]?=some (.cells #[.int .i64 kd,.int .u64 oo,.int .u64 op,.string kk,.int .i64 has,.int .u64 va,.int .u64 ge,.int .u64 se,.int .i64 fl,.int .u64 vv,.int .i64 nn] 37 (0,0))):=(Below.block hB9 bq (Array.getElem?_eq_some_iff.1 HY8.out).1).trans HY8.out
       clear hB9 kar HX8 HY8 r0 r1
       obtain⟨r0,r1⟩:=HX9.out.box.ce
       rw[show(SV.mk za zl zc).val = .slice za zl zc from rfl] at r0
       rw[show SV.nil.val = .slice none 0 0 from rfl] at r1
       have g0:=cell_of_row w9 bq 0 _ _ (0,0) HY9.out
       simp only[List.getElem?_toArray,List.getElem?_cons_zero] at g0
       go_upto_region 22 with fail
       go_cut [105] from 86 to 105 (fun c wx=>c = .bool false∧wx=w9)
       case first =>
        clear g0 HX9 HY9 r0 r1
        cases has' with
        | false =>
          go_wp2_with fail
          go_meet
          exact⟨rfl,rfl⟩
        | true =>
          cases had with
          | true =>
            go_wp2_with fail
            go_meet
            exact⟨rfl,rfl⟩
          | false =>
            cases ar with
            | true =>
              go_wp2_with fail
              go_meet
              exact⟨rfl,rfl⟩
            | false =>
              have:=HST.out.2 rfl rfl
              cases this
       case rest =>
        obtain⟨rfl,hwx⟩:=hcut
        have hw':=hwx.symm
        subst hw'
        clear hwx
        have HSN:Hid (ShutS S3 o p0):=HST.out.1
        clear HST
        go_upto_region 24 with fail
        go_cut [121] from 106 to 121 (fun c wx=>c = .bool false∧Hid (Below w9.heap.size w9 wx))
        case first =>
         have ka:=rat_b HX9.out o HOO.out.1 HOO.out.2
         have hai:(0:Int)≤atI S3 o:=by have:=HSN.out.at;omega
         obtain⟨ai,hae⟩:∃ai,ai=atI S3 o:=⟨_,rfl⟩
         rw[←hae] at ka hai
         unfold stV at ka
         rw[show(SV.mk za zl zc).val = .slice za zl zc from rfl,show SV.nil.val = .slice none 0 0 from rfl] at ka
         have hge:ai≥0:=hai
         have hpp:(p0 != p0)=false:=by simp
         clear hae
         cases hkd:(kd != 0) with
         | false =>
           go_wp2_with fail
           refine ka.mono ?_
           rintro e wa ⟨rfl,hBa⟩
           have HBA:=(show Hid _ from hBa)
           have g0':=cells_below hBa _ _ g0
           clear hBa ka g0 r0 r1
           go_wp2_with fail
           go_meet
           exact⟨rfl,HBA⟩
         | true =>
           go_wp2_with fail
           refine ka.mono ?_
           rintro e wa ⟨rfl,hBa⟩
           have HBA:=(show Hid _ from hBa)
           have kp:=pproto_e (HX9.out.below hBa) o HOO.out.1 HOO.out.2
           rw[HSN.out.up HX9.out.ord] at kp
           have g0':=cells_below hBa _ _ g0
           clear hBa ka g0 r0 r1
           go_wp2_with fail
           refine kp.mono ?_
           rintro e wb ⟨rfl,hwb⟩
           have hw':=hwb.symm
           subst hw'
           clear hwb kp
           go_wp2_with fail
           go_meet
           exact⟨by first | rfl | (rw[hpp]),HBA⟩
        case rest =>
         obtain⟨rfl,HBC⟩:=hcut
         have HXC:=(show Hid _ from HX9.out.below HBC.out)
         have kp:=pproto_e HXC.out o HOO.out.1 HOO.out.2
         rw[HSN.out.up HX9.out.ord] at kp
         clear HX9 HY9 HBC g0 r0 r1
         go_wp2_with fail
         refine kp.mono ?_
         rintro e wd ⟨rfl,hwd⟩
         have hw':=hwd.symm
         subst hw'
         clear hwd kp
         have HN:Hid (LawP w wc (fun b=>b=bs) hb bs H3 S3 ⟨za,zl,zc⟩ (i+1+(j+1))):=HXC.out.less (fun b q=>Or.inl q) rfl
         have HC2:Hid (j<ex.length):=c
         clear HXC
         go_wp2_with fail
         refine⟨⟨j+1,H3,S3,⟨za,zl,zc⟩,⟨HC2.out,HN.out,HSN.out⟩,rfl,by go_num⟩,?_⟩
         have:=HC2.out
         simp[intOf]
         omega
      ·have hil2:¬((j:Int)<ex.length):=by omega
       have HF:=(show Hid _ from HL.out.two.bel)
       clear HL c HSS
       go_wp2_with fail
       go_ret
       exact⟨rfl,HF.out⟩
end Go.Proofs.YtahhionlbfhinaaGreatDoor.Hp
