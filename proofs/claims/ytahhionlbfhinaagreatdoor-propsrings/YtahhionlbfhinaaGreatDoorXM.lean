/- XM -/
import Derived.Test.YtahhionlbfhinaaGreatDoorB40
import Derived.Test.YtahhionlbfhinaaGreatDoorB38
set_option linter.unusedVariables false
set_option linter.unusedSimpArgs false
set_option maxRecDepth 100000
set_option maxHeartbeats 40000000
namespace Go.Proofs.YtahhionlbfhinaaGreatDoor.Hp
open Go.RowKit
theorem rings_walk (w:World)(hT:TbAt w)(sc:Sli OpP)(hsc:sc.ok opP 11 w)(hwf:∀a∈sc.xs,a.wf)(hsz:96*sc.xs.length≤140737488355328) :
  Calls Tryz.prog 6 #[sc.val] w fun e w'=>e = .returned (.bool true)∧Below w.heap.size w w':=by
 obtain⟨ca,cc,cx⟩:=sc
 unfold Sli.val
 simp only at *
 have kn:=new_any w 256
 have HC:Hid (∀W,Below w.heap.size w W→Sli.ok opP 11 W ⟨ca,cc,cx⟩):=fun W hW=>hsc.kept (cells_below hW)
 have HWF:Hid ((∀a∈cx,a.wf)∧96*cx.length≤140737488355328):=⟨hwf,hsz⟩
 have hcl:(cx.length:Int)≤1466015503702:=by omega
 have HTB:Hid (TbAt w):=hT
 clear hsc hwf hsz hT
 go_enter Tryz.func6,Tryz.ntmps6
 go_wp2_with fail
 refine kn.mono ?_
 rintro e w1 ⟨hb,O,rfl,hT,hb1⟩
 have HS:Hid (LawP w (w1.alloc (.cells #[.slice none 0 0,.slice none 0 0] 28)) (fun b=>b=w1.heap.size) hb w1.heap.size (He.new 256) [] .nil 0):=LawP.start HTB.out hT hb1
 clear kn hT hb1
 go_upto_region 3 with fail
 generalize w1.alloc (.cells #[.slice none 0 0,.slice none 0 0] 28)=w2 at *
 generalize w1.heap.size=bs at *
 have kal:=palive_any w2 HS.out.tbr.fp
 go_wp2_with fail
 refine kal.mono ?_
 rintro e w3 ⟨rfl,hb3⟩
 have HI:Hid (LawP w w3 (fun b=>b=bs) hb bs (He.new 256) [] .nil 0):=HS.out.below hb3
 clear kal hb3 HS
 go_wp2_with fail
 go_loopw [19] (fun iv wr=>∃(i:Nat) (H:He) (S:List So) (vo:SV),(i≤cx.length∧Hid (LawP w wr (fun b=>b=bs) hb bs H S vo i))∧iv = .int .i64 i) (fun iv wr=>cx.length - (intOf iv).toNat)
 case atStart=>exact⟨0,_,_,_,⟨Nat.zero_le _,HI⟩,rfl⟩
 case round =>
  clear HI
  obtain⟨i,H,S,⟨oa,ol,oc⟩,⟨ple,HL⟩,rfl⟩:=hrel
  rcases Nat.lt_or_ge i cx.length with c | c
  ·have hex:∃a,cx[i]?=some a:=⟨_,List.getElem?_eq_getElem c⟩
   obtain⟨a,ha⟩:=hex
   obtain⟨b,off,e1,hc⟩:=(HC.out wr HL.out.two.bel).cells (by intro e;have e:cx=[]:=e;rw[e] at c;simp at c)
   simp only at e1
   subst e1
   have d0:=hc i a ha 0 _ rfl
   have d1:=hc i a ha 1 _ rfl
   have d2:=hc i a ha 2 _ rfl
   have d3:=hc i a ha 3 _ rfl
   have d4:=hc i a ha 4 _ rfl
   have d5:=hc i a ha 5 _ rfl
   have d6:=hc i a ha 6 _ rfl
   have d7:=hc i a ha 7 _ rfl
   have d8:=hc i a ha 8 _ rfl
   have d9:=hc i a ha 9 _ rfl
   have d10:=hc i a ha 10 _ rfl
   rw[Nat.add_zero] at d0
   have hmem:=HWF.out.1 a (List.mem_of_getElem? ha)
   have cil:(i:Int)<cx.length:=by omega
   obtain⟨kd,oo,op,kk,⟨has,va,ge,se,fl⟩,vv,nn⟩:=a
   simp only at d0 d1 d2 d3 d4 d5 d6 d7 d8 d9 d10
   obtain⟨wq,hwq⟩:∃wq,wq=wr.alloc (.cells #[.int .i64 kd,.int .u64 oo,.int .u64 op,.string kk,.int .i64 has,.int .u64 va,.int .u64 ge,.int .u64 se,.int .i64 fl,.int .u64 vv,.int .i64 nn] 37):=⟨_,rfl⟩
   have hxq:wq.heap[wr.heap.size]?=some (.cells #[.int .i64 kd,.int .u64 oo,.int .u64 op,.string kk,.int .i64 has,.int .u64 va,.int .u64 ge,.int .u64 se,.int .i64 fl,.int .u64 vv,.int .i64 nn] 37 (0,0)):=by rw[hwq];exact at_new _ _
   have hlq:LawP w wq (fun b=>(fun b=>b=bs) b∨b=wr.heap.size) hb bs H S ⟨oa,ol,oc⟩ i:=by rw[hwq];exact HL.out.new _
   have HXQ:=(show Hid _ from hxq)
   have HNQ:Hid (wr.heap.size≠bs):=fun e=>HL.out.ne (Eq.mpr (congrArg (fun b=>b=bs) e) HL.out.bx)
   have HQ:=(show Hid _ from hlq)
   have ks:=hlq.step (by have:=HWF.out.2;omega) _ hmem
   unfold stV OpP.val OpP.cells at ks
   rw[show(SV.mk oa ol oc).val = .slice oa ol oc from rfl,show SV.nil.val = .slice none 0 0 from rfl] at ks
   simp only at ks
   obtain⟨r0,r1⟩:=HQ.out.box.ce
   rw[show(SV.mk oa ol oc).val = .slice oa ol oc from rfl] at r0
   rw[show SV.nil.val = .slice none 0 0 from rfl] at r1
   have hcq:∀j,wq.cell? ⟨wr.heap.size,j,none⟩=_:=fun j=>cell_of_row wq wr.heap.size j _ _ (0,0) hxq
   have g0:=hcq 0
   have g1:=hcq 1
   have g2:=hcq 2
   have g3:=hcq 3
   have g4:=hcq 4
   have g5:=hcq 5
   have g6:=hcq 6
   have g7:=hcq 7
   have g8:=hcq 8
   have g9:=hcq 9
   have g10:=hcq 10
   clear hc ha hmem hxq hlq hcq HL
   go_upto_region 8 with fail
   rw[←hwq]
   clear hwq d0 d1 d2 d3 d4 d5 d6 d7 d8 d9 d10
   generalize wr.heap.size=bq at *
   simp only[List.getElem?_toArray,List.getElem?_cons_zero,List.getElem?_cons_succ] at g0 g1 g2 g3 g4 g5 g6 g7 g8 g9 g10
   go_wp2_with fail
   refine ks.mono ?_
   rintro e w5 ⟨⟨za,zl,zc⟩,rfl,bx5,hl5,hk5⟩
   have HX:=(show Hid _ from hl5)
   have HXB:=(show Hid _ from (hk5 bq (Or.inr rfl) HNQ.out).trans HXQ.out)
   obtain⟨m0,m1⟩:=bx5.ce
   obtain⟨n0,n1⟩:=bx5.fz
   rw[show(SV.mk oa ol oc).val = .slice oa ol oc from rfl] at m0
   try rw[show SV.nil.val = .slice none 0 0 from rfl] at m1
   rw[show(SV.mk za zl zc).val = .slice za zl zc from rfl] at HX HXB ⊢
   try rw[show SV.nil.val = .slice none 0 0 from rfl] at HX
   try rw[show SV.nil.val = .slice none 0 0 from rfl] at HXB
   try rw[show SV.nil.val = .slice none 0 0 from rfl]
   clear hl5 bx5 hk5 ks g0 g1 g2 g3 g4 g5 g6 g7 g8 g9 g10 r0 r1 HXQ HQ
   go_upto_region 9 with fail
   generalize ((w5.setCell ⟨bs,0,none⟩ (.slice za zl zc)).setCell ⟨bs,1,none⟩ (.slice none 0 0))=w6 at *
   clear m0 m1 n0 n1
   obtain⟨H3,hH3⟩:∃H3,H3=pH H ⟨kd,oo,op,kk,⟨has,va,ge,se,fl⟩,vv,nn⟩:=⟨_,rfl⟩
   obtain⟨S3,hS3⟩:∃S3,S3=pS S ⟨kd,oo,op,kk,⟨has,va,ge,se,fl⟩,vv,nn⟩:=⟨_,rfl⟩
   rw[←hH3,←hS3] at HX
   have HR:Hid (∀o,upN H3 (zl+1) o=nulW):=fun o=>by
    have e:=HX.out.len.1
    simp only at e
    rw[e]
    exact HX.out.ord.rings o
   have HRG:Hid (∀o,0≤upH H3 o∧upH H3 o<18446744073709551616):=fun o=>upH_rng HX.out.two.wf o
   have HZL:Hid (zl≤65536):=by
    have e:=HX.out.len
    simp only at e
    show zl≤65536
    omega
   have hzl:(zl:Int)≤65536:=by have:=HZL.out;omega
   have HC2:Hid (i<cx.length):=c
   clear hH3 hS3 HXB HNQ c
   obtain⟨r0,r1⟩:=HX.out.box.ce
   rw[show(SV.mk za zl zc).val = .slice za zl zc from rfl] at r0
   rw[show SV.nil.val = .slice none 0 0 from rfl] at r1
   go_wp2_with fail
   go_loopw [33] (fun jv wr=>∃(j:Nat),(j≤zl∧wr=w6)∧jv = .int .i64 j) (fun jv wr=>zl - (intOf jv).toNat)
   case atStart=>exact⟨0,⟨Nat.zero_le _,rfl⟩,rfl⟩
   case round =>
    obtain⟨j,⟨plj,hww⟩,rfl⟩:=hrel
    have hw':=hww.symm
    subst hw'
    clear hww
    rcases Nat.lt_or_ge j zl with cj | cj
    ·have cjl:(j:Int)<zl:=by omega
     have hwo:IntKind.u64.wrap (18445055223849287680+(j:Int))=objW (j:Int):=by rw[IntKind.wrap_u64];unfold objW;omega
     have HOR:Hid (0≤objW (j:Int)∧objW (j:Int)<18446744073709551616):=by show _∧_;unfold objW;omega
     generalize objW (j:Int)=oj at *
     have HCJ:Hid (j<zl):=cj
     clear cj
     go_wp2_with fail
     go_loopw [8,43] (fun ov kv wr=>∃(k:Nat) (c:Int),(k≤zl+1∧wr=w6∧Hid (upN H3 (zl+1 - k) c=nulW∧0≤c∧c<18446744073709551616))∧ov = .int .u64 c∧kv = .int .i64 k) (fun ov kv wr=>zl+1 - (intOf kv).toNat)
     case atStart=>exact⟨0,oj,⟨Nat.zero_le _,rfl,HR.out oj,HOR.out.1,HOR.out.2⟩,rfl,rfl⟩
     case round =>
      obtain⟨k,cu,⟨plk,hww,HU⟩,rfl,rfl⟩:=hrel
      have hw':=hww.symm
      subst hw'
      clear hww
      rcases Nat.lt_or_ge k (zl+1) with ck | ck
      ·have ckl:(k:Int)<(zl:Int)+1:=by omega
       have kp:=pproto_e HX.out cu HU.out.2.1 HU.out.2.2
       have HN:Hid (upN H3 (zl+1 - (k+1)) (upH H3 cu)=nulW∧0≤upH H3 cu∧upH H3 cu<18446744073709551616):=by
        refine⟨?_,HRG.out cu⟩
        have e:=HU.out.1
        rw[show zl+1 - k=(zl+1 - (k+1))+1 by omega] at e
        exact e
       have HK:Hid (k<zl+1):=ck
       generalize upH H3 cu=cv at *
       clear HU ck
       go_wp2_with fail
       refine kp.mono ?_
       rintro e w7 ⟨rfl,hw7⟩
       have hw':=hw7.symm
       subst hw'
       clear hw7 kp
       go_wp2_with fail
       refine⟨⟨k+1,cv,⟨HK.out,by first | rfl | trivial,HN⟩,rfl,by go_num⟩,?_⟩
       have:=HK.out
       simp[intOf]
       omega
      ·have ckl:¬((k:Int)<(zl:Int)+1):=by omega
       have hcu:cu=nulW:=by
        have e:=HU.out.1
        rw[show zl+1 - k=0 by omega] at e
        exact e
       subst hcu
       unfold nulW
       clear HU ck
       go_wp2_with fail
       refine⟨⟨j+1,⟨HCJ.out,by first | rfl | trivial⟩,by go_num⟩,?_⟩
       have:=HCJ.out
       simp[intOf]
       omega
    ·have cjl:¬((j:Int)<zl):=by omega
     have HN:Hid (LawP w w6 (fun b=>b=bs) hb bs H3 S3 ⟨za,zl,zc⟩ (i+1)):=HX.out.less (fun b q=>Or.inl q) rfl
     clear HX HR HRG HZL cj r0 r1
     go_wp2_with fail
     refine⟨⟨i+1,H3,S3,⟨za,zl,zc⟩,⟨HC2.out,HN⟩,by go_num⟩,?_⟩
     have:=HC2.out
     simp[intOf]
     omega
  ·have hil:¬((i:Int)<cx.length):=by omega
   have HF:=(show Hid _ from HL.out.two.bel)
   clear HL c
   go_wp2_with fail
   go_ret
   exact⟨rfl,HF.out⟩
end Go.Proofs.YtahhionlbfhinaaGreatDoor.Hp
