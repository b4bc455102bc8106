/- XU -/
import Derived.Test.YtahhionlbfhinaaGreatDoorOW
import Derived.Test.YtahhionlbfhinaaGreatDoorB25
import Derived.Test.YtahhionlbfhinaaGreatDoorB15
import Derived.Deep.CutRange
import Derived.Deep.CutBlock
set_option linter.unusedVariables false
set_option linter.unusedSimpArgs false
set_option maxRecDepth 100000
set_option maxHeartbeats 40000000
namespace Go.Proofs.YtahhionlbfhinaaGreatDoor.Hp
open Go.RowKit
section
variable {w wr w':World}{X:Nat→Prop}{hb bs:Nat}{H:He}{S:List So}{vo:SV}{n i:Nat}{x:So}{ob:Ob}
theorem OrP.get (hO:OrP H S [] n)(hw:H.wf)(hi:S[i]?=some x):0≤objW (i:Int)∧objW (i:Int)<18446744073709551616∧∃ob,obI H (objW (i:Int))=some i∧H.obs[i]?=some ob∧RelB ob x:=by
 have hil:i<H.obs.length:=by rw[hO.rel.len];exact(List.getElem?_eq_some_iff.1 hi).1
 have e1:H.obs[i]?=some H.obs[i]:=List.getElem?_eq_getElem hil
 have ho:=hw.ol
 exact⟨by unfold objW;omega,by unfold objW;omega,_,obI_of hil ho,e1,hO.rel.ob i _ _ e1 hi⟩
theorem pshape_b (h:LawP w wr X hb bs H S vo n)(o:Int)(o0:0≤o)(o1:o<18446744073709551616){i:Nat}(ho:obI H o=some i)(hi:H.obs[i]?=some ob) :
  Calls Tryz.prog 25 #[.pointer (some ⟨hb,0,none⟩),.int .u64 o] wr fun e w'=>e = .returned (.tuple #[.int .i64 ob.shape,.bool ob.shaped])∧Below wr.heap.size wr w':=by
 obtain⟨tgH,tgS,M,qs,h⟩:=h.two
 exact shape_at h.hp o o0 o1 ho hi
theorem pfind_b (h:LawP w wr X hb bs H S vo n)(m:Int)(k:ByteArray) :
  Calls Tryz.prog 26 #[.pointer (some ⟨hb,0,none⟩),.int .i64 m,.string k] wr fun e w'=>e = .returned (.tuple #[.int .i64 (Sp.slotI (Sp.findR H.L m k)),.int .i64 (Sp.flagI (Sp.findR H.L m k)),.bool (Sp.findR H.L m k).isSome])∧Below wr.heap.size wr w':=by
 obtain⟨tgH,tgS,M,qs,h⟩:=h.two
 exact findS_at h.hp m k
theorem pslot_b (h:LawP w wr X hb bs H S vo n)(o:Int)(o0:0≤o)(o1:o<18446744073709551616)(m:Int)(hm:m≤9223372036854775807) :
  Calls Tryz.prog 28 #[.pointer (some ⟨hb,0,none⟩),.int .u64 o,.int .i64 m] wr fun e w'=>e = .returned (.tuple #[deV (((slotO H o m).map Pr.de).getD zDe),.bool (slotO H o m).isSome])∧Below wr.heap.size wr w':=by
 obtain⟨tgH,tgS,M,qs,h⟩:=h.two
 exact slot_any h.hp o o0 o1 m hm
theorem slots_plain (hs:ShO H.L ob)(hsd:ob.shaped=true)(k:ByteArray)(hx:¬(ob.kind=1∧((ixI k).isSome=true∨k=lenS))) :
  (ownO ob k=none∧Sp.findR H.L ob.shape k=none)∨∃m p,Sp.findR H.L ob.shape k=some (m,p.de.fl)∧ob.ps[m]?=some p∧ownO ob k=some p.de:=by
 obtain⟨s,a,b,c⟩:=shape_slot hs hsd k
 have hg:ownO ob k=getO ob k:=by
  unfold ownO
  by_cases hk:ob.kind=1
  ·rw[if_pos hk]
   by_cases hl:k=lenS
   ·exact absurd ⟨hk,Or.inr hl⟩ hx
   ·rw[if_neg hl]
    cases hi:ixI k with
    | some v=>exact absurd ⟨hk,Or.inl (by rw[hi];rfl)⟩ hx
    | none=>rfl
  ·rw[if_neg hk]
 rw[hg]
 unfold Sp.findR
 rw[a,Option.bind_some,b]
 cases hp:plc ob.ps k with
 | none =>
   refine Or.inl ⟨?_,rfl⟩
   unfold getO
   rw[hp]
   rfl
 | some m =>
   obtain⟨p,h1,h2,h3⟩:=c m hp
   refine Or.inr ⟨m,p,?_,h1,h3⟩
   rw[Option.bind_some,h2]
   rfl
end
theorem slots_walk (w:World)(hT:TbAt w)(m:Int)(sc:Sli OpP)(k:ByteArray)(hsc:sc.ok opP 11 w)(hwf:∀a∈sc.xs,a.wf)(hk:k.size≤maxLen)(hsz:96*sc.xs.length≤140737488355328) :
  Calls Tryz.prog 7 #[.int .i64 m,sc.val,.string k] w fun e w'=>e = .returned (.bool true)∧Below w.heap.size w w':=by
 obtain⟨ca,cc,cx⟩:=sc
 unfold Sli.val
 simp only at *
 have kn:=new_any w m
 have HC:Hid (∀W,Below w.heap.size w W→Sli.ok opP 11 W ⟨ca,cc,cx⟩):=fun W hW=>hsc.kept (cells_below hW)
 have HWF:Hid ((∀a∈cx,a.wf)∧96*cx.length≤140737488355328):=⟨hwf,hsz⟩
 have hcl:(cx.length:Int)≤1466015503702:=by omega
 have HTB:Hid (TbAt w):=hT
 have kx:=fun W=>rindex_any k W hk
 have HKL:Hid (k.size≤maxLen):=hk
 obtain⟨el,hel⟩:∃el:Bool,el=(k.toList == [108,101,110,103,116,104]):=⟨_,rfl⟩
 have HEL:Hid (el=false→k≠lenS):=fun e q=>by
  rw[hel,q,lenS_l] at e
  exact absurd e (by decide)
 have hel2:=hel.symm
 obtain⟨ix,hix⟩:∃ix:Bool,ix=(rxI k).isSome:=⟨_,rfl⟩
 have HIX:Hid (ix=(ixI k).isSome):=by show ix=_;rw[hix,ix_same]
 rw[←hix] at kx
 generalize (((rxI k).getD 0:Nat):Int)=iv at *
 clear hsc hwf hsz hT hk hel hix
 go_enter Tryz.func7,Tryz.ntmps7
 go_wp2_with fail
 refine kn.mono ?_
 rintro e w1 ⟨hb,O,rfl,hT,hb1⟩
 have HS:Hid (LawP w (w1.alloc (.cells #[.slice none 0 0,.slice none 0 0] 28)) (fun b=>b=w1.heap.size) hb w1.heap.size (He.new m) [] .nil 0):=LawP.start HTB.out hT hb1
 clear kn hT hb1
 go_upto_region 3 with fail
 generalize w1.alloc (.cells #[.slice none 0 0,.slice none 0 0] 28)=w2 at *
 generalize w1.heap.size=bs at *
 have kal:=palive_any w2 HS.out.tbr.fp
 go_wp2_with fail
 refine kal.mono ?_
 rintro e w3 ⟨rfl,hb3⟩
 have HI:Hid (LawP w w3 (fun b=>b=bs) hb bs (He.new m) [] .nil 0):=HS.out.below hb3
 clear kal hb3 HS
 go_wp2_with fail
 go_loopw [36] (fun iv wr=>∃(i:Nat) (H:He) (S:List So) (vo:SV),(i≤cx.length∧Hid (LawP w wr (fun b=>b=bs) hb bs H S vo i))∧iv = .int .i64 i) (fun iv wr=>cx.length - (intOf iv).toNat)
 case atStart=>exact⟨0,_,_,_,⟨Nat.zero_le _,HI⟩,rfl⟩
 case round =>
  clear HI
  obtain⟨i,H,S,⟨oa,ol,oc⟩,⟨ple,HL⟩,rfl⟩:=hrel
  rcases Nat.lt_or_ge i cx.length with c | c
  ·have hex:∃a,cx[i]?=some a:=⟨_,List.getElem?_eq_getElem c⟩
   obtain⟨a,ha⟩:=hex
   obtain⟨b,off,e1,hc⟩:=(HC.out wr HL.out.two.bel).cells (by intro e;have e:cx=[]:=e;rw[e] at c;simp at c)
   simp only at e1
   subst e1
   have d0:=hc i a ha 0 _ rfl
   have d1:=hc i a ha 1 _ rfl
   have d2:=hc i a ha 2 _ rfl
   have d3:=hc i a ha 3 _ rfl
   have d4:=hc i a ha 4 _ rfl
   have d5:=hc i a ha 5 _ rfl
   have d6:=hc i a ha 6 _ rfl
   have d7:=hc i a ha 7 _ rfl
   have d8:=hc i a ha 8 _ rfl
   have d9:=hc i a ha 9 _ rfl
   have d10:=hc i a ha 10 _ rfl
   rw[Nat.add_zero] at d0
   have hmem:=HWF.out.1 a (List.mem_of_getElem? ha)
   have cil:(i:Int)<cx.length:=by omega
   obtain⟨kd,oo,op,kk,⟨has,va,ge,se,fl⟩,vv,nn⟩:=a
   simp only at d0 d1 d2 d3 d4 d5 d6 d7 d8 d9 d10
   obtain⟨wq,hwq⟩:∃wq,wq=wr.alloc (.cells #[.int .i64 kd,.int .u64 oo,.int .u64 op,.string kk,.int .i64 has,.int .u64 va,.int .u64 ge,.int .u64 se,.int .i64 fl,.int .u64 vv,.int .i64 nn] 37):=⟨_,rfl⟩
   have hxq:wq.heap[wr.heap.size]?=some (.cells #[.int .i64 kd,.int .u64 oo,.int .u64 op,.string kk,.int .i64 has,.int .u64 va,.int .u64 ge,.int .u64 se,.int .i64 fl,.int .u64 vv,.int .i64 nn] 37 (0,0)):=by rw[hwq];exact at_new _ _
   have hlq:LawP w wq (fun b=>(fun b=>b=bs) b∨b=wr.heap.size) hb bs H S ⟨oa,ol,oc⟩ i:=by rw[hwq];exact HL.out.new _
   have HXQ:=(show Hid _ from hxq)
   have HNQ:Hid (wr.heap.size≠bs):=fun e=>HL.out.ne (Eq.mpr (congrArg (fun b=>b=bs) e) HL.out.bx)
   have HQ:=(show Hid _ from hlq)
   have ks:=hlq.step (by have:=HWF.out.2;omega) _ hmem
   unfold stV OpP.val OpP.cells at ks
   rw[show(SV.mk oa ol oc).val = .slice oa ol oc from rfl,show SV.nil.val = .slice none 0 0 from rfl] at ks
   simp only at ks
   obtain⟨r0,r1⟩:=HQ.out.box.ce
   rw[show(SV.mk oa ol oc).val = .slice oa ol oc from rfl] at r0
   rw[show SV.nil.val = .slice none 0 0 from rfl] at r1
   have hcq:∀j,wq.cell? ⟨wr.heap.size,j,none⟩=_:=fun j=>cell_of_row wq wr.heap.size j _ _ (0,0) hxq
   have g0:=hcq 0
   have g1:=hcq 1
   have g2:=hcq 2
   have g3:=hcq 3
   have g4:=hcq 4
   have g5:=hcq 5
   have g6:=hcq 6
   have g7:=hcq 7
   have g8:=hcq 8
   have g9:=hcq 9
   have g10:=hcq 10
   clear hc ha hmem hxq hlq hcq HL
   go_upto_region 8 with fail
   rw[←hwq]
   clear hwq d0 d1 d2 d3 d4 d5 d6 d7 d8 d9 d10
   generalize wr.heap.size=bq at *
   simp only[List.getElem?_toArray,List.getElem?_cons_zero,List.getElem?_cons_succ] at g0 g1 g2 g3 g4 g5 g6 g7 g8 g9 g10
   go_wp2_with fail
   refine ks.mono ?_
   rintro e w5 ⟨⟨za,zl,zc⟩,rfl,bx5,hl5,hk5⟩
   have HX:=(show Hid _ from hl5)
   have HXB:=(show Hid _ from (hk5 bq (Or.inr rfl) HNQ.out).trans HXQ.out)
   obtain⟨m0,m1⟩:=bx5.ce
   obtain⟨n0,n1⟩:=bx5.fz
   rw[show(SV.mk oa ol oc).val = .slice oa ol oc from rfl] at m0
   try rw[show SV.nil.val = .slice none 0 0 from rfl] at m1
   rw[show(SV.mk za zl zc).val = .slice za zl zc from rfl] at HX HXB ⊢
   try rw[show SV.nil.val = .slice none 0 0 from rfl] at HX
   try rw[show SV.nil.val = .slice none 0 0 from rfl] at HXB
   try rw[show SV.nil.val = .slice none 0 0 from rfl]
   clear hl5 bx5 hk5 ks g0 g1 g2 g3 g4 g5 g6 g7 g8 g9 g10 r0 r1 HXQ HQ
   go_upto_region 9 with fail
   generalize ((w5.setCell ⟨bs,0,none⟩ (.slice za zl zc)).setCell ⟨bs,1,none⟩ (.slice none 0 0))=w6 at *
   clear m0 m1 n0 n1
   obtain⟨H3,hH3⟩:∃H3,H3=pH H ⟨kd,oo,op,kk,⟨has,va,ge,se,fl⟩,vv,nn⟩:=⟨_,rfl⟩
   obtain⟨S3,hS3⟩:∃S3,S3=pS S ⟨kd,oo,op,kk,⟨has,va,ge,se,fl⟩,vv,nn⟩:=⟨_,rfl⟩
   rw[←hH3,←hS3] at HX
   have HZL:Hid (zl=S3.length∧zl≤65536):=by
    have e:=HX.out.len
    simp only at e
    exact⟨e.1,by omega⟩
   have hzl:(zl:Int)≤65536:=by have:=HZL.out;omega
   have HC2:Hid (i<cx.length):=c
   have HX6:Hid (LawP w w6 (fun b=>b=bs) hb bs H3 S3 ⟨za,zl,zc⟩ (i+1)):=HX.out.less (fun b q=>Or.inl q) rfl
   clear hH3 hS3 HXB HNQ c HX
   obtain⟨r0,r1⟩:=HX6.out.box.ce
   rw[show(SV.mk za zl zc).val = .slice za zl zc from rfl] at r0
   rw[show SV.nil.val = .slice none 0 0 from rfl] at r1
   go_wp2_with fail
   go_loopw [50] (fun jv wr=>∃(j:Nat),(j≤zl∧Hid (LawP w wr (fun b=>b=bs) hb bs H3 S3 ⟨za,zl,zc⟩ (i+1)))∧jv = .int .i64 j) (fun jv wr=>zl - (intOf jv).toNat)
   case atStart=>exact⟨0,⟨Nat.zero_le _,HX6.out⟩,rfl⟩
   case round =>
    clear HX6 r0 r1
    obtain⟨j,⟨plj,HX⟩,rfl⟩:=hrel
    rcases Nat.lt_or_ge j zl with cj | cj
    ·have cjl:(j:Int)<zl:=by omega
     have hwo:IntKind.u64.wrap (18445055223849287680+(j:Int))=objW (j:Int):=by rw[IntKind.wrap_u64];unfold objW;omega
     obtain⟨x,hxj⟩:∃x,S3[j]?=some x:=⟨_,List.getElem?_eq_getElem (by have:=HZL.out.1;omega)⟩
     obtain⟨u0,u1,ob,e1,e2,e3⟩:=HX.out.ord.get HX.out.two.wf hxj
     have eo:obO H3 (objW (j:Int))=some ob:=by unfold obO;rw[e1];exact e2
     have hso:soO S3 (objW (j:Int))=some x:=by
      rcases HX.out.ord.rel.oo (objW (j:Int)) with⟨f1,f2⟩ | ⟨ob',x',f1,f2,f3⟩
      ·rw[eo] at f1;cases f1
      ·rw[f2]
       have g2:=f2
       unfold soO at g2
       rw[←HX.out.ord.rel.at,e1] at g2
       have g2:S3[j]?=some x':=g2
       rw[hxj] at g2
       exact g2.symm
     have HOR:Hid (0≤objW (j:Int)∧objW (j:Int)<18446744073709551616):=⟨u0,u1⟩
     obtain⟨is,his⟩:∃is,is=ob.shaped:=⟨_,rfl⟩
     obtain⟨sh,hsh⟩:∃sh,sh=ob.shape:=⟨_,rfl⟩
     obtain⟨fr,hfr⟩:∃fr,fr=Sp.findR H3.L sh k:=⟨_,rfl⟩
     obtain⟨fs,hfs⟩:∃fs,fs=Sp.slotI fr:=⟨_,rfl⟩
     obtain⟨ff,hff⟩:∃ff,ff=Sp.flagI fr:=⟨_,rfl⟩
     obtain⟨th,hth⟩:∃th,th=fr.isSome:=⟨_,rfl⟩
     obtain⟨ar,har⟩:∃ar,ar=(x.kind == 1):=⟨_,rfl⟩
     obtain⟨d1,hd1⟩:∃d1,d1=(ownH H3 (objW (j:Int)) k).getD zDe:=⟨_,rfl⟩
     obtain⟨ow,how⟩:∃ow,ow=(ownH H3 (objW (j:Int)) k).isSome:=⟨_,rfl⟩
     obtain⟨d2,hd2⟩:∃d2,d2=((slotO H3 (objW (j:Int)) fs).map Pr.de).getD zDe:=⟨_,rfl⟩
     have hfsb:is=true→fs≤9223372036854775807:=fun hi=>by
      obtain⟨s,a,b,c⟩:=shape_slot (HX.out.ord.sh.ob ob (List.mem_of_getElem? e2)) (by rw[←his];exact hi) k
      rw[hfs,hfr,hsh]
      unfold Sp.findR
      rw[a,Option.bind_some,b]
      cases hp:plc ob.ps k with
      | none=>show(0:Int)≤_;omega
      | some m =>
        obtain⟨p,h1,h2,h3⟩:=c m hp
        rw[Option.bind_some,h2]
        have hl:=(List.getElem?_eq_some_iff.1 h1).1
        have hw:=(HX.out.two.wf.ob ob (List.mem_of_getElem? e2)).nx.2.2
        show((m:Nat):Int)≤_
        omega
     have HPL:Hid (is=true→(ar=false∨(ix=false∧el=false))→ow=th∧(th=true→d2=d1∧ff=d1.fl)):=fun a b=>by
      have hnx:¬(ob.kind=1∧((ixI k).isSome=true∨k=lenS)):=by
       rintro⟨q1,q2⟩
       have ht:ar=true:=by rw[har,←e3.kd,q1];rfl
       rcases b with b | ⟨b1,b2⟩
       ·rw[ht] at b;cases b
       ·rcases q2 with q2 | q2
        ·rw[←HIX.out,b1] at q2;cases q2
        ·exact HEL.out b2 q2
      have hp:=slots_plain (HX.out.ord.sh.ob ob (List.mem_of_getElem? e2)) (by rw[←his];exact a) k hnx
      have ho:ownH H3 (objW (j:Int)) k=ownO ob k:=by unfold ownH;rw[eo];rfl
      rw[ho] at how hd1
      rw[←hsh,←hfr] at hp
      rcases hp with⟨p1,p2⟩ | ⟨mm,p,p1,p2,p3⟩
      ·rw[p1] at how
       rw[p2] at hth
       refine⟨by rw[how,hth];rfl,fun q => ?_⟩
       rw[hth] at q
       cases q
      ·rw[p3] at how hd1
       rw[p1] at hth hfs hff
       refine⟨by rw[how,hth];rfl,fun _=>⟨?_,?_⟩⟩
       ·rw[hd2,hd1,hfs]
        unfold slotO
        rw[eo]
        show((if 0≤((mm:Nat):Int) then ob.ps[((mm:Nat):Int).toNat]? else none).map Pr.de).getD zDe=p.de
        rw[if_pos (by omega),Int.toNat_natCast,p2]
        rfl
       ·rw[hff,hd1];rfl
     have ks:=pshape_b HX.out (objW (j:Int)) u0 u1 e1 e2
     rw[←his,←hsh] at ks
     have HKF:Hid (∀W,Below wr.heap.size wr W→Calls Tryz.prog 26 #[.pointer (some ⟨hb,0,none⟩),.int .i64 sh,.string k] W fun e w'=>e = .returned (.tuple #[.int .i64 fs,.int .i64 ff,.bool th])∧Below W.heap.size W w'):=fun W r=>by
      rw[hfs,hff,hth,hfr]
      exact pfind_b (HX.out.below r) sh k
     have HKA:Hid (∀W,Below wr.heap.size wr W→Calls Tryz.prog 24 #[stV ⟨za,zl,zc⟩ .nil,.int .u64 (objW (j:Int))] W fun e w'=>e = .returned (.bool ar)∧Below W.heap.size W w'):=fun W r=>by
      have:=rarray_b (HX.out.below r) (objW (j:Int)) u0 u1
      rw[hso,Option.map_some,Option.getD_some,←har] at this
      exact this
     have HKO:Hid (∀W,Below wr.heap.size wr W→Calls Tryz.prog 18 #[.pointer (some ⟨hb,0,none⟩),.int .u64 (objW (j:Int)),.string k] W fun e w'=>e = .returned (.tuple #[deV d1,.bool ow])∧Below W.heap.size W w'):=fun W r=>by
      rw[hd1,how]
      exact pown_b (HX.out.below r) (objW (j:Int)) u0 u1 k HKL.out
     have HKS:Hid (is=true→∀W,Below wr.heap.size wr W→Calls Tryz.prog 28 #[.pointer (some ⟨hb,0,none⟩),.int .u64 (objW (j:Int)),.int .i64 fs] W fun e w'=>∃b:Bool,e = .returned (.tuple #[deV d2,.bool b])∧Below W.heap.size W w'):=fun hi W r=>by
      rw[hd2]
      refine(pslot_b (HX.out.below r) (objW (j:Int)) u0 u1 fs (hfsb hi)).mono ?_
      rintro e w' ⟨rfl,q⟩
      exact⟨_,rfl,q⟩
     have HCJ:Hid (j<zl):=cj
     generalize objW (j:Int)=oj at *
     unfold stV at HKA
     rw[show(SV.mk za zl zc).val = .slice za zl zc from rfl,show SV.nil.val = .slice none 0 0 from rfl] at HKA
     unfold deV at HKO HKS
     clear his hsh hfr hfs hff hth har hd1 how hd2 hfsb e1 e2 e3 eo hso hxj u0 u1 cj
     go_wp2_with fail
     refine ks.mono ?_
     rintro e w7 ⟨rfl,hB7⟩
     have HB7:=(show Hid _ from hB7)
     have kf:=HKF.out w7 HB7.out
     clear ks hB7 HKF
     go_wp2_with fail
     refine kf.mono ?_
     rintro e w8 ⟨rfl,hB8⟩
     have HB8:=(show Hid (Below wr.heap.size wr w8) from bel_sm' HB7.out hB8)
     have ka:=HKA.out w8 HB8.out
     clear kf hB8 HKA HB7
     obtain⟨r0,r1⟩:=(HX.out.below HB8.out).box.ce
     rw[show(SV.mk za zl zc).val = .slice za zl zc from rfl] at r0
     rw[show SV.nil.val = .slice none 0 0 from rfl] at r1
     go_wp2_with fail
     refine ka.mono ?_
     rintro e w9 ⟨rfl,hB9⟩
     have HB9:=(show Hid (Below wr.heap.size wr w9) from bel_sm' HB8.out hB9)
     clear ka hB9 HB8 r0 r1
     go_wp2_with fail
     refine(kx _).mono ?_
     rintro e wa ⟨rfl,hwa⟩
     have hw':=hwa.symm
     subst hw'
     clear hwa
     go_upto_region 17 with fail
     go_cut [89] from 78 to 89 (fun c wx=>wx=w9∧∃s:Bool,c = .bool s∧(s=false→is=true∧(ar=false∨(ix=false∧el=false))))
     case first =>
      clear HX HKO HKS HB9 HPL
      cases is with
      | false =>
        go_wp2_with fail
        go_meet
        exact⟨rfl,true,rfl,fun e=>(by cases e)⟩
      | true =>
        cases ar with
        | false =>
          go_wp2_with fail
          go_meet
          exact⟨rfl,false,rfl,fun _=>⟨(by first | rfl | trivial),Or.inl (by first | rfl | trivial)⟩⟩
        | true =>
          cases ix with
          | true =>
            go_wp2_with fail
            go_meet
            exact⟨rfl,true,rfl,fun e=>(by cases e)⟩
          | false =>
            go_wp2_with fail
            go_meet
            refine⟨rfl,el,by first | rfl | (rw[hel2]),fun e=>⟨(by first | rfl | trivial),Or.inr ⟨(by first | rfl | trivial),e⟩⟩⟩
     case rest =>
      obtain⟨hwx,s,rfl,hs⟩:=hcut
      have hw':=hwx.symm
      subst hw'
      clear hwx
      cases s with
      | true =>
        have HX9:=(show Hid _ from HX.out.below HB9.out)
        clear HX HKO HKS HB9 HPL hs
        go_wp2_with fail
        refine⟨⟨j+1,⟨HCJ.out,HX9⟩,by go_num⟩,?_⟩
        have:=HCJ.out
        simp[intOf]
        omega
      | false =>
        obtain⟨hq1,hq2⟩:=hs rfl
        have HPQ:=(show Hid _ from HPL.out hq1 hq2)
        have ko:=HKO.out w9 HB9.out
        have HKS:=(show Hid _ from HKS.out hq1)
        clear hs HPL HKO
        go_wp2_with fail
        refine ko.mono ?_
        rintro e wb ⟨rfl,hBb⟩
        have HBB:=(show Hid (Below wr.heap.size wr (wb.alloc (.cells #[.int .u64 d1.va,.int .u64 d1.se,.int .i64 d1.fl] 41))) from bel_sm' (bel_sm' HB9.out hBb) ((Below.refl _ _).alloc (Nat.le_refl _) (.cells #[.int .u64 d1.va,.int .u64 d1.se,.int .i64 d1.fl] 41)))
        have hz:=at_new wb (.cells #[.int .u64 d1.va,.int .u64 d1.se,.int .i64 d1.fl] 41)
        have HZ:Hid ((wb.alloc (.cells #[.int .u64 d1.va,.int .u64 d1.se,.int .i64 d1.fl] 41)).heap[wb.heap.size]?=some (.cells #[.int .u64 d1.va,.int .u64 d1.se,.int .i64 d1.fl] 41 (0,0))):=hz
        clear ko hBb HB9 hz
        go_upto_region 19 with fail
        generalize wb.alloc (.cells #[.int .u64 d1.va,.int .u64 d1.se,.int .i64 d1.fl] 41)=wc2 at *
        generalize wb.heap.size=b1 at *
        have kl:=HKS.out wc2 HBB.out
        clear HKS
        go_wp2_with fail
        refine kl.mono ?_
        rintro e wd ⟨bq2,rfl,hBd⟩
        have HBD:=(show Hid (Below wr.heap.size wr (wd.alloc (.cells #[.int .u64 d2.va,.int .u64 d2.se,.int .i64 d2.fl] 41))) from bel_sm' (bel_sm' HBB.out hBd) ((Below.refl _ _).alloc (Nat.le_refl _) (.cells #[.int .u64 d2.va,.int .u64 d2.se,.int .i64 d2.fl] 41)))
        have hz1:(wd.alloc (.cells #[.int .u64 d2.va,.int .u64 d2.se,.int .i64 d2.fl] 41)).heap[b1]?=some (.cells #[.int .u64 d1.va,.int .u64 d1.se,.int .i64 d1.fl] 41 (0,0)):=by
         have z:=Below.block hBd b1 (Array.getElem?_eq_some_iff.1 HZ.out).1
         have z2:=Below.block ((Below.refl wd.heap.size wd).alloc (Nat.le_refl _) (.cells #[.int .u64 d2.va,.int .u64 d2.se,.int .i64 d2.fl] 41)) b1 (by have:=(Array.getElem?_eq_some_iff.1 (z.trans HZ.out)).1;exact this)
         exact z2.trans (z.trans HZ.out)
        have hz2:=at_new wd (.cells #[.int .u64 d2.va,.int .u64 d2.se,.int .i64 d2.fl] 41)
        obtain⟨x0,x1,x2⟩:=(show Bx3 _ b1 d1 from hz1).ce
        obtain⟨y0,y1,y2⟩:=(show Bx3 _ wd.heap.size d2 from hz2).ce
        have HXN:=(show Hid _ from HX.out.below HBD.out)
        clear kl hBd HBB HZ hz1 hz2 HBD HX
        go_upto_region 20 with fail
        generalize wd.alloc (.cells #[.int .u64 d2.va,.int .u64 d2.se,.int .i64 d2.fl] 41)=we at *
        generalize wd.heap.size=b2 at *
        go_cut [120] from 104 to 120 (fun c wx=>c = .bool false∧wx=we)
        case first =>
         obtain⟨q1,q2⟩:=HPQ.out
         clear HPQ HXN
         subst q1
         have hoo:(ow != ow)=false:=by simp
         cases ow with
         | false =>
           clear q2
           go_wp2_with fail
           go_meet
           exact⟨rfl,rfl⟩
         | true =>
           obtain⟨q3,q4⟩:=q2 rfl
           subst q3
           subst q4
           have h1:(d2.va == d2.va)=true:=beq_self_eq_true _
           have h2:(d2.se == d2.se)=true:=beq_self_eq_true _
           have h3:(d2.fl == d2.fl)=true:=beq_self_eq_true _
           have h4:(d2.fl != d2.fl)=false:=by simp
           clear q2
           go_wp2_with fail
           go_meet
           exact⟨by first | rfl | (simp),rfl⟩
        case rest =>
         obtain⟨rfl,hwx⟩:=hcut
         have hw':=hwx.symm
         subst hw'
         clear hwx x0 x1 x2 y0 y1 y2 HPQ
         go_wp2_with fail
         refine⟨⟨j+1,⟨HCJ.out,HXN⟩,by go_num⟩,?_⟩
         have:=HCJ.out
         simp[intOf]
         omega
    ·have cjl:¬((j:Int)<zl):=by omega
     have HN:=(show Hid _ from HX.out)
     clear HX HZL cj
     go_wp2_with fail
     refine⟨⟨i+1,H3,S3,⟨za,zl,zc⟩,⟨HC2.out,HN⟩,by go_num⟩,?_⟩
     have:=HC2.out
     simp[intOf]
     omega
  ·have hil:¬((i:Int)<cx.length):=by omega
   have HF:=(show Hid _ from HL.out.two.bel)
   clear HL c
   go_wp2_with fail
   go_ret
   exact⟨rfl,HF.out⟩
end Go.Proofs.YtahhionlbfhinaaGreatDoor.Hp
