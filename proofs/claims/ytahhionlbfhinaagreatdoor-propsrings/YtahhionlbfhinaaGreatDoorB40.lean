/- XJ, XK, KS, KT, XL, KV, XN -/
import Derived.Test.YtahhionlbfhinaaGreatDoorB38
import Derived.Test.YtahhionlbfhinaaGreatDoorB39
import Derived.Test.YtahhionlbfhinaaGreatDoorB37
import Derived.Test.YtahhionlbfhinaaGreatDoorXH
import Derived.Test.YtahhionlbfhinaaGreatDoorB33
import Derived.Test.YtahhionlbfhinaaGreatDoorB8
import Derived.Deep.QuietTactic
import Derived.Test.YtahhionlbfhinaaGreatDoorRows
import Derived.ProofKit
import Derived.OpenShut
import Derived.LaidMore
import Derived.Lib.LaidTab
import Derived.MakeChecks
import Derived.Lay
import Derived.Test.YtahhionlbfhinaaGreatDoorB29
set_option linter.unusedVariables false
set_option linter.unusedSimpArgs false
set_option maxRecDepth 100000
set_option maxHeartbeats 40000000
namespace Go.Proofs.YtahhionlbfhinaaGreatDoor.Hp
open Go.RowKit
section
variable {w0 w W W':World}{X:Nat→Prop}{hb:Nat}{H H':He}{S S':List So}{vo vo' vt vt':SV}{ts ts':List ByteArray}{n:Nat}
theorem lkeys_e (h:TwoE w0 w X hb H S vo vt ts)(hO:OrP H S ts n)(hT:TbAt w)(hn:n≤1999999999999)(o:Int)(o0:0≤o)(o1:o<18446744073709551616) :
  Calls Tryz.prog 40 #[.pointer (some ⟨hb,0,none⟩),stV vo vt,.int .u64 o] w fun e w'=>e = .returned (.bool true)∧Below w.heap.size w w':=by
 obtain⟨wb,hwb⟩:∃wb,wb=w.alloc (.cells #[vo.val,vt.val] 28):=⟨_,rfl⟩
 have hB:Below w.heap.size w wb:=by rw[hwb];exact(Below.refl _ _).alloc (Nat.le_refl _) _
 have hbs:BxS wb w.heap.size vo vt:=by rw[hwb];exact BxS.new w vo vt
 have HB:Hid (Below w.heap.size w wb):=hB
 have HBS:Hid (BxS wb w.heap.size vo vt):=hbs
 have kp:=pkeys_e (h.below hB) hO (hT.below hB).pw o o0 o1
 have HQ:Hid (∀W,Below wb.heap.size wb W→Calls Tryz.prog 89 #[stV vo vt,.int .u64 o] W fun e w'=>∃s:SV,e = .returned s.val∧OwnR strC 1 9 W.heap.size w' s.val (keysP H o)∧Below W.heap.size W w'):=fun W r=>by
  rw[hO.rel.keys o]
  exact rkeys_e ((h.below hB).below r) hO hn o o0 o1
 generalize hks:keysP H o=ks at *
 clear hks
 obtain⟨va,vl,vc⟩:=vo
 obtain⟨ta,tl,tc⟩:=vt
 unfold stV at *
 rw[show(SV.mk va vl vc).val = .slice va vl vc from rfl,show(SV.mk ta tl tc).val = .slice ta tl tc from rfl] at *
 obtain⟨nk,hnk⟩:∃nk,nk=ks.length:=⟨_,rfl⟩
 have HNK:Hid (nk=ks.length):=hnk
 clear h hO hT hB hbs hnk
 go_enter Tryz.func40,Tryz.ntmps40
 go_upto_region 1 with fail
 rw[←hwb]
 clear hwb
 go_wp2_with fail
 refine kp.mono ?_
 rintro e w2 ⟨s1,rfl,ho1,hB2⟩
 have HB2:=(show Hid _ from hB2)
 obtain⟨b0,b1⟩:=(HBS.out.below HB2.out).ce
 rw[show(SV.mk va vl vc).val = .slice va vl vc from rfl] at b0
 rw[show(SV.mk ta tl tc).val = .slice ta tl tc from rfl] at b1
 obtain⟨⟨a1,c1,x1⟩,hs1,hx1,hk1,_⟩:=OwnR.sl rtStr.len ho1
 simp only at hx1
 have hx1':=hx1.symm
 subst hx1'
 rw[hs1]
 unfold Sli.val
 simp only
 have HK1:Hid (Sli.ok strC 1 w2 ⟨a1,c1,ks⟩):=hk1
 have hnl:(nk:Int)≤9223372036854775807:=by
  have a:=hk1.1
  have b:=hk1.2
  unfold maxLen at b
  have c:=HNK.out
  simp only at a b
  omega
 have kq:=HQ.out w2 HB2.out
 clear kp ho1 hB2 hs1 hk1 HQ
 simp only[←HNK.out]
 go_wp2_with fail
 refine kq.mono ?_
 rintro e w3 ⟨s2,rfl,ho2,hB3⟩
 obtain⟨⟨a2,c2,x2⟩,hs2,hx2,hk2,_⟩:=OwnR.sl rtStr.len ho2
 simp only at hx2
 have hx2':=hx2.symm
 subst hx2'
 rw[hs2]
 unfold Sli.val
 simp only
 have HK3:Hid (Sli.ok strC 1 w3 ⟨a1,c1,ks⟩∧Sli.ok strC 1 w3 ⟨a2,c2,ks⟩):=⟨HK1.out.kept (cells_below hB3),hk2⟩
 have HB3:Hid (Below w.heap.size w w3):=bel_sm' HB.out (bel_sm' HB2.out hB3)
 clear kq ho2 hB3 hs2 hk2 HK1 HB2 HB HBS b0 b1
 simp only[←HNK.out]
 go_wp2_with fail
 go_loopw [23] (fun iv wr=>∃(i:Nat),(i≤nk∧Hid (Below w3.heap.size w3 wr))∧iv = .int .i64 i) (fun iv wr=>nk - (intOf iv).toNat)
 case atStart=>exact⟨0,⟨Nat.zero_le _,Below.refl _ _⟩,rfl⟩
 case round =>
  obtain⟨i,⟨ple,HW⟩,rfl⟩:=hrel
  rcases Nat.lt_or_ge i nk with c | c
  ·have cl:(i:Int)<nk:=by omega
   obtain⟨k,hk⟩:∃k,ks[i]?=some k:=⟨_,List.getElem?_eq_getElem (by rw[←HNK.out];exact c)⟩
   have q1:=HK3.out.1.kept (cells_below HW.out)
   have q2:=HK3.out.2.kept (cells_below HW.out)
   obtain⟨g1,f1,e1,hc1⟩:=q1.cells (by intro e;have e:ks=[]:=e;rw[e] at hk;simp at hk)
   obtain⟨g2,f2,e2,hc2⟩:=q2.cells (by intro e;have e:ks=[]:=e;rw[e] at hk;simp at hk)
   simp only at e1 e2
   subst e1 e2
   have d1:=hc1 i k hk 0 _ rfl
   have d2:=hc2 i k hk 0 _ rfl
   try simp only[Nat.mul_one,Nat.add_zero] at d1
   try simp only[Nat.mul_one,Nat.add_zero] at d2
   have hkl:(k.toList != k.toList)=false:=by simp
   have hkl2:(k.toList == k.toList)=true:=by simp
   have HC:Hid (i<nk):=c
   clear q1 q2 hc1 hc2 hk HK3 c HB3
   go_wp2_with fail
   go_quiet (fail)
   go_wp2_with fail
   refine⟨⟨i+1,⟨HC.out,?_⟩,by go_num⟩,?_⟩
   ·exact below_drewN HW.out _
   ·have:=HC.out
    simp[intOf]
    omega
  ·have hil:¬((i:Int)<nk):=by omega
   have HF:Hid (Below w.heap.size w wr):=bel_sm' HB3.out HW.out
   clear HW HK3 HB3 c
   go_wp2_with fail
   go_ret
   exact⟨rfl,HF.out⟩
end
section
variable {w0 w W W':World}{X:Nat→Prop}{hb:Nat}{H H':He}{S S':List So}{vo vo' vt vt':SV}{ts ts':List ByteArray}{n:Nat}
theorem pstep_no (h:TwoE w0 w X hb H S vo vt ts)(hO:OrP H S ts n)(hT:TbAt w)(hn:n≤1999999999999)(a:OpP)(hk:∀j:Int,(j=0∨j=1∨j=2∨j=3∨j=4∨j=5∨j=6∨j=8)→¬a.kd=j)(ha:a.wf) :
  Calls Tryz.prog 10 #[.pointer (some ⟨hb,0,none⟩),stV vo vt,a.val] w fun e w'=>∃vo',e = .returned (.tuple #[stV vo' vt,.bool true])∧TwoK w0 w w' X hb (pH H a) (pS S a) vo' vt ts:=by
 obtain⟨kd,oo,op,kk,⟨has,va,ge,se,fl⟩,vv,nn⟩:=a
 simp only at hk
 have HO:Hid (OrP H S ts n):=hO
 have hwf:=h.wf
 have hmo:H.most≤256:=hwf.mo
 have eH:pH H ⟨kd,oo,op,kk,⟨has,va,ge,se,fl⟩,vv,nn⟩=H:=pH_no hk
 have eS:pS S ⟨kd,oo,op,kk,⟨has,va,ge,se,fl⟩,vv,nn⟩=S:=pS_no hk
 rw[eH,eS]
 have kq:=fun W (h:TwoE w0 W (XbP w X) hb H S vo vt ts) (t:TbAt W)=>lkeys_e h HO.out t hn oo ha.o0 ha.o1
 obtain⟨oa,ol,oc⟩:=vo
 obtain⟨ta,tl,tc⟩:=vt
 have hst:OnP w0 w (((w.alloc (.cells #[.slice oa ol oc,.slice ta tl tc] 28)).alloc (.cells #[.int .i64 kd,.int .u64 oo,.int .u64 op,.string kk,.int .i64 has,.int .u64 va,.int .u64 ge,.int .u64 se,.int .i64 fl,.int .u64 vv,.int .i64 nn] 37)).alloc (.cells #[.slice none 0 0,.slice none 0 0] 28)) X hb H S ⟨oa,ol,oc⟩ ⟨ta,tl,tc⟩ ts ⟨oa,ol,oc⟩ ⟨ta,tl,tc⟩ #[.int .i64 kd,.int .u64 oo,.int .u64 op,.string kk,.int .i64 has,.int .u64 va,.int .u64 ge,.int .u64 se,.int .i64 fl,.int .u64 vv,.int .i64 nn] .nil .nil:=OnP.start h _
 have htb:TbAt (((w.alloc (.cells #[.slice oa ol oc,.slice ta tl tc] 28)).alloc (.cells #[.int .i64 kd,.int .u64 oo,.int .u64 op,.string kk,.int .i64 has,.int .u64 va,.int .u64 ge,.int .u64 se,.int .i64 fl,.int .u64 vv,.int .i64 nn] 37)).alloc (.cells #[.slice none 0 0,.slice none 0 0] 28)):=hT.below (B3 w _ _ _)
 obtain⟨wb,hwb⟩:∃wb,wb=(((w.alloc (.cells #[.slice oa ol oc,.slice ta tl tc] 28)).alloc (.cells #[.int .i64 kd,.int .u64 oo,.int .u64 op,.string kk,.int .i64 has,.int .u64 va,.int .u64 ge,.int .u64 se,.int .i64 fl,.int .u64 vv,.int .i64 nn] 37)).alloc (.cells #[.slice none 0 0,.slice none 0 0] 28)):=⟨_,rfl⟩
 rw[←hwb] at hst htb
 have HS:=(show Hid _ from hst)
 have z0:(kd == 0)=false:=by rw[beq_eq_false_iff_ne];exact hk 0 (by omega)
 have z1:(kd == 1)=false:=by rw[beq_eq_false_iff_ne];exact hk 1 (by omega)
 have z2:(kd == 2)=false:=by rw[beq_eq_false_iff_ne];exact hk 2 (by omega)
 have z3:(kd == 3)=false:=by rw[beq_eq_false_iff_ne];exact hk 3 (by omega)
 have z4:(kd == 4)=false:=by rw[beq_eq_false_iff_ne];exact hk 4 (by omega)
 have z5:(kd == 5)=false:=by rw[beq_eq_false_iff_ne];exact hk 5 (by omega)
 have z6:(kd == 6)=false:=by rw[beq_eq_false_iff_ne];exact hk 6 (by omega)
 have z8:(kd == 8)=false:=by rw[beq_eq_false_iff_ne];exact hk 8 (by omega)
 have hsd:=hst.same (W':=wb.drew) ((Below.refl _ _).drew)
 have HSD:=(show Hid _ from hsd)
 have kq:=kq wb.drew hsd.two (htb.below ((Below.refl _ _).drew))
 have ce0:wb.cell? ⟨w.heap.size,0,none⟩=some (.slice oa ol oc):=hst.s.ce.1
 have ce1:wb.cell? ⟨w.heap.size,1,none⟩=some (.slice ta tl tc):=hst.s.ce.2
 have cf0:=hst.s.fz.1
 have cf1:=hst.s.fz.2
 have cr0:wb.cell? ⟨w.heap.size+1+1,0,none⟩=some (.slice none 0 0):=hst.r.ce.1
 have cr1:wb.cell? ⟨w.heap.size+1+1,1,none⟩=some (.slice none 0 0):=hst.r.ce.2
 have cg0:=hst.r.fz.1
 have cg1:=hst.r.fz.2
 have q0:=hst.oc 0 rfl
 have q1:=hst.oc 1 rfl
 unfold stV OpP.val OpP.cells
 unfold stV at kq
 simp only at kq ⊢
 rw[show(SV.mk oa ol oc).val = .slice oa ol oc from rfl,show(SV.mk ta tl tc).val = .slice ta tl tc from rfl] at kq ⊢
 clear h hk hsd hO hst hwf hmo eH eS ha hT htb
 go_enter Tryz.func10,Tryz.ntmps10
 go_upto_region 1 with fail
 rw[←hwb]
 clear hwb
 go_upto_region 33 with fail
 first
 | (go_region_with ((go_at_call 40;refine kq.mono ?_;rintro e w3 ⟨rfl,hb3⟩;have h3:=HSD.out.same hb3;have h5:=(h3.set2 ⟨oa,ol,oc⟩ ⟨ta,tl,tc⟩);have HF:=(show Hid _ from And.intro h5.r h5.fin);have cx0:w3.cell? ⟨w.heap.size,0,none⟩=some (.slice oa ol oc):=h3.s.ce.1;have cx1:w3.cell? ⟨w.heap.size,1,none⟩=some (.slice ta tl tc):=h3.s.ce.2;have cy0:w3.cell? ⟨w.heap.size+1+1,0,none⟩=some (.slice none 0 0):=h3.r.ce.1;have cy1:w3.cell? ⟨w.heap.size+1+1,1,none⟩=some (.slice none 0 0):=h3.r.ce.2;have cz0:=h3.r.fz.1;have cz1:=h3.r.fz.2;clear hb3 h3 h5)))
 | fail
 all_goals
  rw[show(SV.mk oa ol oc).val = .slice oa ol oc from rfl,show(SV.mk ta tl tc).val = .slice ta tl tc from rfl] at HF
  go_wp2_with fail
  refine bodyPost_ret (res2 rfl _ _ (w.heap.size+1+1) 28 _ (0,0) _ rfl HF.out.1 Tryz.underlying28 rfl (by kernel_rfl)) rfl ?_
  exact⟨⟨oa,ol,oc⟩,rfl,HF.out.2⟩
end
def keyA:ByteArray:={ data:=#[97] }
def dA:De:=⟨intW 3,undW,7⟩
def oA0:Ob:=⟨0,nulW,false,false,[],0,[],[],0,true,-1,false,[]⟩
def oA1:Ob:=⟨0,nulW,false,true,[],0,[],[],0,true,-1,false,[]⟩
def oA2:Ob:=⟨0,nulW,false,true,[⟨keyA,0,dA⟩],1,[],[],2,true,-1,false,[]⟩
def oB:Ob:=⟨0,objW 0,false,false,[],0,[],[],1,true,-1,false,[]⟩
def HP1:He:=⟨[],[oA0],9,[⟨rootN 0 nulW,[],[],[]⟩],[],0⟩
def HP2:He:=⟨[],[oA1,oB],9,[⟨rootN 0 nulW,[],[],[]⟩,⟨rootN 0 (objW 0),[],[],[]⟩],[],0⟩
def HP3:He:=⟨[],[oA2,oB],9,[⟨rootN 0 nulW,[],[],[]⟩,⟨rootN 0 (objW 0),[],[],[]⟩,⟨rootN 0 nulW,[keyA],[7],[(false,keyA,7)]⟩],[],0⟩
theorem mkP1:makeH (He.new 9) 0 nulW=HP1:=by
 have h1:obI (He.new 9) nulW=none:=by
  unfold obI
  rw[if_neg (by intro q;have:=q.1;rw[isT_nul] at this;cases this)]
 have h2:raiseH (He.new 9) nulW=He.new 9:=by unfold raiseH;rw[h1]
 unfold makeH
 rw[h2]
 rfl
theorem oiP1:obI HP1 (objW 0)=some 0:=obI_of (H:=HP1) (i:=0) (by decide) (by decide)
theorem mkP2:makeH HP1 0 (objW 0)=HP2:=by
 have h2:raiseH HP1 (objW 0)=⟨[],[oA1],9,[⟨rootN 0 nulW,[],[],[]⟩],[],0⟩:=by unfold raiseH;rw[oiP1];rfl
 unfold makeH
 rw[h2]
 rfl
theorem oiP2:obI HP2 (objW 0)=some 0:=obI_of (H:=HP2) (i:=0) (by decide) (by decide)
theorem oiP3:obI HP3 (objW 0)=some 0∧obI HP3 (objW 1)=some 1:=⟨obI_of (H:=HP3) (i:=0) (by decide) (by decide),obI_of (H:=HP3) (i:=1) (by decide) (by decide)⟩
theorem nuP (H:He):obO H nulW=none:=by
 unfold obO
 have h1:obI H nulW=none:=by
  unfold obI
  rw[if_neg (by intro q;have:=q.1;rw[isT_nul] at this;cases this)]
 rw[h1]
 rfl
theorem ooP2:obO HP2 (objW 0)=some oA1:=by unfold obO;rw[oiP2];rfl
theorem ooP3:obO HP3 (objW 0)=some oA2∧obO HP3 (objW 1)=some oB:=by unfold obO;rw[oiP3.1,oiP3.2];exact⟨rfl,rfl⟩
theorem enP2:EndsH HP2 1 (objW 0):=Or.inr ⟨oA1,ooP2,nuP _⟩
theorem enP3:EndsH HP3 2 (objW 1):=Or.inr ⟨oB,ooP3.2,Or.inr ⟨oA2,ooP3.1,nuP _⟩⟩
theorem owA1:ownO oA1 keyA=none:=rfl
theorem owB:ownO oB keyA=none:=rfl
theorem plA2:plc oA2.ps keyA=some 0:=plc_at (p:=⟨keyA,0,dA⟩) rfl rfl (fun j q hj=>by omega)
theorem owA2:ownO oA2 keyA=some dA:=by
 unfold ownO
 rw[if_neg (by decide)]
 unfold getO
 rw[plA2]
 rfl
theorem lkP2:lookF HP2 keyA 1 (objW 0)=none:=by rw[look_step ooP2,owA1];rfl
theorem lkP3:lookF HP3 keyA 2 (objW 1)=some (objW 0,dA):=by
 rw[look_step ooP3.2,owB]
 show lookF HP3 keyA 1 (objW 0)=_
 rw[look_step ooP3.1,owA2]
theorem wiA:wishD newD (wsAll (intW 3))=dA:=by
 unfold wishD turnD accB newD wsAll flR stF dA
 simp only
 have e1:bits .and .i64 15 16=0:=by decide
 have e2:bits .and .i64 15 1=1:=by decide
 have e3:bits .and .i64 15 32=0:=by decide
 have e4:bits .and .i64 15 2=2:=by decide
 have e5:bits .and .i64 15 4=4:=by decide
 have e6:bits .and .i64 15 8=8:=by decide
 have e7:bits .and .i64 0 8=0:=by decide
 have e8:bits .and .i64 15 48=0:=by decide
 have e9:bits .or .i64 (bits .andNot .i64 (bits .or .i64 (bits .andNot .i64 (bits .or .i64 (bits .andNot .i64 0 1) (bits .and .i64 7 1)) 2) (bits .and .i64 7 2)) 4) (bits .and .i64 7 4)=7:=by decide
 rw[e1,e2,e3,e4,e5,e6,e7]
 simp[e8,e9]
theorem dfP:defP HP2 (objW 0) keyA (wsAll (intW 3))=(true,HP3):=by
 unfold defP
 rw[oiP2]
 show(if (bits .and .i64 15 48 != 0)=true∧(bits .and .i64 15 3 != 0)=true then (false,HP2) else match ownO oA1 keyA with
      | none=>if oA1.shut=true then (false,HP2) else layP HP2 0 oA1 keyA (wishD newD (wsAll (intW 3)))
      | some old=>if mayD old (wishD old (wsAll (intW 3)))=true then layP HP2 0 oA1 keyA (wishD old (wsAll (intW 3))) else (false,HP2))=_
 rw[if_neg (by intro q;have:=q.1;revert this;decide),owA1,wiA]
 show layP HP2 0 oA1 keyA dA=_
 unfold layP
 rw[if_neg (by decide)]
 rfl
theorem asP:asgP HP2 (objW 0) keyA (intW 3) 1=(undW,0,HP3):=by
 unfold asgP
 rw[lkP2]
 show asgE (defP HP2 (objW 0) keyA (wsAll (intW 3)))=_
 rw[dfP]
 rfl
theorem gdP2:HP2.gd 0:=by
 refine⟨fun ob ho => ?_,fun ob ho => ?_,fun ob ho => ?_⟩
 all_goals
  have ho:ob=oA1∨ob=oB:=by simpa [HP2] using ho
  rcases ho with rfl | rfl
 ·exact⟨by simp[oA1],by simp[oA1],by simp[oA1],by simp[oA1],fun q=>by cases q⟩
 ·exact⟨by simp[oB],by simp[oB],by simp[oB],by simp[oB],fun q=>by cases q⟩
 ·exact fun _=>rfl
 ·exact fun _=>rfl
 ·exact Int.le_refl _
 ·exact Int.le_refl _
theorem ntP3:HP3.neat:=by
 intro ob ho
 have ho:ob=oA2∨ob=oB:=by simpa [HP3] using ho
 rcases ho with rfl | rfl
 ·exact⟨by simp[oA2],by simp[oA2],by simp[oA2],by simp[oA2],fun q=>by cases q⟩
 ·exact⟨by simp[oB],by simp[oB],by simp[oB],by simp[oB],fun q=>by cases q⟩
theorem palive_any (w:World)(hF:FpAt w):Calls Tryz.prog 9 #[] w fun e w'=>e = .returned (.bool true)∧Below w.heap.size w w':=by
 have kn:=new_any w 9
 have ki:=fun w=>refInt_any 3 w
 have HFP:Hid (FpAt w):=hF
 have HOW:Hid ((0≤objW 0∧objW 0<18446744073709551616)∧(0≤objW 1∧objW 1<18446744073709551616)∧(0≤intW 3∧intW 3<18446744073709551616)):=by show _∧_∧_;decide
 have HKZ:Hid (keyA.size≤maxLen):=by show keyA.size≤maxLen;unfold maxLen;decide
 clear hF
 go_enter Tryz.func9,Tryz.ntmps9
 go_wp2_with fail
 refine kn.mono ?_
 rintro e w1 ⟨hb,O,rfl,⟨tg,M,h,hO⟩,hB⟩
 have HB1:Hid (Below w.heap.size w w1∧∀b,tg b≠0→w.heap.size≤b):=⟨hB,fun b q=>(h.lt b q).1⟩
 have km:=make_hit h 0 nulW (by omega) (by omega) (by decide) (by decide) (by unfold mayB;simp) (by decide)
 rw[mkP1,show objW ((He.new 9).obs.length:Int)=objW 0 from rfl] at km
 unfold nulW at km
 clear kn h hO hB
 go_wp2_with fail
 refine km.mono ?_
 rintro e w2 ⟨rfl,M2,tg2,h2,c2,n2⟩
 have HB2:Hid (Below w.heap.size w w2∧∀b,tg2 b≠0→w.heap.size≤b):=⟨c2.below HB1.out.1 HB1.out.1.size HB1.out.2,fun b q=>by rcases n2 b q with c | c;exact HB1.out.2 b c;exact Nat.le_trans HB1.out.1.size c⟩
 have km2:=make_hit h2 0 (objW 0) (by omega) (by omega) HOW.out.1.1 HOW.out.1.2 (by unfold mayB;rw[oiP1];simp) (by decide)
 rw[mkP2,show objW (HP1.obs.length:Int)=objW 1 from rfl] at km2
 clear km c2 n2 h2 HB1
 generalize hw0:objW 0=ow at *
 generalize hw1:objW 1=ow1 at *
 have HWE:Hid (objW 0=ow∧objW 1=ow1):=⟨hw0,hw1⟩
 clear hw0 hw1
 go_wp2_with fail
 refine km2.mono ?_
 rintro e w3 ⟨rfl,M3,tg3,h3,c3,n3⟩
 have HB3:Hid (Below w.heap.size w w3∧∀b,tg3 b≠0→w.heap.size≤b):=⟨c3.below HB2.out.1 HB2.out.1.size HB2.out.2,fun b q=>by rcases n3 b q with c | c;exact HB2.out.2 b c;exact Nat.le_trans HB2.out.1.size c⟩
 have kas:=assign_at h3 (HFP.out.below HB3.out.1) gdP2 (by decide) ow HOW.out.1.1 HOW.out.1.2 keyA HKZ.out (intW 3) HOW.out.2.2 1 (by rw[←HWE.out.1];exact enP2)
 rw[show asgP HP2 ow keyA (intW 3) 1=(undW,0,HP3) from by rw[←HWE.out.1];exact asP] at kas
 simp only at kas
 unfold keyA undW at kas
 generalize hiw:intW 3=iw at *
 have HIW:Hid (intW 3=iw):=hiw
 clear km2 c3 n3 h3 HB2 hiw
 go_wp2_with fail
 refine(ki _).mono ?_
 rintro e w3' ⟨rfl,rfl⟩
 go_wp2_with fail
 refine kas.mono ?_
 rintro e w4 ⟨rfl,M4,tg4,h4,c4,n4⟩
 have HB4:Hid (Below w.heap.size w w4∧∀b,tg4 b≠0→w.heap.size≤b):=⟨c4.below HB3.out.1 HB3.out.1.size HB3.out.2,fun b q=>by rcases n4 b q with c | c;exact HB3.out.2 b c;exact Nat.le_trans HB3.out.1.size c⟩
 have kl:=lookup_at h4 ntP3 ow1 HOW.out.2.1.1 HOW.out.2.1.2 keyA HKZ.out 2 (by rw[←HWE.out.2];exact enP3)
 rw[show lookF HP3 keyA 2 ow1=some (ow,⟨iw,undW,7⟩) from by rw[←HWE.out.2,←HWE.out.1,←HIW.out];exact lkP3] at kl
 simp only[Option.map_some,Option.getD_some,Option.isSome_some] at kl
 unfold keyA undW deV at kl
 simp only at kl
 clear kas c4 n4 h4 HB3
 go_wp2_with fail
 refine kl.mono ?_
 rintro e w5 ⟨rfl,hB5⟩
 have hB6:Below w5.heap.size w5 (w5.alloc (.cells #[.int .u64 iw,.int .u64 18445336698825998336,.int .i64 7] 41)):=(Below.refl _ _).alloc (Nat.le_refl _) _
 have b0:=box_new w5 #[.int .u64 iw,.int .u64 18445336698825998336,.int .i64 7] 41 0 _ rfl
 have b2:=box_new w5 #[.int .u64 iw,.int .u64 18445336698825998336,.int .i64 7] 41 2 _ rfl
 have HB6:Hid (Below w.heap.size w (w5.alloc (.cells #[.int .u64 iw,.int .u64 18445336698825998336,.int .i64 7] 41))):=bel_sm (bel_sm HB4.out.1 hB5) hB6
 have hww:(ow == ow)=true:=by simp
 have hii:(iw == iw)=true:=by simp
 clear kl hB5 hB6 HB4
 go_upto_region 8 with fail
 generalize w5.alloc (.cells #[.int .u64 iw,.int .u64 18445336698825998336,.int .i64 7] 41)=w6 at *
 go_quiet ((go_at_call 32;refine Calls.quiet_of_same (ki _)))
 go_wp2_with fail
 go_ret
 exact⟨rfl,⟨HB6.out.os,HB6.out.tape,HB6.out.output,HB6.out.size,HB6.out.block⟩⟩
section
variable {w0 w:World}{X:Nat→Prop}{hb:Nat}{H:He}{S:List So}{vo vt:SV}{ts:List ByteArray}{n:Nat}
theorem pstep_any (h:TwoE w0 w X hb H S vo vt ts)(hO:OrP H S ts n)(hT:TbAt w)(hn:n≤1999999999999)(a:OpP)(ha:a.wf) :
  Calls Tryz.prog 10 #[.pointer (some ⟨hb,0,none⟩),stV vo vt,a.val] w fun e w'=>∃vo',e = .returned (.tuple #[stV vo' vt,.bool true])∧TwoK w0 w w' X hb (pH H a) (pS S a) vo' vt ts:=by
 rcases kindsP a.kd with k | k | k | k | k | k | k | k | k
 ·exact pstep_0 h hO hT hn a k ha
 ·exact pstep_1 h hO hT hn a k ha
 ·exact pstep_2 h hO hT hn a k ha
 ·exact pstep_3 h hO hT hn a k ha
 ·exact pstep_4 h hO hT hn a k ha
 ·exact pstep_5 h hO hT hn a k ha
 ·exact pstep_6 h hO hT hn a k ha
 ·exact pstep_8 h hO hT hn a k ha
 ·exact pstep_no h hO hT hn a k ha
end
structure LawP (w wr:World)(X:Nat→Prop)(hb bs:Nat)(H:He)(S:List So)(vo:SV)(n:Nat):Prop where
 two:TwoE w wr X hb H S vo .nil []
 bx:X bs
 box:BxS wr bs vo .nil
 ord:OrP H S [] n
 lo:w.heap.size≤bs
 tb:TbAt w
section
variable {w wr w':World}{X Y:Nat→Prop}{hb bs:Nat}{H:He}{S:List So}{vo:SV}{n:Nat}
theorem LawP.start {w1:World}{O:Nat→Prop}{m:Int}(hT:TbAt w)(h:Heap w1 w.heap.size hb O (He.new m))(hB:Below w.heap.size w w1):LawP w (w1.alloc (.cells #[.slice none 0 0,.slice none 0 0] 28)) (fun b=>b=w1.heap.size) hb w1.heap.size (He.new m) [] .nil 0:=by
 obtain⟨tg,M,h,_⟩:=h
 have hal:Below w1.heap.size w1 (w1.alloc (.cells #[.slice none 0 0,.slice none 0 0] 28)):=(Below.refl _ _).alloc (Nat.le_refl _) _
 refine⟨⟨tg,fun _=>0,M,[],h.below hal,StAt.nil _ _,OwnR.nil _ _,fun b _=>rfl,fun b q=>by simp[SV.nil,SV.val,Value.ownBlock] at q,fun b q=>⟨?_,rfl,fun r=>by simp[SV.nil,SV.val,Value.ownBlock] at r,?_⟩,hB.trans (hal.mono hB.size)⟩,rfl,BxS.new w1 .nil .nil,OrP.start m,hB.size,hT⟩
 ·rw[show b=w1.heap.size from q]
  rcases Nat.eq_zero_or_pos (tg w1.heap.size) with e | e
  ·exact e
  ·have:=(h.lt _ (by omega:tg w1.heap.size≠0)).2
   omega
 ·rw[show b=w1.heap.size from q]
  have:=size_new w1 (.cells #[.slice none 0 0,.slice none 0 0] 28)
  omega
theorem LawP.below (h:LawP w wr X hb bs H S vo n)(hB:Below wr.heap.size wr w'):LawP w w' X hb bs H S vo n :=
 ⟨h.two.below hB,h.bx,h.box.below hB,h.ord,h.lo,h.tb⟩
theorem LawP.more (h:LawP w wr X hb bs H S vo n)(hB:Below wr.heap.size wr w'):LawP w w' (fun b=>X b∨(wr.heap.size≤b∧b<w'.heap.size)) hb bs H S vo n :=
 ⟨h.two.box hB,Or.inl h.bx,h.box.below hB,h.ord,h.lo,h.tb⟩
theorem LawP.less (h:LawP w wr X hb bs H S vo n)(hs:∀b,Y b→X b)(hy:Y bs):LawP w wr Y hb bs H S vo n :=
 ⟨h.two.mono hs,hy,h.box,h.ord,h.lo,h.tb⟩
theorem LawP.new (h:LawP w wr X hb bs H S vo n)(o:Obj):LawP w (wr.alloc o) (fun b=>X b∨b=wr.heap.size) hb bs H S vo n :=
 (h.more ((Below.refl _ _).alloc (Nat.le_refl _) o)).less (fun b q=>q.imp id (fun e=>⟨by omega,by rw[size_new];omega⟩)) (Or.inl h.bx)
theorem LawP.most (h:LawP w wr X hb bs H S vo n):H.most≤256:=h.two.wf.mo
theorem LawP.tbr (h:LawP w wr X hb bs H S vo n):TbAt wr:=h.tb.below h.two.bel
theorem LawP.ne (h:LawP w wr X hb bs H S vo n):¬X wr.heap.size:=fun q=>by have:=h.two.lt q;omega
theorem LawP.step (h:LawP w wr X hb bs H S vo n)(hn:n≤1999999999999)(a:OpP)(ha:a.wf) :
  Calls Tryz.prog 10 #[.pointer (some ⟨hb,0,none⟩),stV vo .nil,a.val] wr fun e w'=>∃vo',e = .returned (.tuple #[stV vo' .nil,.bool true])∧BxS w' bs vo .nil∧LawP w ((w'.setCell ⟨bs,0,none⟩ vo'.val).setCell ⟨bs,1,none⟩ SV.nil.val) X hb bs (pH H a) (pS S a) vo' (n+1)∧∀b,X b→b≠bs→((w'.setCell ⟨bs,0,none⟩ vo'.val).setCell ⟨bs,1,none⟩ SV.nil.val).heap[b]?=wr.heap[b]?:=by
 refine(pstep_any h.two h.ord h.tbr hn a ha).mono ?_
 rintro e w' ⟨vo',rfl,hk⟩
 have hbx:BxS w' bs vo .nil:=(hk.kp bs h.bx).trans h.box
 have z0:=heap_setCell_same _ bs 0 _ _ vo'.val hbx
 have z1:=heap_setCell_same _ bs 1 _ _ SV.nil.val z0
 refine⟨vo',rfl,hbx,⟨(hk.two.set (b:=bs) h.bx h.lo 0 _).set (b:=bs) h.bx h.lo 1 _,h.bx,z1,h.ord.step h.most a,h.lo,h.tb⟩,fun b q r => ?_⟩
 rw[heap_other _ _ _ (show b≠bs from r),heap_other _ _ _ (show b≠bs from r)]
 exact hk.kp b q
theorem LawP.len (h:LawP w wr X hb bs H S vo n):vo.len=S.length∧S.length≤65536:=by
 obtain⟨tgH,tgS,M,qs,h⟩:=h.two
 obtain⟨ad,cap,e,_,_⟩:=h.st.vol
 exact⟨by rw[e],h.st.big⟩
theorem pproto_e (h:LawP w wr X hb bs H S vo n)(o:Int)(o0:0≤o)(o1:o<18446744073709551616) :
  Calls Tryz.prog 23 #[.pointer (some ⟨hb,0,none⟩),.int .u64 o] wr fun e w'=>e = .returned (.int .u64 (upH H o))∧w'=wr:=by
 obtain⟨tgH,tgS,M,qs,h⟩:=h.two
 exact proto_any h.hp o o0 o1
theorem upH_rng (hw:H.wf)(o:Int):0≤upH H o∧upH H o<18446744073709551616:=by
 unfold upH
 cases hq:obO H o with
 | none=>exact⟨by show(0:Int)≤nulW;decide,by show nulW<18446744073709551616;decide⟩
 | some ob =>
   obtain⟨i,_,hi⟩:=obO_some hq
   exact(hw.ob ob (List.mem_of_getElem? hi)).pr
end
def opP (a:OpP):List Value:=[.int .i64 a.kd,.int .u64 a.o,.int .u64 a.p,.string a.k,.int .i64 a.u.has,.int .u64 a.u.va,.int .u64 a.u.ge,.int .u64 a.u.se,.int .i64 a.u.fl,.int .u64 a.v,.int .i64 a.n]
end Go.Proofs.YtahhionlbfhinaaGreatDoor.Hp
namespace Go.Proofs.YtahhionlbfhinaaGreatDoor.Hp
open Go.RowKit Go.ChangeShapes Go.WideShapes
theorem cells_of_pairs {H:Type}{enc:TypeId×Value→H}{W:World}{base:Nat}{sp:Nat→Bool}{held:Bool}{fuel:Nat}{cs:List Value}{p:List MemPlace}
  (h:DataW.trod enc Tryz.prog W base sp held fuel 159 cs=some (Rows.laid_brazier_props_flagPairs,p)):cs=[.int .i64 2,.int .i64 1,.int .i64 4,.int .i64 2,.int .i64 8,.int .i64 4]:=by
 have c1:Tryz.prog.cellsOf 158=2:=by kernel_rfl
 have c2:Tryz.prog.cellsOf 159=6:=by kernel_rfl
 unfold Rows.laid_brazier_props_flagPairs at h
 cases fuel with
 | zero=>simp[DataW.trod] at h
 | succ fuel =>
   simp only[DataW.trod,Tryz.underlying159,c1,c2] at h
   split at h
   ·rename_i hl
    obtain⟨xs,hm,hx⟩:=Option.map_eq_some_iff.1 h
    have hf:xs.map (·.1)=[.agg [.lit (.int .i64 2),.lit (.int .i64 1)],.agg [.lit (.int .i64 4),.lit (.int .i64 2)],.agg [.lit (.int .i64 8),.lit (.int .i64 4)]]:=by simpa using congrArg Prod.fst hx
    have part:∀(i:Nat) (a b:Int),i<3→(xs.map (·.1))[i]?=some (DataW.agg [.lit (.int .i64 a),.lit (.int .i64 b)]:DataW H)→(cs.drop (i*2)).take 2=[.int .i64 a,.int .i64 b]:=fun i a b hi he=>by
     obtain⟨x,hb,hk⟩:=Go.Lib.mapM_at hm i i (by simp[hi])
     rw[List.getElem?_map,hb] at he
     have he:=Option.some.inj he
     obtain⟨x1,x2⟩:=x
     simp only at he
     subst he
     exact Lib.cells_of_tab (zs:=[a,b]) Tryz.underlying158 Tryz.underlying3 (by kernel_rfl) (by kernel_rfl) hk
    have p0:=part 0 2 1 (by omega) (by rw[hf];rfl)
    have p1:=part 1 4 2 (by omega) (by rw[hf];rfl)
    have p2:=part 2 8 4 (by omega) (by rw[hf];rfl)
    match cs,hl,p0,p1,p2 with
    | [a,b,c,d,e,f],_,p0,p1,p2 =>
      simp at p0 p1 p2
      obtain⟨rfl,rfl⟩:=p0
      obtain⟨rfl,rfl⟩:=p1
      obtain⟨rfl,rfl⟩:=p2
      rfl
   ·cases h
theorem fp_of {W : World} (h : laidMetH Tryz.prog [("brazier/props.flagPairs", Rows.laid_brazier_props_flagPairs)] W) : FpAt W := by
 rw[MakeChecks.laidMetH_plain _ _ _ (by kernel_rfl)] at h
 obtain⟨ps,⟨g0,t0,cs0,f0,p0,q0,hg0,ht0,hv0,hd0,_,_⟩,_⟩:=h
 obtain rfl := Option.some.inj ((show Tryz.prog.globalNamed "brazier/props.flagPairs" = some 0 by kernel_rfl).symm.trans hg0)
 obtain rfl:=Option.some.inj ((show(Tryz.prog.globals[0]?).map (·.type)=some 159 by kernel_rfl).symm.trans ht0)
 have e:=cells_of_pairs hd0
 unfold World.var? at hv0
 rw [show Tryz.prog.globalNamed "brazier/props.flagPairs" = some 0 by kernel_rfl] at hv0
 simp only[Option.bind_some] at hv0
 split at hv0
 ·rename_i c t fr hh
  simp at hv0
  subst hv0
  refine⟨t,fr,?_⟩
  rw[hh]
  congr 2
  rw[←e]
 ·simp at hv0
section
variable {H:Type}{enc:TypeId×Value→H}{w:World}{base:Nat}{spare:Nat→Bool}{held:Bool}
theorem open_wsx {n:Nat}{cs:List Value}{x:DataW H×List MemPlace}(h:DataW.trod enc Tryz.prog w base spare held n 35 cs=some x):∃u:Ws,cs=[.int .i64 u.has,.int .u64 u.va,.int .u64 u.ge,.int .u64 u.se,.int .i64 u.fl]∧u.ok∧6≤Rows.uptoBulk x.1:=by
 obtain⟨xs,k,hk,hxy,hlen,hxl,hf⟩:=DataW.trod_struct Tryz.underlying35 h
 rw[show Tryz.prog.cellsOf 35=5 by kernel_rfl] at hlen
 have hxl:xs.length=5:=hxl
 match cs,hlen,xs,hxl with
 | [v0,v1,v2,v3,v4],_,[y0,y1,y2,y3,y4],_ =>
   have g0:DataW.trod enc Tryz.prog w base spare held k 3 [v0]=some y0:=hf 0 _ rfl
   obtain⟨a0,e0,_⟩:=open_int g0
   obtain rfl:v0=_:=by simpa using e0
   have g1:DataW.trod enc Tryz.prog w base spare held k 33 [v1]=some y1:=hf 1 _ rfl
   obtain⟨a1,e1,w1⟩:=open_word g1
   obtain rfl:v1=_:=by simpa using e1
   have g2:DataW.trod enc Tryz.prog w base spare held k 33 [v2]=some y2:=hf 2 _ rfl
   obtain⟨a2,e2,w2⟩:=open_word g2
   obtain rfl:v2=_:=by simpa using e2
   have g3:DataW.trod enc Tryz.prog w base spare held k 33 [v3]=some y3:=hf 3 _ rfl
   obtain⟨a3,e3,w3⟩:=open_word g3
   obtain rfl:v3=_:=by simpa using e3
   have g4:DataW.trod enc Tryz.prog w base spare held k 3 [v4]=some y4:=hf 4 _ rfl
   obtain⟨a4,e4,_⟩:=open_int g4
   obtain rfl:v4=_:=by simpa using e4
   refine⟨⟨a0,a1,a2,a3,a4⟩,rfl,⟨w1,w2⟩,?_⟩
   rw[hxy]
   have b0:=some_bulk y0.1
   have b1:=some_bulk y1.1
   have b2:=some_bulk y2.1
   have b3:=some_bulk y3.1
   have b4:=some_bulk y4.1
   simp only[List.map_cons,List.map_nil,Rows.uptoBulk,Rows.uptoBulkAll]
   omega
theorem open_pop {n:Nat}{cs:List Value}{x:DataW H×List MemPlace}(h:DataW.trod enc Tryz.prog w base spare held n 37 cs=some x):∃a:OpP,cs=opP a∧a.wf∧11≤Rows.uptoBulk x.1:=by
 obtain⟨xs,k,hk,hxy,hlen,hxl,hf⟩:=DataW.trod_struct Tryz.underlying37 h
 rw[show Tryz.prog.cellsOf 37=11 by kernel_rfl] at hlen
 have hxl:xs.length=7:=hxl
 match cs,hlen,xs,hxl with
 | [v0,v1,v2,v3,v4,v5,v6,v7,v8,v9,v10],_,[y0,y1,y2,y3,y4,y5,y6],_ =>
   have g0:DataW.trod enc Tryz.prog w base spare held k 3 [v0]=some y0:=hf 0 _ rfl
   obtain⟨a0,e0,_⟩:=open_int g0
   obtain rfl:v0=_:=by simpa using e0
   have g1:DataW.trod enc Tryz.prog w base spare held k 33 [v1]=some y1:=hf 1 _ rfl
   obtain⟨a1,e1,w1⟩:=open_word g1
   obtain rfl:v1=_:=by simpa using e1
   have g2:DataW.trod enc Tryz.prog w base spare held k 33 [v2]=some y2:=hf 2 _ rfl
   obtain⟨a2,e2,w2⟩:=open_word g2
   obtain rfl:v2=_:=by simpa using e2
   have g3:DataW.trod enc Tryz.prog w base spare held k 9 [v3]=some y3:=hf 3 _ rfl
   obtain⟨a3,e3,w3⟩:=open_str g3
   obtain rfl:v3=_:=by simpa using e3
   have g4:DataW.trod enc Tryz.prog w base spare held k 35 [v4,v5,v6,v7,v8]=some y4:=hf 4 _ rfl
   obtain⟨u,e4,hu,b4⟩:=open_wsx g4
   obtain⟨rfl,rfl,rfl,rfl,rfl⟩:v4 = .int .i64 u.has∧v5 = .int .u64 u.va∧v6 = .int .u64 u.ge∧v7 = .int .u64 u.se∧v8 = .int .i64 u.fl:=by simpa using e4
   have g5:DataW.trod enc Tryz.prog w base spare held k 33 [v9]=some y5:=hf 5 _ rfl
   obtain⟨a5,e5,w5⟩:=open_word g5
   obtain rfl:v9=_:=by simpa using e5
   have g6:DataW.trod enc Tryz.prog w base spare held k 3 [v10]=some y6:=hf 6 _ rfl
   obtain⟨a6,e6,_⟩:=open_int g6
   obtain rfl:v10=_:=by simpa using e6
   refine⟨⟨a0,a1,a2,a3,u,a5,a6⟩,rfl,⟨w1.1,w1.2,w2.1,w2.2,w3,hu,w5⟩,?_⟩
   rw[hxy]
   have b0:=some_bulk y0.1
   have b1:=some_bulk y1.1
   have b2:=some_bulk y2.1
   have b3:=some_bulk y3.1
   have b5:=some_bulk y5.1
   have b6:=some_bulk y6.1
   simp only[List.map_cons,List.map_nil,Rows.uptoBulk,Rows.uptoBulkAll]
   omega
theorem open_pops {n:Nat}{cs:List Value}{x:DataW H×List MemPlace}(h:DataW.trod enc Tryz.prog w base spare held n 22 cs=some x) :
  ∃s:Sli OpP,cs=[s.val]∧s.ok opP 11 w∧(∀a∈s.xs,a.wf)∧11*s.xs.length≤Rows.uptoBulk x.1:=by
 obtain⟨s,e1,e2,e3,e4⟩:=open_slx (c:=11) opP (fun a d=>a.wf∧11≤Rows.uptoBulk d) Tryz.underlying22 (show Tryz.prog.cellsOf 37=11 by kernel_rfl) (by omega) (fun _=>rfl) (fun n cs' x' h=>open_pop h) (fun y d g=>g.2) h
 refine⟨s,e1,e2,fun a ha => ?_,e4⟩
 obtain⟨d,g,_⟩:=e3 a ha
 exact g.1
end
theorem gPow : Tryz.prog.globalNamed "internal/strconv.uint64pow10" = some 2 := by kernel_rfl
theorem gPowT:(Tryz.prog.globals[2]?).map (·.type)=some 202:=by kernel_rfl
theorem cPow:Tryz.prog.cellsOf 202=20:=by kernel_rfl
theorem cU64:Tryz.prog.cellsOf 32=1:=by kernel_rfl
theorem laid_tail {P:Program}{x:String×DataW Unit}{l:List (String×DataW Unit)}{w:World}(h:laidMet P (x :: l) w):laidMet P l w:=by
 obtain⟨ps,⟨g,t,cs,fuel,p,q,h1,h2,h3,h4,h5,rfl⟩,hn,hc⟩:=h
 exact⟨q,h5,(List.nodup_append.1 hn).2.1,fun b off hb=>hc b off (List.mem_append_right _ hb)⟩
theorem tb_of {W : World} (h : laidMetH Tryz.prog [("math/bits.deBruijn32tab", Rows.laid_math_bits_deBruijn32tab), ("math/bits.deBruijn64tab", Rows.laid_math_bits_deBruijn64tab), ("internal/strconv.uint64pow10", Rows.laid_internal_strconv_uint64pow10), ("brazier/props.flagPairs", Rows.laid_brazier_props_flagPairs)] W) : TbAt W := by
 rw[MakeChecks.laidMetH_plain _ _ _ (by kernel_rfl)] at h
 have h3:=laid_tail (laid_tail h)
 have h4:=laid_tail h3
 refine⟨fp_of ?_,?_⟩
 ·rw[MakeChecks.laidMetH_plain _ _ _ (by kernel_rfl)]
  exact h4
 ·exact Lib.tabIs_of_head (rest:=_) gPow gPowT Tryz.underlying202 Tryz.underlying32 cU64 cPow h3
end Go.Proofs.YtahhionlbfhinaaGreatDoor.Hp
