/- XP, XI, XJ, XK, KS, KT -/
import Derived.Test.YtahhionlbfhinabGreatDoorB37
import Derived.Test.YtahhionlbfhinabGreatDoorXH
import Derived.Test.YtahhionlbfhinabGreatDoorB31
import Derived.Test.YtahhionlbfhinabGreatDoorB8
import Derived.Deep.QuietTactic
set_option linter.unusedVariables false
set_option linter.unusedSimpArgs false
set_option maxRecDepth 100000
set_option maxHeartbeats 40000000
namespace Go.Proofs.YtahhionlbfhinabGreatDoor.Hp
open Go.RowKit
section
variable {H:He}{S:List So}{ts:List ByteArray}{o:Int}{k:ByteArray}{i:Nat}{ob:Ob}{x:So}{d:De}{n:Nat}
theorem OrP.own (h:OrP H S ts n)(o:Int)(k:ByteArray):ownH H o k=(soO S o).bind (fun x=>ownS x k):=(h.rel.toH h.ix).own o k
theorem OrP.look (h:OrP H S ts n)(o:Int)(k:ByteArray):lookF H k H.obs.length o=lookS S k (S.length+1) o:=by
 rw[look_ends (k:=k) H.obs.length (S.length+1) o (h.inv.acy o) (by rw[h.rel.len];omega)]
 exact(h.rel.toH h.ix).look k _ o
end
section
variable {w0 w W W':World}{X:Nat→Prop}{hb:Nat}{H H':He}{S S':List So}{vo vo' vt vt':SV}{ts ts':List ByteArray}{n:Nat}
theorem pstep_5 (h:TwoE w0 w X hb H S vo vt ts)(hO:OrP H S ts n)(hT:TbAt w)(hn:n≤1999999999999)(a:OpP)(hk:a.kd=5)(ha:a.wf) :
  Calls Tryz.prog 13 #[.pointer (some ⟨hb,0,none⟩),stV vo vt,a.val] w fun e w'=>∃vo',e = .returned (.tuple #[stV vo' vt,.bool true])∧TwoK w0 w w' X hb (pH H a) (pS S a) vo' vt ts:=by
 obtain⟨kd,oo,op,kk,⟨has,va,ge,se,fl⟩,vv,nn⟩:=a
 obtain rfl:kd=5:=hk
 have HO:Hid (OrP H S ts n):=hO
 have hwf:=h.wf
 have hmo:H.most≤256:=hwf.mo
 have eH:pH H ⟨5,oo,op,kk,⟨has,va,ge,se,fl⟩,vv,nn⟩=H:=pH_5 rfl
 have eS:pS S ⟨5,oo,op,kk,⟨has,va,ge,se,fl⟩,vv,nn⟩=S:=pS_5 rfl
 rw[eH,eS]
 have kp:=fun W (h:TwoE w0 W (XbP w X) hb H S vo vt ts)=>pown_e h HO.out oo ha.o0 ha.o1 kk ha.kl
 have kq:=fun W (h:TwoE w0 W (XbP w X) hb H S vo vt ts)=>rown_e h HO.out hwf oo ha.o0 ha.o1 kk ha.kl
 rw[hO.own oo kk] at kp
 generalize ((soO S oo).bind (fun x=>ownS x kk)).getD zDe=d at *
 generalize ((soO S oo).bind (fun x=>ownS x kk)).isSome=rb at *
 have hrr:(rb == rb)=true:=beq_self_eq_true rb
 obtain⟨oa,ol,oc⟩:=vo
 obtain⟨ta,tl,tc⟩:=vt
 have hst:OnP w0 w (((w.alloc (.cells #[.slice oa ol oc,.slice ta tl tc] 33)).alloc (.cells #[.int .i64 5,.int .u64 oo,.int .u64 op,.string kk,.int .i64 has,.int .u64 va,.int .u64 ge,.int .u64 se,.int .i64 fl,.int .u64 vv,.int .i64 nn] 28)).alloc (.cells #[.slice none 0 0,.slice none 0 0] 33)) X hb H S ⟨oa,ol,oc⟩ ⟨ta,tl,tc⟩ ts ⟨oa,ol,oc⟩ ⟨ta,tl,tc⟩ #[.int .i64 5,.int .u64 oo,.int .u64 op,.string kk,.int .i64 has,.int .u64 va,.int .u64 ge,.int .u64 se,.int .i64 fl,.int .u64 vv,.int .i64 nn] .nil .nil:=OnP.start h _
 have htb:TbAt (((w.alloc (.cells #[.slice oa ol oc,.slice ta tl tc] 33)).alloc (.cells #[.int .i64 5,.int .u64 oo,.int .u64 op,.string kk,.int .i64 has,.int .u64 va,.int .u64 ge,.int .u64 se,.int .i64 fl,.int .u64 vv,.int .i64 nn] 28)).alloc (.cells #[.slice none 0 0,.slice none 0 0] 33)):=hT.below (B3 w _ _ _)
 obtain⟨wb,hwb⟩:∃wb,wb=(((w.alloc (.cells #[.slice oa ol oc,.slice ta tl tc] 33)).alloc (.cells #[.int .i64 5,.int .u64 oo,.int .u64 op,.string kk,.int .i64 has,.int .u64 va,.int .u64 ge,.int .u64 se,.int .i64 fl,.int .u64 vv,.int .i64 nn] 28)).alloc (.cells #[.slice none 0 0,.slice none 0 0] 33)):=⟨_,rfl⟩
 rw[←hwb] at hst htb
 have HS:=(show Hid _ from hst)
 have kp:=kp wb hst.two
 unfold deV at kp kq
 have ce0:wb.cell? ⟨w.heap.size,0,none⟩=some (.slice oa ol oc):=hst.s.ce.1
 have ce1:wb.cell? ⟨w.heap.size,1,none⟩=some (.slice ta tl tc):=hst.s.ce.2
 have cf0:=hst.s.fz.1
 have cf1:=hst.s.fz.2
 have cr0:wb.cell? ⟨w.heap.size+1+1,0,none⟩=some (.slice none 0 0):=hst.r.ce.1
 have cr1:wb.cell? ⟨w.heap.size+1+1,1,none⟩=some (.slice none 0 0):=hst.r.ce.2
 have cg0:=hst.r.fz.1
 have cg1:=hst.r.fz.2
 have q0:=hst.oc 0 rfl
 have q1:=hst.oc 1 rfl
 have q3:=hst.oc 3 rfl
 unfold stV OpP.val OpP.cells
 unfold stV at kq
 simp only at kp kq ⊢
 rw[show(SV.mk oa ol oc).val = .slice oa ol oc from rfl,show(SV.mk ta tl tc).val = .slice ta tl tc from rfl] at kq ⊢
 clear h hO hst hwf hmo eH eS ha hT htb
 go_enter Tryz.func13,Tryz.ntmps13
 go_upto_region 1 with fail
 rw[←hwb]
 clear hwb
 go_wp2_with fail
 refine kp.mono ?_
 rintro e w2 ⟨rfl,hk2⟩
 clear kp ce0 ce1 cf0 cf1 cr0 cr1 cg0 cg1 q0 q1 q3
 have h2:=(HS.out.same hk2).same (W':=(w2.alloc (.cells #[.int .u64 d.va,.int .u64 d.se,.int .i64 d.fl] 39))) ((Below.refl _ _).alloc (Nat.le_refl _) _)
 have HS2:=(show Hid _ from h2)
 have HX2:Hid (Bx3 (w2.alloc (.cells #[.int .u64 d.va,.int .u64 d.se,.int .i64 d.fl] 39)) w2.heap.size d∧w.heap.size+2<w2.heap.size):=⟨Bx3.box w2 d,by have:=(HS.out.same hk2).r.lt;show _<_;omega⟩
 have kq:=kq _ h2.two
 have ce0:(w2.alloc (.cells #[.int .u64 d.va,.int .u64 d.se,.int .i64 d.fl] 39)).cell? ⟨w.heap.size,0,none⟩=some (.slice oa ol oc):=h2.s.ce.1
 have ce1:(w2.alloc (.cells #[.int .u64 d.va,.int .u64 d.se,.int .i64 d.fl] 39)).cell? ⟨w.heap.size,1,none⟩=some (.slice ta tl tc):=h2.s.ce.2
 have cf0:=h2.s.fz.1
 have cf1:=h2.s.fz.2
 have cr0:(w2.alloc (.cells #[.int .u64 d.va,.int .u64 d.se,.int .i64 d.fl] 39)).cell? ⟨w.heap.size+1+1,0,none⟩=some (.slice none 0 0):=h2.r.ce.1
 have cr1:(w2.alloc (.cells #[.int .u64 d.va,.int .u64 d.se,.int .i64 d.fl] 39)).cell? ⟨w.heap.size+1+1,1,none⟩=some (.slice none 0 0):=h2.r.ce.2
 have cg0:=h2.r.fz.1
 have cg1:=h2.r.fz.2
 have q0:=h2.oc 0 rfl
 have q1:=h2.oc 1 rfl
 have q3:=h2.oc 3 rfl
 clear HS hk2 h2
 go_upto_region 24 with fail
 generalize (w2.alloc (.cells #[.int .u64 d.va,.int .u64 d.se,.int .i64 d.fl] 39))=w2a at *
 generalize w2.heap.size=b2 at *
 go_wp2_with fail
 refine kq.mono ?_
 rintro e w3 ⟨rfl,hk3⟩
 clear kq ce0 ce1 cf0 cf1 cr0 cr1 cg0 cg1 q0 q1 q3
 have h3:=(HS2.out.same hk3).same (W':=(w3.alloc (.cells #[.int .u64 d.va,.int .u64 d.se,.int .i64 d.fl] 39))) ((Below.refl _ _).alloc (Nat.le_refl _) _)
 have HY2:Hid (Bx3 (w3.alloc (.cells #[.int .u64 d.va,.int .u64 d.se,.int .i64 d.fl] 39)) b2 d∧w.heap.size+2<b2):=⟨(HX2.out.1.below hk3).below ((Below.refl _ _).alloc (Nat.le_refl _) _),HX2.out.2⟩
 have HY3:Hid (Bx3 (w3.alloc (.cells #[.int .u64 d.va,.int .u64 d.se,.int .i64 d.fl] 39)) w3.heap.size d∧w.heap.size+2<w3.heap.size):=⟨Bx3.box w3 d,by have:=(HS2.out.same hk3).r.lt;show _<_;omega⟩
 have HS3:=(show Hid _ from h3)
 clear HS2 hk3 h3 HX2
 go_upto_region 25 with fail
 generalize (w3.alloc (.cells #[.int .u64 d.va,.int .u64 d.se,.int .i64 d.fl] 39))=w4 at *
 generalize w3.heap.size=b3 at *
 have h3:=HS3.out
 have ce0:w4.cell? ⟨w.heap.size,0,none⟩=some (.slice oa ol oc):=h3.s.ce.1
 have ce1:w4.cell? ⟨w.heap.size,1,none⟩=some (.slice ta tl tc):=h3.s.ce.2
 have cf0:=h3.s.fz.1
 have cf1:=h3.s.fz.2
 have cr0:w4.cell? ⟨w.heap.size+1+1,0,none⟩=some (.slice none 0 0):=h3.r.ce.1
 have cr1:w4.cell? ⟨w.heap.size+1+1,1,none⟩=some (.slice none 0 0):=h3.r.ce.2
 have cg0:=h3.r.fz.1
 have cg1:=h3.r.fz.2
 obtain⟨x0,x1,x2⟩:=HY2.out.1.ce
 obtain⟨z0,z1,z2⟩:=HY3.out.1.ce
 have h5:=h3.set2 ⟨oa,ol,oc⟩ ⟨ta,tl,tc⟩
 have HF:=(show Hid _ from And.intro h5.r (h5.same (W':=World.drew _) ((Below.refl _ _).drew)).fin)
 rw[show(SV.mk oa ol oc).val = .slice oa ol oc from rfl,show(SV.mk ta tl tc).val = .slice ta tl tc from rfl] at HF
 have o2:((w4.setCell ⟨w.heap.size+1+1,0,none⟩ (.slice oa ol oc)).setCell ⟨w.heap.size+1+1,1,none⟩ (.slice ta tl tc)).heap[b2]?=w4.heap[b2]?:=by
  have hl:=HY2.out.2
  rw[heap_other _ _ _ (show b2≠w.heap.size+1+1 by omega),heap_other _ _ _ (show b2≠w.heap.size+1+1 by omega)]
 have o3:((w4.setCell ⟨w.heap.size+1+1,0,none⟩ (.slice oa ol oc)).setCell ⟨w.heap.size+1+1,1,none⟩ (.slice ta tl tc)).heap[b3]?=w4.heap[b3]?:=by
  have hl:=HY3.out.2
  rw[heap_other _ _ _ (show b3≠w.heap.size+1+1 by omega),heap_other _ _ _ (show b3≠w.heap.size+1+1 by omega)]
 obtain⟨xa,xb,xc⟩:=(show Bx3 _ b2 d from o2.trans HY2.out.1).ce
 obtain⟨za,zb,zc⟩:=(show Bx3 _ b3 d from o3.trans HY3.out.1).ce
 have hdd:(d.va == d.va)=true:=beq_self_eq_true _
 have hde:(d.se == d.se)=true:=beq_self_eq_true _
 have hdf:(d.fl == d.fl)=true:=beq_self_eq_true _
 clear HS3 h3 h5 HY2 HY3 o2 o3
 go_region
 all_goals
  go_wp2_with fail
  refine bodyPost_ret (res2 rfl _ _ (w.heap.size+1+1) 33 _ (0,0) _ rfl HF.out.1 Tryz.underlying33 rfl (by kernel_rfl)) rfl ?_
  exact⟨⟨oa,ol,oc⟩,rfl,HF.out.2⟩
theorem pstep_6 (h:TwoE w0 w X hb H S vo vt ts)(hO:OrP H S ts n)(hT:TbAt w)(hn:n≤1999999999999)(a:OpP)(hk:a.kd=6)(ha:a.wf) :
  Calls Tryz.prog 13 #[.pointer (some ⟨hb,0,none⟩),stV vo vt,a.val] w fun e w'=>∃vo',e = .returned (.tuple #[stV vo' vt,.bool true])∧TwoK w0 w w' X hb (pH H a) (pS S a) vo' vt ts:=by
 obtain⟨kd,oo,op,kk,⟨has,va,ge,se,fl⟩,vv,nn⟩:=a
 obtain rfl:kd=6:=hk
 have HO:Hid (OrP H S ts n):=hO
 have hwf:=h.wf
 have hmo:H.most≤256:=hwf.mo
 have eH:pH H ⟨6,oo,op,kk,⟨has,va,ge,se,fl⟩,vv,nn⟩=H:=pH_6 rfl
 have eS:pS S ⟨6,oo,op,kk,⟨has,va,ge,se,fl⟩,vv,nn⟩=S:=pS_6 rfl
 rw[eH,eS]
 have kp:=fun W (h:TwoE w0 W (XbP w X) hb H S vo vt ts)=>plook_e h HO.out oo ha.o0 ha.o1 kk ha.kl
 have kq:=fun W (h:TwoE w0 W (XbP w X) hb H S vo vt ts)=>rlook_e h HO.out hwf oo ha.o0 ha.o1 kk ha.kl
 rw[hO.look oo kk] at kp
 generalize ((lookS S kk (S.length+1) oo).map Prod.fst).getD undW=ra at *
 generalize ((lookS S kk (S.length+1) oo).map Prod.snd).getD zDe=d at *
 generalize (lookS S kk (S.length+1) oo).isSome=rb at *
 have hrr:(rb == rb)=true:=beq_self_eq_true rb
 have hnn:(ra == ra)=true:=beq_self_eq_true ra
 obtain⟨oa,ol,oc⟩:=vo
 obtain⟨ta,tl,tc⟩:=vt
 have hst:OnP w0 w (((w.alloc (.cells #[.slice oa ol oc,.slice ta tl tc] 33)).alloc (.cells #[.int .i64 6,.int .u64 oo,.int .u64 op,.string kk,.int .i64 has,.int .u64 va,.int .u64 ge,.int .u64 se,.int .i64 fl,.int .u64 vv,.int .i64 nn] 28)).alloc (.cells #[.slice none 0 0,.slice none 0 0] 33)) X hb H S ⟨oa,ol,oc⟩ ⟨ta,tl,tc⟩ ts ⟨oa,ol,oc⟩ ⟨ta,tl,tc⟩ #[.int .i64 6,.int .u64 oo,.int .u64 op,.string kk,.int .i64 has,.int .u64 va,.int .u64 ge,.int .u64 se,.int .i64 fl,.int .u64 vv,.int .i64 nn] .nil .nil:=OnP.start h _
 have htb:TbAt (((w.alloc (.cells #[.slice oa ol oc,.slice ta tl tc] 33)).alloc (.cells #[.int .i64 6,.int .u64 oo,.int .u64 op,.string kk,.int .i64 has,.int .u64 va,.int .u64 ge,.int .u64 se,.int .i64 fl,.int .u64 vv,.int .i64 nn] 28)).alloc (.cells #[.slice none 0 0,.slice none 0 0] 33)):=hT.below (B3 w _ _ _)
 obtain⟨wb,hwb⟩:∃wb,wb=(((w.alloc (.cells #[.slice oa ol oc,.slice ta tl tc] 33)).alloc (.cells #[.int .i64 6,.int .u64 oo,.int .u64 op,.string kk,.int .i64 has,.int .u64 va,.int .u64 ge,.int .u64 se,.int .i64 fl,.int .u64 vv,.int .i64 nn] 28)).alloc (.cells #[.slice none 0 0,.slice none 0 0] 33)):=⟨_,rfl⟩
 rw[←hwb] at hst htb
 have HS:=(show Hid _ from hst)
 have kp:=kp wb hst.two
 unfold deV at kp kq
 have ce0:wb.cell? ⟨w.heap.size,0,none⟩=some (.slice oa ol oc):=hst.s.ce.1
 have ce1:wb.cell? ⟨w.heap.size,1,none⟩=some (.slice ta tl tc):=hst.s.ce.2
 have cf0:=hst.s.fz.1
 have cf1:=hst.s.fz.2
 have cr0:wb.cell? ⟨w.heap.size+1+1,0,none⟩=some (.slice none 0 0):=hst.r.ce.1
 have cr1:wb.cell? ⟨w.heap.size+1+1,1,none⟩=some (.slice none 0 0):=hst.r.ce.2
 have cg0:=hst.r.fz.1
 have cg1:=hst.r.fz.2
 have q0:=hst.oc 0 rfl
 have q1:=hst.oc 1 rfl
 have q3:=hst.oc 3 rfl
 unfold stV OpP.val OpP.cells
 unfold stV at kq
 simp only at kp kq ⊢
 rw[show(SV.mk oa ol oc).val = .slice oa ol oc from rfl,show(SV.mk ta tl tc).val = .slice ta tl tc from rfl] at kq ⊢
 clear h hO hst hwf hmo eH eS ha hT htb
 go_enter Tryz.func13,Tryz.ntmps13
 go_upto_region 1 with fail
 rw[←hwb]
 clear hwb
 go_wp2_with fail
 refine kp.mono ?_
 rintro e w2 ⟨rfl,hk2⟩
 clear kp ce0 ce1 cf0 cf1 cr0 cr1 cg0 cg1 q0 q1 q3
 have h2:=(HS.out.same hk2).same (W':=(w2.alloc (.cells #[.int .u64 d.va,.int .u64 d.se,.int .i64 d.fl] 39))) ((Below.refl _ _).alloc (Nat.le_refl _) _)
 have HS2:=(show Hid _ from h2)
 have HX2:Hid (Bx3 (w2.alloc (.cells #[.int .u64 d.va,.int .u64 d.se,.int .i64 d.fl] 39)) w2.heap.size d∧w.heap.size+2<w2.heap.size):=⟨Bx3.box w2 d,by have:=(HS.out.same hk2).r.lt;show _<_;omega⟩
 have kq:=kq _ h2.two
 have ce0:(w2.alloc (.cells #[.int .u64 d.va,.int .u64 d.se,.int .i64 d.fl] 39)).cell? ⟨w.heap.size,0,none⟩=some (.slice oa ol oc):=h2.s.ce.1
 have ce1:(w2.alloc (.cells #[.int .u64 d.va,.int .u64 d.se,.int .i64 d.fl] 39)).cell? ⟨w.heap.size,1,none⟩=some (.slice ta tl tc):=h2.s.ce.2
 have cf0:=h2.s.fz.1
 have cf1:=h2.s.fz.2
 have cr0:(w2.alloc (.cells #[.int .u64 d.va,.int .u64 d.se,.int .i64 d.fl] 39)).cell? ⟨w.heap.size+1+1,0,none⟩=some (.slice none 0 0):=h2.r.ce.1
 have cr1:(w2.alloc (.cells #[.int .u64 d.va,.int .u64 d.se,.int .i64 d.fl] 39)).cell? ⟨w.heap.size+1+1,1,none⟩=some (.slice none 0 0):=h2.r.ce.2
 have cg0:=h2.r.fz.1
 have cg1:=h2.r.fz.2
 have q0:=h2.oc 0 rfl
 have q1:=h2.oc 1 rfl
 have q3:=h2.oc 3 rfl
 clear HS hk2 h2
 go_upto_region 28 with fail
 generalize (w2.alloc (.cells #[.int .u64 d.va,.int .u64 d.se,.int .i64 d.fl] 39))=w2a at *
 generalize w2.heap.size=b2 at *
 go_wp2_with fail
 refine kq.mono ?_
 rintro e w3 ⟨rfl,hk3⟩
 clear kq ce0 ce1 cf0 cf1 cr0 cr1 cg0 cg1 q0 q1 q3
 have h3:=(HS2.out.same hk3).same (W':=(w3.alloc (.cells #[.int .u64 d.va,.int .u64 d.se,.int .i64 d.fl] 39))) ((Below.refl _ _).alloc (Nat.le_refl _) _)
 have HY2:Hid (Bx3 (w3.alloc (.cells #[.int .u64 d.va,.int .u64 d.se,.int .i64 d.fl] 39)) b2 d∧w.heap.size+2<b2):=⟨(HX2.out.1.below hk3).below ((Below.refl _ _).alloc (Nat.le_refl _) _),HX2.out.2⟩
 have HY3:Hid (Bx3 (w3.alloc (.cells #[.int .u64 d.va,.int .u64 d.se,.int .i64 d.fl] 39)) w3.heap.size d∧w.heap.size+2<w3.heap.size):=⟨Bx3.box w3 d,by have:=(HS2.out.same hk3).r.lt;show _<_;omega⟩
 have HS3:=(show Hid _ from h3)
 clear HS2 hk3 h3 HX2
 go_upto_region 29 with fail
 generalize (w3.alloc (.cells #[.int .u64 d.va,.int .u64 d.se,.int .i64 d.fl] 39))=w4 at *
 generalize w3.heap.size=b3 at *
 have h3:=HS3.out
 have ce0:w4.cell? ⟨w.heap.size,0,none⟩=some (.slice oa ol oc):=h3.s.ce.1
 have ce1:w4.cell? ⟨w.heap.size,1,none⟩=some (.slice ta tl tc):=h3.s.ce.2
 have cf0:=h3.s.fz.1
 have cf1:=h3.s.fz.2
 have cr0:w4.cell? ⟨w.heap.size+1+1,0,none⟩=some (.slice none 0 0):=h3.r.ce.1
 have cr1:w4.cell? ⟨w.heap.size+1+1,1,none⟩=some (.slice none 0 0):=h3.r.ce.2
 have cg0:=h3.r.fz.1
 have cg1:=h3.r.fz.2
 obtain⟨x0,x1,x2⟩:=HY2.out.1.ce
 obtain⟨z0,z1,z2⟩:=HY3.out.1.ce
 have h5:=h3.set2 ⟨oa,ol,oc⟩ ⟨ta,tl,tc⟩
 have HF:=(show Hid _ from And.intro h5.r (h5.same (W':=World.drew _) ((Below.refl _ _).drew)).fin)
 rw[show(SV.mk oa ol oc).val = .slice oa ol oc from rfl,show(SV.mk ta tl tc).val = .slice ta tl tc from rfl] at HF
 have o2:((w4.setCell ⟨w.heap.size+1+1,0,none⟩ (.slice oa ol oc)).setCell ⟨w.heap.size+1+1,1,none⟩ (.slice ta tl tc)).heap[b2]?=w4.heap[b2]?:=by
  have hl:=HY2.out.2
  rw[heap_other _ _ _ (show b2≠w.heap.size+1+1 by omega),heap_other _ _ _ (show b2≠w.heap.size+1+1 by omega)]
 have o3:((w4.setCell ⟨w.heap.size+1+1,0,none⟩ (.slice oa ol oc)).setCell ⟨w.heap.size+1+1,1,none⟩ (.slice ta tl tc)).heap[b3]?=w4.heap[b3]?:=by
  have hl:=HY3.out.2
  rw[heap_other _ _ _ (show b3≠w.heap.size+1+1 by omega),heap_other _ _ _ (show b3≠w.heap.size+1+1 by omega)]
 obtain⟨xa,xb,xc⟩:=(show Bx3 _ b2 d from o2.trans HY2.out.1).ce
 obtain⟨za,zb,zc⟩:=(show Bx3 _ b3 d from o3.trans HY3.out.1).ce
 have hdd:(d.va == d.va)=true:=beq_self_eq_true _
 have hde:(d.se == d.se)=true:=beq_self_eq_true _
 have hdf:(d.fl == d.fl)=true:=beq_self_eq_true _
 clear HS3 h3 h5 HY2 HY3 o2 o3
 go_region
 all_goals
  go_wp2_with fail
  refine bodyPost_ret (res2 rfl _ _ (w.heap.size+1+1) 33 _ (0,0) _ rfl HF.out.1 Tryz.underlying33 rfl (by kernel_rfl)) rfl ?_
  exact⟨⟨oa,ol,oc⟩,rfl,HF.out.2⟩
end
section
variable {w0 w W W':World}{X:Nat→Prop}{hb:Nat}{H H':He}{S S':List So}{vo vo' vt vt':SV}{ts ts':List ByteArray}{n:Nat}
theorem lkeys_e (h:TwoE w0 w X hb H S vo vt ts)(hO:OrP H S ts n)(hT:TbAt w)(hn:n≤1999999999999)(o:Int)(o0:0≤o)(o1:o<18446744073709551616) :
  Calls Tryz.prog 40 #[.pointer (some ⟨hb,0,none⟩),stV vo vt,.int .u64 o] w fun e w'=>e = .returned (.bool true)∧Below w.heap.size w w':=by
 obtain⟨wb,hwb⟩:∃wb,wb=w.alloc (.cells #[vo.val,vt.val] 33):=⟨_,rfl⟩
 have hB:Below w.heap.size w wb:=by rw[hwb];exact(Below.refl _ _).alloc (Nat.le_refl _) _
 have hbs:BxS wb w.heap.size vo vt:=by rw[hwb];exact BxS.new w vo vt
 have HB:Hid (Below w.heap.size w wb):=hB
 have HBS:Hid (BxS wb w.heap.size vo vt):=hbs
 have kp:=pkeys_e (h.below hB) hO (hT.below hB).pw o o0 o1
 have HQ:Hid (∀W,Below wb.heap.size wb W→Calls Tryz.prog 82 #[stV vo vt,.int .u64 o] W fun e w'=>∃s:SV,e = .returned s.val∧OwnR strC 1 9 W.heap.size w' s.val (keysP H o)∧Below W.heap.size W w'):=fun W r=>by
  rw[hO.rel.keys o]
  exact rkeys_e ((h.below hB).below r) hO hn o o0 o1
 generalize hks:keysP H o=ks at *
 clear hks
 obtain⟨va,vl,vc⟩:=vo
 obtain⟨ta,tl,tc⟩:=vt
 unfold stV at *
 rw[show(SV.mk va vl vc).val = .slice va vl vc from rfl,show(SV.mk ta tl tc).val = .slice ta tl tc from rfl] at *
 obtain⟨nk,hnk⟩:∃nk,nk=ks.length:=⟨_,rfl⟩
 have HNK:Hid (nk=ks.length):=hnk
 clear h hO hT hB hbs hnk
 go_enter Tryz.func40,Tryz.ntmps40
 go_upto_region 1 with fail
 rw[←hwb]
 clear hwb
 go_wp2_with fail
 refine kp.mono ?_
 rintro e w2 ⟨s1,rfl,ho1,hB2⟩
 have HB2:=(show Hid _ from hB2)
 obtain⟨b0,b1⟩:=(HBS.out.below HB2.out).ce
 rw[show(SV.mk va vl vc).val = .slice va vl vc from rfl] at b0
 rw[show(SV.mk ta tl tc).val = .slice ta tl tc from rfl] at b1
 obtain⟨⟨a1,c1,x1⟩,hs1,hx1,hk1,_⟩:=OwnR.sl rtStr.len ho1
 simp only at hx1
 have hx1':=hx1.symm
 subst hx1'
 rw[hs1]
 unfold Sli.val
 simp only
 have HK1:Hid (Sli.ok strC 1 w2 ⟨a1,c1,ks⟩):=hk1
 have hnl:(nk:Int)≤9223372036854775807:=by
  have a:=hk1.1
  have b:=hk1.2
  unfold maxLen at b
  have c:=HNK.out
  simp only at a b
  omega
 have kq:=HQ.out w2 HB2.out
 clear kp ho1 hB2 hs1 hk1 HQ
 simp only[←HNK.out]
 go_wp2_with fail
 refine kq.mono ?_
 rintro e w3 ⟨s2,rfl,ho2,hB3⟩
 obtain⟨⟨a2,c2,x2⟩,hs2,hx2,hk2,_⟩:=OwnR.sl rtStr.len ho2
 simp only at hx2
 have hx2':=hx2.symm
 subst hx2'
 rw[hs2]
 unfold Sli.val
 simp only
 have HK3:Hid (Sli.ok strC 1 w3 ⟨a1,c1,ks⟩∧Sli.ok strC 1 w3 ⟨a2,c2,ks⟩):=⟨HK1.out.kept (cells_below hB3),hk2⟩
 have HB3:Hid (Below w.heap.size w w3):=bel_sm' HB.out (bel_sm' HB2.out hB3)
 clear kq ho2 hB3 hs2 hk2 HK1 HB2 HB HBS b0 b1
 simp only[←HNK.out]
 go_wp2_with fail
 go_loopw [23] (fun iv wr=>∃(i:Nat),(i≤nk∧Hid (Below w3.heap.size w3 wr))∧iv = .int .i64 i) (fun iv wr=>nk - (intOf iv).toNat)
 case atStart=>exact⟨0,⟨Nat.zero_le _,Below.refl _ _⟩,rfl⟩
 case round =>
  obtain⟨i,⟨ple,HW⟩,rfl⟩:=hrel
  rcases Nat.lt_or_ge i nk with c | c
  ·have cl:(i:Int)<nk:=by omega
   obtain⟨k,hk⟩:∃k,ks[i]?=some k:=⟨_,List.getElem?_eq_getElem (by rw[←HNK.out];exact c)⟩
   have q1:=HK3.out.1.kept (cells_below HW.out)
   have q2:=HK3.out.2.kept (cells_below HW.out)
   obtain⟨g1,f1,e1,hc1⟩:=q1.cells (by intro e;have e:ks=[]:=e;rw[e] at hk;simp at hk)
   obtain⟨g2,f2,e2,hc2⟩:=q2.cells (by intro e;have e:ks=[]:=e;rw[e] at hk;simp at hk)
   simp only at e1 e2
   subst e1 e2
   have d1:=hc1 i k hk 0 _ rfl
   have d2:=hc2 i k hk 0 _ rfl
   try simp only[Nat.mul_one,Nat.add_zero] at d1
   try simp only[Nat.mul_one,Nat.add_zero] at d2
   have hkl:(k.toList != k.toList)=false:=by simp
   have hkl2:(k.toList == k.toList)=true:=by simp
   have HC:Hid (i<nk):=c
   clear q1 q2 hc1 hc2 hk HK3 c HB3
   go_wp2_with fail
   go_quiet (fail)
   go_wp2_with fail
   refine⟨⟨i+1,⟨HC.out,?_⟩,by go_num⟩,?_⟩
   ·exact below_drewN HW.out _
   ·have:=HC.out
    simp[intOf]
    omega
  ·have hil:¬((i:Int)<nk):=by omega
   have HF:Hid (Below w.heap.size w wr):=bel_sm' HB3.out HW.out
   clear HW HK3 HB3 c
   go_wp2_with fail
   go_ret
   exact⟨rfl,HF.out⟩
end
section
variable {w0 w W W':World}{X:Nat→Prop}{hb:Nat}{H H':He}{S S':List So}{vo vo' vt vt':SV}{ts ts':List ByteArray}{n:Nat}
theorem pstep_no (h:TwoE w0 w X hb H S vo vt ts)(hO:OrP H S ts n)(hT:TbAt w)(hn:n≤1999999999999)(a:OpP)(hk:∀j:Int,(j=0∨j=1∨j=2∨j=3∨j=4∨j=5∨j=6∨j=8)→¬a.kd=j)(ha:a.wf) :
  Calls Tryz.prog 13 #[.pointer (some ⟨hb,0,none⟩),stV vo vt,a.val] w fun e w'=>∃vo',e = .returned (.tuple #[stV vo' vt,.bool true])∧TwoK w0 w w' X hb (pH H a) (pS S a) vo' vt ts:=by
 obtain⟨kd,oo,op,kk,⟨has,va,ge,se,fl⟩,vv,nn⟩:=a
 simp only at hk
 have HO:Hid (OrP H S ts n):=hO
 have hwf:=h.wf
 have hmo:H.most≤256:=hwf.mo
 have eH:pH H ⟨kd,oo,op,kk,⟨has,va,ge,se,fl⟩,vv,nn⟩=H:=pH_no hk
 have eS:pS S ⟨kd,oo,op,kk,⟨has,va,ge,se,fl⟩,vv,nn⟩=S:=pS_no hk
 rw[eH,eS]
 have kq:=fun W (h:TwoE w0 W (XbP w X) hb H S vo vt ts) (t:TbAt W)=>lkeys_e h HO.out t hn oo ha.o0 ha.o1
 obtain⟨oa,ol,oc⟩:=vo
 obtain⟨ta,tl,tc⟩:=vt
 have hst:OnP w0 w (((w.alloc (.cells #[.slice oa ol oc,.slice ta tl tc] 33)).alloc (.cells #[.int .i64 kd,.int .u64 oo,.int .u64 op,.string kk,.int .i64 has,.int .u64 va,.int .u64 ge,.int .u64 se,.int .i64 fl,.int .u64 vv,.int .i64 nn] 28)).alloc (.cells #[.slice none 0 0,.slice none 0 0] 33)) X hb H S ⟨oa,ol,oc⟩ ⟨ta,tl,tc⟩ ts ⟨oa,ol,oc⟩ ⟨ta,tl,tc⟩ #[.int .i64 kd,.int .u64 oo,.int .u64 op,.string kk,.int .i64 has,.int .u64 va,.int .u64 ge,.int .u64 se,.int .i64 fl,.int .u64 vv,.int .i64 nn] .nil .nil:=OnP.start h _
 have htb:TbAt (((w.alloc (.cells #[.slice oa ol oc,.slice ta tl tc] 33)).alloc (.cells #[.int .i64 kd,.int .u64 oo,.int .u64 op,.string kk,.int .i64 has,.int .u64 va,.int .u64 ge,.int .u64 se,.int .i64 fl,.int .u64 vv,.int .i64 nn] 28)).alloc (.cells #[.slice none 0 0,.slice none 0 0] 33)):=hT.below (B3 w _ _ _)
 obtain⟨wb,hwb⟩:∃wb,wb=(((w.alloc (.cells #[.slice oa ol oc,.slice ta tl tc] 33)).alloc (.cells #[.int .i64 kd,.int .u64 oo,.int .u64 op,.string kk,.int .i64 has,.int .u64 va,.int .u64 ge,.int .u64 se,.int .i64 fl,.int .u64 vv,.int .i64 nn] 28)).alloc (.cells #[.slice none 0 0,.slice none 0 0] 33)):=⟨_,rfl⟩
 rw[←hwb] at hst htb
 have HS:=(show Hid _ from hst)
 have z0:(kd == 0)=false:=by rw[beq_eq_false_iff_ne];exact hk 0 (by omega)
 have z1:(kd == 1)=false:=by rw[beq_eq_false_iff_ne];exact hk 1 (by omega)
 have z2:(kd == 2)=false:=by rw[beq_eq_false_iff_ne];exact hk 2 (by omega)
 have z3:(kd == 3)=false:=by rw[beq_eq_false_iff_ne];exact hk 3 (by omega)
 have z4:(kd == 4)=false:=by rw[beq_eq_false_iff_ne];exact hk 4 (by omega)
 have z5:(kd == 5)=false:=by rw[beq_eq_false_iff_ne];exact hk 5 (by omega)
 have z6:(kd == 6)=false:=by rw[beq_eq_false_iff_ne];exact hk 6 (by omega)
 have z8:(kd == 8)=false:=by rw[beq_eq_false_iff_ne];exact hk 8 (by omega)
 have hsd:=hst.same (W':=wb.drew) ((Below.refl _ _).drew)
 have HSD:=(show Hid _ from hsd)
 have kq:=kq wb.drew hsd.two (htb.below ((Below.refl _ _).drew))
 have ce0:wb.cell? ⟨w.heap.size,0,none⟩=some (.slice oa ol oc):=hst.s.ce.1
 have ce1:wb.cell? ⟨w.heap.size,1,none⟩=some (.slice ta tl tc):=hst.s.ce.2
 have cf0:=hst.s.fz.1
 have cf1:=hst.s.fz.2
 have cr0:wb.cell? ⟨w.heap.size+1+1,0,none⟩=some (.slice none 0 0):=hst.r.ce.1
 have cr1:wb.cell? ⟨w.heap.size+1+1,1,none⟩=some (.slice none 0 0):=hst.r.ce.2
 have cg0:=hst.r.fz.1
 have cg1:=hst.r.fz.2
 have q0:=hst.oc 0 rfl
 have q1:=hst.oc 1 rfl
 unfold stV OpP.val OpP.cells
 unfold stV at kq
 simp only at kq ⊢
 rw[show(SV.mk oa ol oc).val = .slice oa ol oc from rfl,show(SV.mk ta tl tc).val = .slice ta tl tc from rfl] at kq ⊢
 clear h hk hsd hO hst hwf hmo eH eS ha hT htb
 go_enter Tryz.func13,Tryz.ntmps13
 go_upto_region 1 with fail
 rw[←hwb]
 clear hwb
 go_upto_region 33 with fail
 first
 | (go_region_with ((go_at_call 40;refine kq.mono ?_;rintro e w3 ⟨rfl,hb3⟩;have h3:=HSD.out.same hb3;have h5:=(h3.set2 ⟨oa,ol,oc⟩ ⟨ta,tl,tc⟩);have HF:=(show Hid _ from And.intro h5.r h5.fin);have cx0:w3.cell? ⟨w.heap.size,0,none⟩=some (.slice oa ol oc):=h3.s.ce.1;have cx1:w3.cell? ⟨w.heap.size,1,none⟩=some (.slice ta tl tc):=h3.s.ce.2;have cy0:w3.cell? ⟨w.heap.size+1+1,0,none⟩=some (.slice none 0 0):=h3.r.ce.1;have cy1:w3.cell? ⟨w.heap.size+1+1,1,none⟩=some (.slice none 0 0):=h3.r.ce.2;have cz0:=h3.r.fz.1;have cz1:=h3.r.fz.2;clear hb3 h3 h5)))
 | fail
 all_goals
  rw[show(SV.mk oa ol oc).val = .slice oa ol oc from rfl,show(SV.mk ta tl tc).val = .slice ta tl tc from rfl] at HF
  go_wp2_with fail
  refine bodyPost_ret (res2 rfl _ _ (w.heap.size+1+1) 33 _ (0,0) _ rfl HF.out.1 Tryz.underlying33 rfl (by kernel_rfl)) rfl ?_
  exact⟨⟨oa,ol,oc⟩,rfl,HF.out.2⟩
end
def keyA:ByteArray:={ data:=#[97] }
def dA:De:=⟨intW 3,undW,7⟩
def oA0:Ob:=⟨0,nulW,false,false,[],0,[],[],0,true,-1,false,[]⟩
def oA1:Ob:=⟨0,nulW,false,true,[],0,[],[],0,true,-1,false,[]⟩
def oA2:Ob:=⟨0,nulW,false,true,[⟨keyA,0,dA⟩],1,[],[],2,true,-1,false,[]⟩
def oB:Ob:=⟨0,objW 0,false,false,[],0,[],[],1,true,-1,false,[]⟩
def HP1:He:=⟨[],[oA0],9,[⟨rootN 0 nulW,[],[],[]⟩],[],0⟩
def HP2:He:=⟨[],[oA1,oB],9,[⟨rootN 0 nulW,[],[],[]⟩,⟨rootN 0 (objW 0),[],[],[]⟩],[],0⟩
def HP3:He:=⟨[],[oA2,oB],9,[⟨rootN 0 nulW,[],[],[]⟩,⟨rootN 0 (objW 0),[],[],[]⟩,⟨rootN 0 nulW,[keyA],[7],[(false,keyA,7)]⟩],[],0⟩
theorem mkP1:makeH (He.new 9) 0 nulW=HP1:=by
 have h1:obI (He.new 9) nulW=none:=by
  unfold obI
  rw[if_neg (by intro q;have:=q.1;rw[isT_nul] at this;cases this)]
 have h2:raiseH (He.new 9) nulW=He.new 9:=by unfold raiseH;rw[h1]
 unfold makeH
 rw[h2]
 rfl
theorem oiP1:obI HP1 (objW 0)=some 0:=obI_of (H:=HP1) (i:=0) (by decide) (by decide)
theorem mkP2:makeH HP1 0 (objW 0)=HP2:=by
 have h2:raiseH HP1 (objW 0)=⟨[],[oA1],9,[⟨rootN 0 nulW,[],[],[]⟩],[],0⟩:=by unfold raiseH;rw[oiP1];rfl
 unfold makeH
 rw[h2]
 rfl
theorem oiP2:obI HP2 (objW 0)=some 0:=obI_of (H:=HP2) (i:=0) (by decide) (by decide)
theorem oiP3:obI HP3 (objW 0)=some 0∧obI HP3 (objW 1)=some 1:=⟨obI_of (H:=HP3) (i:=0) (by decide) (by decide),obI_of (H:=HP3) (i:=1) (by decide) (by decide)⟩
theorem nuP (H:He):obO H nulW=none:=by
 unfold obO
 have h1:obI H nulW=none:=by
  unfold obI
  rw[if_neg (by intro q;have:=q.1;rw[isT_nul] at this;cases this)]
 rw[h1]
 rfl
theorem ooP2:obO HP2 (objW 0)=some oA1:=by unfold obO;rw[oiP2];rfl
theorem ooP3:obO HP3 (objW 0)=some oA2∧obO HP3 (objW 1)=some oB:=by unfold obO;rw[oiP3.1,oiP3.2];exact⟨rfl,rfl⟩
theorem enP2:EndsH HP2 1 (objW 0):=Or.inr ⟨oA1,ooP2,nuP _⟩
theorem enP3:EndsH HP3 2 (objW 1):=Or.inr ⟨oB,ooP3.2,Or.inr ⟨oA2,ooP3.1,nuP _⟩⟩
theorem owA1:ownO oA1 keyA=none:=rfl
theorem owB:ownO oB keyA=none:=rfl
theorem plA2:plc oA2.ps keyA=some 0:=plc_at (p:=⟨keyA,0,dA⟩) rfl rfl (fun j q hj=>by omega)
theorem owA2:ownO oA2 keyA=some dA:=by
 unfold ownO
 rw[if_neg (by decide)]
 unfold getO
 rw[plA2]
 rfl
theorem lkP2:lookF HP2 keyA 1 (objW 0)=none:=by rw[look_step ooP2,owA1];rfl
theorem lkP3:lookF HP3 keyA 2 (objW 1)=some (objW 0,dA):=by
 rw[look_step ooP3.2,owB]
 show lookF HP3 keyA 1 (objW 0)=_
 rw[look_step ooP3.1,owA2]
theorem wiA:wishD newD (wsAll (intW 3))=dA:=by
 unfold wishD turnD accB newD wsAll flR stF dA
 simp only
 have e1:bits .and .i64 15 16=0:=by decide
 have e2:bits .and .i64 15 1=1:=by decide
 have e3:bits .and .i64 15 32=0:=by decide
 have e4:bits .and .i64 15 2=2:=by decide
 have e5:bits .and .i64 15 4=4:=by decide
 have e6:bits .and .i64 15 8=8:=by decide
 have e7:bits .and .i64 0 8=0:=by decide
 have e8:bits .and .i64 15 48=0:=by decide
 have e9:bits .or .i64 (bits .andNot .i64 (bits .or .i64 (bits .andNot .i64 (bits .or .i64 (bits .andNot .i64 0 1) (bits .and .i64 7 1)) 2) (bits .and .i64 7 2)) 4) (bits .and .i64 7 4)=7:=by decide
 rw[e1,e2,e3,e4,e5,e6,e7]
 simp[e8,e9]
theorem dfP:defP HP2 (objW 0) keyA (wsAll (intW 3))=(true,HP3):=by
 unfold defP
 rw[oiP2]
 show(if (bits .and .i64 15 48 != 0)=true∧(bits .and .i64 15 3 != 0)=true then (false,HP2) else match ownO oA1 keyA with
      | none=>if oA1.shut=true then (false,HP2) else layP HP2 0 oA1 keyA (wishD newD (wsAll (intW 3)))
      | some old=>if mayD old (wishD old (wsAll (intW 3)))=true then layP HP2 0 oA1 keyA (wishD old (wsAll (intW 3))) else (false,HP2))=_
 rw[if_neg (by intro q;have:=q.1;revert this;decide),owA1,wiA]
 show layP HP2 0 oA1 keyA dA=_
 unfold layP
 rw[if_neg (by decide)]
 rfl
theorem asP:asgP HP2 (objW 0) keyA (intW 3) 1=(undW,0,HP3):=by
 unfold asgP
 rw[lkP2]
 show asgE (defP HP2 (objW 0) keyA (wsAll (intW 3)))=_
 rw[dfP]
 rfl
theorem gdP2:HP2.gd 0:=by
 refine⟨fun ob ho => ?_,fun ob ho => ?_,fun ob ho => ?_⟩
 all_goals
  have ho:ob=oA1∨ob=oB:=by simpa [HP2] using ho
  rcases ho with rfl | rfl
 ·exact⟨by simp[oA1],by simp[oA1],by simp[oA1],by simp[oA1],fun q=>by cases q⟩
 ·exact⟨by simp[oB],by simp[oB],by simp[oB],by simp[oB],fun q=>by cases q⟩
 ·exact fun _=>rfl
 ·exact fun _=>rfl
 ·exact Int.le_refl _
 ·exact Int.le_refl _
theorem ntP3:HP3.neat:=by
 intro ob ho
 have ho:ob=oA2∨ob=oB:=by simpa [HP3] using ho
 rcases ho with rfl | rfl
 ·exact⟨by simp[oA2],by simp[oA2],by simp[oA2],by simp[oA2],fun q=>by cases q⟩
 ·exact⟨by simp[oB],by simp[oB],by simp[oB],by simp[oB],fun q=>by cases q⟩
theorem palive_any (w:World)(hF:FpAt w):Calls Tryz.prog 8 #[] w fun e w'=>e = .returned (.bool true)∧Below w.heap.size w w':=by
 have kn:=new_any w 9
 have ki:=fun w=>refInt_any 3 w
 have HFP:Hid (FpAt w):=hF
 have HOW:Hid ((0≤objW 0∧objW 0<18446744073709551616)∧(0≤objW 1∧objW 1<18446744073709551616)∧(0≤intW 3∧intW 3<18446744073709551616)):=by show _∧_∧_;decide
 have HKZ:Hid (keyA.size≤maxLen):=by show keyA.size≤maxLen;unfold maxLen;decide
 clear hF
 go_enter Tryz.func8,Tryz.ntmps8
 go_wp2_with fail
 refine kn.mono ?_
 rintro e w1 ⟨hb,O,rfl,⟨tg,M,h,hO⟩,hB⟩
 have HB1:Hid (Below w.heap.size w w1∧∀b,tg b≠0→w.heap.size≤b):=⟨hB,fun b q=>(h.lt b q).1⟩
 have km:=make_hit h 0 nulW (by omega) (by omega) (by decide) (by decide) (by unfold mayB;simp) (by decide)
 rw[mkP1,show objW ((He.new 9).obs.length:Int)=objW 0 from rfl] at km
 unfold nulW at km
 clear kn h hO hB
 go_wp2_with fail
 refine km.mono ?_
 rintro e w2 ⟨rfl,M2,tg2,h2,c2,n2⟩
 have HB2:Hid (Below w.heap.size w w2∧∀b,tg2 b≠0→w.heap.size≤b):=⟨c2.below HB1.out.1 HB1.out.1.size HB1.out.2,fun b q=>by rcases n2 b q with c | c;exact HB1.out.2 b c;exact Nat.le_trans HB1.out.1.size c⟩
 have km2:=make_hit h2 0 (objW 0) (by omega) (by omega) HOW.out.1.1 HOW.out.1.2 (by unfold mayB;rw[oiP1];simp) (by decide)
 rw[mkP2,show objW (HP1.obs.length:Int)=objW 1 from rfl] at km2
 clear km c2 n2 h2 HB1
 generalize hw0:objW 0=ow at *
 generalize hw1:objW 1=ow1 at *
 have HWE:Hid (objW 0=ow∧objW 1=ow1):=⟨hw0,hw1⟩
 clear hw0 hw1
 go_wp2_with fail
 refine km2.mono ?_
 rintro e w3 ⟨rfl,M3,tg3,h3,c3,n3⟩
 have HB3:Hid (Below w.heap.size w w3∧∀b,tg3 b≠0→w.heap.size≤b):=⟨c3.below HB2.out.1 HB2.out.1.size HB2.out.2,fun b q=>by rcases n3 b q with c | c;exact HB2.out.2 b c;exact Nat.le_trans HB2.out.1.size c⟩
 have kas:=assign_at h3 (HFP.out.below HB3.out.1) gdP2 (by decide) ow HOW.out.1.1 HOW.out.1.2 keyA HKZ.out (intW 3) HOW.out.2.2 1 (by rw[←HWE.out.1];exact enP2)
 rw[show asgP HP2 ow keyA (intW 3) 1=(undW,0,HP3) from by rw[←HWE.out.1];exact asP] at kas
 simp only at kas
 unfold keyA undW at kas
 generalize hiw:intW 3=iw at *
 have HIW:Hid (intW 3=iw):=hiw
 clear km2 c3 n3 h3 HB2 hiw
 go_wp2_with fail
 refine(ki _).mono ?_
 rintro e w3' ⟨rfl,rfl⟩
 go_wp2_with fail
 refine kas.mono ?_
 rintro e w4 ⟨rfl,M4,tg4,h4,c4,n4⟩
 have HB4:Hid (Below w.heap.size w w4∧∀b,tg4 b≠0→w.heap.size≤b):=⟨c4.below HB3.out.1 HB3.out.1.size HB3.out.2,fun b q=>by rcases n4 b q with c | c;exact HB3.out.2 b c;exact Nat.le_trans HB3.out.1.size c⟩
 have kl:=lookup_at h4 ntP3 ow1 HOW.out.2.1.1 HOW.out.2.1.2 keyA HKZ.out 2 (by rw[←HWE.out.2];exact enP3)
 rw[show lookF HP3 keyA 2 ow1=some (ow,⟨iw,undW,7⟩) from by rw[←HWE.out.2,←HWE.out.1,←HIW.out];exact lkP3] at kl
 simp only[Option.map_some,Option.getD_some,Option.isSome_some] at kl
 unfold keyA undW deV at kl
 simp only at kl
 clear kas c4 n4 h4 HB3
 go_wp2_with fail
 refine kl.mono ?_
 rintro e w5 ⟨rfl,hB5⟩
 have hB6:Below w5.heap.size w5 (w5.alloc (.cells #[.int .u64 iw,.int .u64 18445336698825998336,.int .i64 7] 39)):=(Below.refl _ _).alloc (Nat.le_refl _) _
 have b0:=box_new w5 #[.int .u64 iw,.int .u64 18445336698825998336,.int .i64 7] 39 0 _ rfl
 have b2:=box_new w5 #[.int .u64 iw,.int .u64 18445336698825998336,.int .i64 7] 39 2 _ rfl
 have HB6:Hid (Below w.heap.size w (w5.alloc (.cells #[.int .u64 iw,.int .u64 18445336698825998336,.int .i64 7] 39))):=bel_sm (bel_sm HB4.out.1 hB5) hB6
 have hww:(ow == ow)=true:=by simp
 have hii:(iw == iw)=true:=by simp
 clear kl hB5 hB6 HB4
 go_upto_region 8 with fail
 generalize w5.alloc (.cells #[.int .u64 iw,.int .u64 18445336698825998336,.int .i64 7] 39)=w6 at *
 go_quiet ((go_at_call 19;refine Calls.quiet_of_same (ki _)))
 go_wp2_with fail
 go_ret
 exact⟨rfl,⟨HB6.out.os,HB6.out.tape,HB6.out.output,HB6.out.size,HB6.out.block⟩⟩
end Go.Proofs.YtahhionlbfhinabGreatDoor.Hp
