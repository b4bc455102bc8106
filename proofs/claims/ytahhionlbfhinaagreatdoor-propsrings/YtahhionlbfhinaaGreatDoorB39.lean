/- XP, XI -/
import Derived.Test.YtahhionlbfhinaaGreatDoorB38
import Derived.Test.YtahhionlbfhinaaGreatDoorXH
set_option linter.unusedVariables false
set_option linter.unusedSimpArgs false
set_option maxRecDepth 100000
set_option maxHeartbeats 40000000
namespace Go.Proofs.YtahhionlbfhinaaGreatDoor.Hp
open Go.RowKit
section
variable {H:He}{S:List So}{ts:List ByteArray}{o:Int}{k:ByteArray}{i:Nat}{ob:Ob}{x:So}{d:De}{n:Nat}
theorem OrP.own (h:OrP H S ts n)(o:Int)(k:ByteArray):ownH H o k=(soO S o).bind (fun x=>ownS x k):=(h.rel.toH h.ix).own o k
theorem OrP.look (h:OrP H S ts n)(o:Int)(k:ByteArray):lookF H k H.obs.length o=lookS S k (S.length+1) o:=by
 rw[look_ends (k:=k) H.obs.length (S.length+1) o (h.inv.acy o) (by rw[h.rel.len];omega)]
 exact(h.rel.toH h.ix).look k _ o
end
section
variable {w0 w W W':World}{X:Nat→Prop}{hb:Nat}{H H':He}{S S':List So}{vo vo' vt vt':SV}{ts ts':List ByteArray}{n:Nat}
theorem pstep_5 (h:TwoE w0 w X hb H S vo vt ts)(hO:OrP H S ts n)(hT:TbAt w)(hn:n≤1999999999999)(a:OpP)(hk:a.kd=5)(ha:a.wf) :
  Calls Tryz.prog 10 #[.pointer (some ⟨hb,0,none⟩),stV vo vt,a.val] w fun e w'=>∃vo',e = .returned (.tuple #[stV vo' vt,.bool true])∧TwoK w0 w w' X hb (pH H a) (pS S a) vo' vt ts:=by
 obtain⟨kd,oo,op,kk,⟨has,va,ge,se,fl⟩,vv,nn⟩:=a
 obtain rfl:kd=5:=hk
 have HO:Hid (OrP H S ts n):=hO
 have hwf:=h.wf
 have hmo:H.most≤256:=hwf.mo
 have eH:pH H ⟨5,oo,op,kk,⟨has,va,ge,se,fl⟩,vv,nn⟩=H:=pH_5 rfl
 have eS:pS S ⟨5,oo,op,kk,⟨has,va,ge,se,fl⟩,vv,nn⟩=S:=pS_5 rfl
 rw[eH,eS]
 have kp:=fun W (h:TwoE w0 W (XbP w X) hb H S vo vt ts)=>pown_e h HO.out oo ha.o0 ha.o1 kk ha.kl
 have kq:=fun W (h:TwoE w0 W (XbP w X) hb H S vo vt ts)=>rown_e h HO.out hwf oo ha.o0 ha.o1 kk ha.kl
 rw[hO.own oo kk] at kp
 generalize ((soO S oo).bind (fun x=>ownS x kk)).getD zDe=d at *
 generalize ((soO S oo).bind (fun x=>ownS x kk)).isSome=rb at *
 have hrr:(rb == rb)=true:=beq_self_eq_true rb
 obtain⟨oa,ol,oc⟩:=vo
 obtain⟨ta,tl,tc⟩:=vt
 have hst:OnP w0 w (((w.alloc (.cells #[.slice oa ol oc,.slice ta tl tc] 28)).alloc (.cells #[.int .i64 5,.int .u64 oo,.int .u64 op,.string kk,.int .i64 has,.int .u64 va,.int .u64 ge,.int .u64 se,.int .i64 fl,.int .u64 vv,.int .i64 nn] 37)).alloc (.cells #[.slice none 0 0,.slice none 0 0] 28)) X hb H S ⟨oa,ol,oc⟩ ⟨ta,tl,tc⟩ ts ⟨oa,ol,oc⟩ ⟨ta,tl,tc⟩ #[.int .i64 5,.int .u64 oo,.int .u64 op,.string kk,.int .i64 has,.int .u64 va,.int .u64 ge,.int .u64 se,.int .i64 fl,.int .u64 vv,.int .i64 nn] .nil .nil:=OnP.start h _
 have htb:TbAt (((w.alloc (.cells #[.slice oa ol oc,.slice ta tl tc] 28)).alloc (.cells #[.int .i64 5,.int .u64 oo,.int .u64 op,.string kk,.int .i64 has,.int .u64 va,.int .u64 ge,.int .u64 se,.int .i64 fl,.int .u64 vv,.int .i64 nn] 37)).alloc (.cells #[.slice none 0 0,.slice none 0 0] 28)):=hT.below (B3 w _ _ _)
 obtain⟨wb,hwb⟩:∃wb,wb=(((w.alloc (.cells #[.slice oa ol oc,.slice ta tl tc] 28)).alloc (.cells #[.int .i64 5,.int .u64 oo,.int .u64 op,.string kk,.int .i64 has,.int .u64 va,.int .u64 ge,.int .u64 se,.int .i64 fl,.int .u64 vv,.int .i64 nn] 37)).alloc (.cells #[.slice none 0 0,.slice none 0 0] 28)):=⟨_,rfl⟩
 rw[←hwb] at hst htb
 have HS:=(show Hid _ from hst)
 have kp:=kp wb hst.two
 unfold deV at kp kq
 have ce0:wb.cell? ⟨w.heap.size,0,none⟩=some (.slice oa ol oc):=hst.s.ce.1
 have ce1:wb.cell? ⟨w.heap.size,1,none⟩=some (.slice ta tl tc):=hst.s.ce.2
 have cf0:=hst.s.fz.1
 have cf1:=hst.s.fz.2
 have cr0:wb.cell? ⟨w.heap.size+1+1,0,none⟩=some (.slice none 0 0):=hst.r.ce.1
 have cr1:wb.cell? ⟨w.heap.size+1+1,1,none⟩=some (.slice none 0 0):=hst.r.ce.2
 have cg0:=hst.r.fz.1
 have cg1:=hst.r.fz.2
 have q0:=hst.oc 0 rfl
 have q1:=hst.oc 1 rfl
 have q3:=hst.oc 3 rfl
 unfold stV OpP.val OpP.cells
 unfold stV at kq
 simp only at kp kq ⊢
 rw[show(SV.mk oa ol oc).val = .slice oa ol oc from rfl,show(SV.mk ta tl tc).val = .slice ta tl tc from rfl] at kq ⊢
 clear h hO hst hwf hmo eH eS ha hT htb
 go_enter Tryz.func10,Tryz.ntmps10
 go_upto_region 1 with fail
 rw[←hwb]
 clear hwb
 go_wp2_with fail
 refine kp.mono ?_
 rintro e w2 ⟨rfl,hk2⟩
 clear kp ce0 ce1 cf0 cf1 cr0 cr1 cg0 cg1 q0 q1 q3
 have h2:=(HS.out.same hk2).same (W':=(w2.alloc (.cells #[.int .u64 d.va,.int .u64 d.se,.int .i64 d.fl] 41))) ((Below.refl _ _).alloc (Nat.le_refl _) _)
 have HS2:=(show Hid _ from h2)
 have HX2:Hid (Bx3 (w2.alloc (.cells #[.int .u64 d.va,.int .u64 d.se,.int .i64 d.fl] 41)) w2.heap.size d∧w.heap.size+2<w2.heap.size):=⟨Bx3.box w2 d,by have:=(HS.out.same hk2).r.lt;show _<_;omega⟩
 have kq:=kq _ h2.two
 have ce0:(w2.alloc (.cells #[.int .u64 d.va,.int .u64 d.se,.int .i64 d.fl] 41)).cell? ⟨w.heap.size,0,none⟩=some (.slice oa ol oc):=h2.s.ce.1
 have ce1:(w2.alloc (.cells #[.int .u64 d.va,.int .u64 d.se,.int .i64 d.fl] 41)).cell? ⟨w.heap.size,1,none⟩=some (.slice ta tl tc):=h2.s.ce.2
 have cf0:=h2.s.fz.1
 have cf1:=h2.s.fz.2
 have cr0:(w2.alloc (.cells #[.int .u64 d.va,.int .u64 d.se,.int .i64 d.fl] 41)).cell? ⟨w.heap.size+1+1,0,none⟩=some (.slice none 0 0):=h2.r.ce.1
 have cr1:(w2.alloc (.cells #[.int .u64 d.va,.int .u64 d.se,.int .i64 d.fl] 41)).cell? ⟨w.heap.size+1+1,1,none⟩=some (.slice none 0 0):=h2.r.ce.2
 have cg0:=h2.r.fz.1
 have cg1:=h2.r.fz.2
 have q0:=h2.oc 0 rfl
 have q1:=h2.oc 1 rfl
 have q3:=h2.oc 3 rfl
 clear HS hk2 h2
 go_upto_region 24 with fail
 generalize (w2.alloc (.cells #[.int .u64 d.va,.int .u64 d.se,.int .i64 d.fl] 41))=w2a at *
 generalize w2.heap.size=b2 at *
 go_wp2_with fail
 refine kq.mono ?_
 rintro e w3 ⟨rfl,hk3⟩
 clear kq ce0 ce1 cf0 cf1 cr0 cr1 cg0 cg1 q0 q1 q3
 have h3:=(HS2.out.same hk3).same (W':=(w3.alloc (.cells #[.int .u64 d.va,.int .u64 d.se,.int .i64 d.fl] 41))) ((Below.refl _ _).alloc (Nat.le_refl _) _)
 have HY2:Hid (Bx3 (w3.alloc (.cells #[.int .u64 d.va,.int .u64 d.se,.int .i64 d.fl] 41)) b2 d∧w.heap.size+2<b2):=⟨(HX2.out.1.below hk3).below ((Below.refl _ _).alloc (Nat.le_refl _) _),HX2.out.2⟩
 have HY3:Hid (Bx3 (w3.alloc (.cells #[.int .u64 d.va,.int .u64 d.se,.int .i64 d.fl] 41)) w3.heap.size d∧w.heap.size+2<w3.heap.size):=⟨Bx3.box w3 d,by have:=(HS2.out.same hk3).r.lt;show _<_;omega⟩
 have HS3:=(show Hid _ from h3)
 clear HS2 hk3 h3 HX2
 go_upto_region 25 with fail
 generalize (w3.alloc (.cells #[.int .u64 d.va,.int .u64 d.se,.int .i64 d.fl] 41))=w4 at *
 generalize w3.heap.size=b3 at *
 have h3:=HS3.out
 have ce0:w4.cell? ⟨w.heap.size,0,none⟩=some (.slice oa ol oc):=h3.s.ce.1
 have ce1:w4.cell? ⟨w.heap.size,1,none⟩=some (.slice ta tl tc):=h3.s.ce.2
 have cf0:=h3.s.fz.1
 have cf1:=h3.s.fz.2
 have cr0:w4.cell? ⟨w.heap.size+1+1,0,none⟩=some (.slice none 0 0):=h3.r.ce.1
 have cr1:w4.cell? ⟨w.heap.size+1+1,1,none⟩=some (.slice none 0 0):=h3.r.ce.2
 have cg0:=h3.r.fz.1
 have cg1:=h3.r.fz.2
 obtain⟨x0,x1,x2⟩:=HY2.out.1.ce
 obtain⟨z0,z1,z2⟩:=HY3.out.1.ce
 have h5:=h3.set2 ⟨oa,ol,oc⟩ ⟨ta,tl,tc⟩
 have HF:=(show Hid _ from And.intro h5.r (h5.same (W':=World.drew _) ((Below.refl _ _).drew)).fin)
 rw[show(SV.mk oa ol oc).val = .slice oa ol oc from rfl,show(SV.mk ta tl tc).val = .slice ta tl tc from rfl] at HF
 have o2:((w4.setCell ⟨w.heap.size+1+1,0,none⟩ (.slice oa ol oc)).setCell ⟨w.heap.size+1+1,1,none⟩ (.slice ta tl tc)).heap[b2]?=w4.heap[b2]?:=by
  have hl:=HY2.out.2
  rw[heap_other _ _ _ (show b2≠w.heap.size+1+1 by omega),heap_other _ _ _ (show b2≠w.heap.size+1+1 by omega)]
 have o3:((w4.setCell ⟨w.heap.size+1+1,0,none⟩ (.slice oa ol oc)).setCell ⟨w.heap.size+1+1,1,none⟩ (.slice ta tl tc)).heap[b3]?=w4.heap[b3]?:=by
  have hl:=HY3.out.2
  rw[heap_other _ _ _ (show b3≠w.heap.size+1+1 by omega),heap_other _ _ _ (show b3≠w.heap.size+1+1 by omega)]
 obtain⟨xa,xb,xc⟩:=(show Bx3 _ b2 d from o2.trans HY2.out.1).ce
 obtain⟨za,zb,zc⟩:=(show Bx3 _ b3 d from o3.trans HY3.out.1).ce
 have hdd:(d.va == d.va)=true:=beq_self_eq_true _
 have hde:(d.se == d.se)=true:=beq_self_eq_true _
 have hdf:(d.fl == d.fl)=true:=beq_self_eq_true _
 clear HS3 h3 h5 HY2 HY3 o2 o3
 go_region
 all_goals
  go_wp2_with fail
  refine bodyPost_ret (res2 rfl _ _ (w.heap.size+1+1) 28 _ (0,0) _ rfl HF.out.1 Tryz.underlying28 rfl (by kernel_rfl)) rfl ?_
  exact⟨⟨oa,ol,oc⟩,rfl,HF.out.2⟩
theorem pstep_6 (h:TwoE w0 w X hb H S vo vt ts)(hO:OrP H S ts n)(hT:TbAt w)(hn:n≤1999999999999)(a:OpP)(hk:a.kd=6)(ha:a.wf) :
  Calls Tryz.prog 10 #[.pointer (some ⟨hb,0,none⟩),stV vo vt,a.val] w fun e w'=>∃vo',e = .returned (.tuple #[stV vo' vt,.bool true])∧TwoK w0 w w' X hb (pH H a) (pS S a) vo' vt ts:=by
 obtain⟨kd,oo,op,kk,⟨has,va,ge,se,fl⟩,vv,nn⟩:=a
 obtain rfl:kd=6:=hk
 have HO:Hid (OrP H S ts n):=hO
 have hwf:=h.wf
 have hmo:H.most≤256:=hwf.mo
 have eH:pH H ⟨6,oo,op,kk,⟨has,va,ge,se,fl⟩,vv,nn⟩=H:=pH_6 rfl
 have eS:pS S ⟨6,oo,op,kk,⟨has,va,ge,se,fl⟩,vv,nn⟩=S:=pS_6 rfl
 rw[eH,eS]
 have kp:=fun W (h:TwoE w0 W (XbP w X) hb H S vo vt ts)=>plook_e h HO.out oo ha.o0 ha.o1 kk ha.kl
 have kq:=fun W (h:TwoE w0 W (XbP w X) hb H S vo vt ts)=>rlook_e h HO.out hwf oo ha.o0 ha.o1 kk ha.kl
 rw[hO.look oo kk] at kp
 generalize ((lookS S kk (S.length+1) oo).map Prod.fst).getD undW=ra at *
 generalize ((lookS S kk (S.length+1) oo).map Prod.snd).getD zDe=d at *
 generalize (lookS S kk (S.length+1) oo).isSome=rb at *
 have hrr:(rb == rb)=true:=beq_self_eq_true rb
 have hnn:(ra == ra)=true:=beq_self_eq_true ra
 obtain⟨oa,ol,oc⟩:=vo
 obtain⟨ta,tl,tc⟩:=vt
 have hst:OnP w0 w (((w.alloc (.cells #[.slice oa ol oc,.slice ta tl tc] 28)).alloc (.cells #[.int .i64 6,.int .u64 oo,.int .u64 op,.string kk,.int .i64 has,.int .u64 va,.int .u64 ge,.int .u64 se,.int .i64 fl,.int .u64 vv,.int .i64 nn] 37)).alloc (.cells #[.slice none 0 0,.slice none 0 0] 28)) X hb H S ⟨oa,ol,oc⟩ ⟨ta,tl,tc⟩ ts ⟨oa,ol,oc⟩ ⟨ta,tl,tc⟩ #[.int .i64 6,.int .u64 oo,.int .u64 op,.string kk,.int .i64 has,.int .u64 va,.int .u64 ge,.int .u64 se,.int .i64 fl,.int .u64 vv,.int .i64 nn] .nil .nil:=OnP.start h _
 have htb:TbAt (((w.alloc (.cells #[.slice oa ol oc,.slice ta tl tc] 28)).alloc (.cells #[.int .i64 6,.int .u64 oo,.int .u64 op,.string kk,.int .i64 has,.int .u64 va,.int .u64 ge,.int .u64 se,.int .i64 fl,.int .u64 vv,.int .i64 nn] 37)).alloc (.cells #[.slice none 0 0,.slice none 0 0] 28)):=hT.below (B3 w _ _ _)
 obtain⟨wb,hwb⟩:∃wb,wb=(((w.alloc (.cells #[.slice oa ol oc,.slice ta tl tc] 28)).alloc (.cells #[.int .i64 6,.int .u64 oo,.int .u64 op,.string kk,.int .i64 has,.int .u64 va,.int .u64 ge,.int .u64 se,.int .i64 fl,.int .u64 vv,.int .i64 nn] 37)).alloc (.cells #[.slice none 0 0,.slice none 0 0] 28)):=⟨_,rfl⟩
 rw[←hwb] at hst htb
 have HS:=(show Hid _ from hst)
 have kp:=kp wb hst.two
 unfold deV at kp kq
 have ce0:wb.cell? ⟨w.heap.size,0,none⟩=some (.slice oa ol oc):=hst.s.ce.1
 have ce1:wb.cell? ⟨w.heap.size,1,none⟩=some (.slice ta tl tc):=hst.s.ce.2
 have cf0:=hst.s.fz.1
 have cf1:=hst.s.fz.2
 have cr0:wb.cell? ⟨w.heap.size+1+1,0,none⟩=some (.slice none 0 0):=hst.r.ce.1
 have cr1:wb.cell? ⟨w.heap.size+1+1,1,none⟩=some (.slice none 0 0):=hst.r.ce.2
 have cg0:=hst.r.fz.1
 have cg1:=hst.r.fz.2
 have q0:=hst.oc 0 rfl
 have q1:=hst.oc 1 rfl
 have q3:=hst.oc 3 rfl
 unfold stV OpP.val OpP.cells
 unfold stV at kq
 simp only at kp kq ⊢
 rw[show(SV.mk oa ol oc).val = .slice oa ol oc from rfl,show(SV.mk ta tl tc).val = .slice ta tl tc from rfl] at kq ⊢
 clear h hO hst hwf hmo eH eS ha hT htb
 go_enter Tryz.func10,Tryz.ntmps10
 go_upto_region 1 with fail
 rw[←hwb]
 clear hwb
 go_wp2_with fail
 refine kp.mono ?_
 rintro e w2 ⟨rfl,hk2⟩
 clear kp ce0 ce1 cf0 cf1 cr0 cr1 cg0 cg1 q0 q1 q3
 have h2:=(HS.out.same hk2).same (W':=(w2.alloc (.cells #[.int .u64 d.va,.int .u64 d.se,.int .i64 d.fl] 41))) ((Below.refl _ _).alloc (Nat.le_refl _) _)
 have HS2:=(show Hid _ from h2)
 have HX2:Hid (Bx3 (w2.alloc (.cells #[.int .u64 d.va,.int .u64 d.se,.int .i64 d.fl] 41)) w2.heap.size d∧w.heap.size+2<w2.heap.size):=⟨Bx3.box w2 d,by have:=(HS.out.same hk2).r.lt;show _<_;omega⟩
 have kq:=kq _ h2.two
 have ce0:(w2.alloc (.cells #[.int .u64 d.va,.int .u64 d.se,.int .i64 d.fl] 41)).cell? ⟨w.heap.size,0,none⟩=some (.slice oa ol oc):=h2.s.ce.1
 have ce1:(w2.alloc (.cells #[.int .u64 d.va,.int .u64 d.se,.int .i64 d.fl] 41)).cell? ⟨w.heap.size,1,none⟩=some (.slice ta tl tc):=h2.s.ce.2
 have cf0:=h2.s.fz.1
 have cf1:=h2.s.fz.2
 have cr0:(w2.alloc (.cells #[.int .u64 d.va,.int .u64 d.se,.int .i64 d.fl] 41)).cell? ⟨w.heap.size+1+1,0,none⟩=some (.slice none 0 0):=h2.r.ce.1
 have cr1:(w2.alloc (.cells #[.int .u64 d.va,.int .u64 d.se,.int .i64 d.fl] 41)).cell? ⟨w.heap.size+1+1,1,none⟩=some (.slice none 0 0):=h2.r.ce.2
 have cg0:=h2.r.fz.1
 have cg1:=h2.r.fz.2
 have q0:=h2.oc 0 rfl
 have q1:=h2.oc 1 rfl
 have q3:=h2.oc 3 rfl
 clear HS hk2 h2
 go_upto_region 28 with fail
 generalize (w2.alloc (.cells #[.int .u64 d.va,.int .u64 d.se,.int .i64 d.fl] 41))=w2a at *
 generalize w2.heap.size=b2 at *
 go_wp2_with fail
 refine kq.mono ?_
 rintro e w3 ⟨rfl,hk3⟩
 clear kq ce0 ce1 cf0 cf1 cr0 cr1 cg0 cg1 q0 q1 q3
 have h3:=(HS2.out.same hk3).same (W':=(w3.alloc (.cells #[.int .u64 d.va,.int .u64 d.se,.int .i64 d.fl] 41))) ((Below.refl _ _).alloc (Nat.le_refl _) _)
 have HY2:Hid (Bx3 (w3.alloc (.cells #[.int .u64 d.va,.int .u64 d.se,.int .i64 d.fl] 41)) b2 d∧w.heap.size+2<b2):=⟨(HX2.out.1.below hk3).below ((Below.refl _ _).alloc (Nat.le_refl _) _),HX2.out.2⟩
 have HY3:Hid (Bx3 (w3.alloc (.cells #[.int .u64 d.va,.int .u64 d.se,.int .i64 d.fl] 41)) w3.heap.size d∧w.heap.size+2<w3.heap.size):=⟨Bx3.box w3 d,by have:=(HS2.out.same hk3).r.lt;show _<_;omega⟩
 have HS3:=(show Hid _ from h3)
 clear HS2 hk3 h3 HX2
 go_upto_region 29 with fail
 generalize (w3.alloc (.cells #[.int .u64 d.va,.int .u64 d.se,.int .i64 d.fl] 41))=w4 at *
 generalize w3.heap.size=b3 at *
 have h3:=HS3.out
 have ce0:w4.cell? ⟨w.heap.size,0,none⟩=some (.slice oa ol oc):=h3.s.ce.1
 have ce1:w4.cell? ⟨w.heap.size,1,none⟩=some (.slice ta tl tc):=h3.s.ce.2
 have cf0:=h3.s.fz.1
 have cf1:=h3.s.fz.2
 have cr0:w4.cell? ⟨w.heap.size+1+1,0,none⟩=some (.slice none 0 0):=h3.r.ce.1
 have cr1:w4.cell? ⟨w.heap.size+1+1,1,none⟩=some (.slice none 0 0):=h3.r.ce.2
 have cg0:=h3.r.fz.1
 have cg1:=h3.r.fz.2
 obtain⟨x0,x1,x2⟩:=HY2.out.1.ce
 obtain⟨z0,z1,z2⟩:=HY3.out.1.ce
 have h5:=h3.set2 ⟨oa,ol,oc⟩ ⟨ta,tl,tc⟩
 have HF:=(show Hid _ from And.intro h5.r (h5.same (W':=World.drew _) ((Below.refl _ _).drew)).fin)
 rw[show(SV.mk oa ol oc).val = .slice oa ol oc from rfl,show(SV.mk ta tl tc).val = .slice ta tl tc from rfl] at HF
 have o2:((w4.setCell ⟨w.heap.size+1+1,0,none⟩ (.slice oa ol oc)).setCell ⟨w.heap.size+1+1,1,none⟩ (.slice ta tl tc)).heap[b2]?=w4.heap[b2]?:=by
  have hl:=HY2.out.2
  rw[heap_other _ _ _ (show b2≠w.heap.size+1+1 by omega),heap_other _ _ _ (show b2≠w.heap.size+1+1 by omega)]
 have o3:((w4.setCell ⟨w.heap.size+1+1,0,none⟩ (.slice oa ol oc)).setCell ⟨w.heap.size+1+1,1,none⟩ (.slice ta tl tc)).heap[b3]?=w4.heap[b3]?:=by
  have hl:=HY3.out.2
  rw[heap_other _ _ _ (show b3≠w.heap.size+1+1 by omega),heap_other _ _ _ (show b3≠w.heap.size+1+1 by omega)]
 obtain⟨xa,xb,xc⟩:=(show Bx3 _ b2 d from o2.trans HY2.out.1).ce
 obtain⟨za,zb,zc⟩:=(show Bx3 _ b3 d from o3.trans HY3.out.1).ce
 have hdd:(d.va == d.va)=true:=beq_self_eq_true _
 have hde:(d.se == d.se)=true:=beq_self_eq_true _
 have hdf:(d.fl == d.fl)=true:=beq_self_eq_true _
 clear HS3 h3 h5 HY2 HY3 o2 o3
 go_region
 all_goals
  go_wp2_with fail
  refine bodyPost_ret (res2 rfl _ _ (w.heap.size+1+1) 28 _ (0,0) _ rfl HF.out.1 Tryz.underlying28 rfl (by kernel_rfl)) rfl ?_
  exact⟨⟨oa,ol,oc⟩,rfl,HF.out.2⟩
end
end Go.Proofs.YtahhionlbfhinaaGreatDoor.Hp
