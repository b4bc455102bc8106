/- XH -/
import Derived.Test.YtahhionlbfhinabGreatDoorB37
set_option linter.unusedVariables false
set_option linter.unusedSimpArgs false
set_option maxRecDepth 100000
set_option maxHeartbeats 40000000
namespace Go.Proofs.YtahhionlbfhinabGreatDoor.Hp
open Go.RowKit
section
variable {w0 w W W':World}{X:Nat→Prop}{hb:Nat}{H H':He}{S S':List So}{vo vo' vt vt':SV}{ts ts':List ByteArray}{n:Nat}
theorem B3 (w:World)(a b c:Obj):Below w.heap.size w (((w.alloc a).alloc b).alloc c):=by
 have z1:=size_new w a
 have z2:=size_new (w.alloc a) b
 exact below_new (B2 w _ _) (by rw[z2,z1];omega) _
theorem pstep_1 (h:TwoE w0 w X hb H S vo vt ts)(hO:OrP H S ts n)(hT:TbAt w)(hn:n≤1999999999999)(a:OpP)(hk:a.kd=1)(ha:a.wf) :
  Calls Tryz.prog 13 #[.pointer (some ⟨hb,0,none⟩),stV vo vt,a.val] w fun e w'=>∃vo',e = .returned (.tuple #[stV vo' vt,.bool true])∧TwoK w0 w w' X hb (pH H a) (pS S a) vo' vt ts:=by
 obtain⟨kd,oo,op,kk,⟨has,va,ge,se,fl⟩,vv,nn⟩:=a
 obtain rfl:kd=1:=hk
 have HO:Hid (OrP H S ts n):=hO
 have hwf:=h.wf
 have hmo:H.most≤256:=hwf.mo
 have eH:pH H ⟨1,oo,op,kk,⟨has,va,ge,se,fl⟩,vv,nn⟩=(defP H oo kk ⟨has,va,ge,se,fl⟩).2:=pH_1 rfl
 have eS:pS S ⟨1,oo,op,kk,⟨has,va,ge,se,fl⟩,vv,nn⟩=(dfG S oo kk ⟨has,va,ge,se,fl⟩).1:=pS_1 rfl
 rw[eH,eS]
 have kp:=fun W (h:TwoE w0 W (XbP w X) hb H S vo vt ts) (t:TbAt W)=>pdefine_e h HO.out t.fp hn oo ha.o0 ha.o1 kk ha.kl ⟨has,va,ge,se,fl⟩ ha.u
 have kq:=fun H1 W (h:TwoE w0 W (XbP w X) hb H1 S vo vt ts)=>rdefine_e h HO.out hwf hn oo ha.o0 ha.o1 kk ha.kl ⟨has,va,ge,se,fl⟩ ha.u
 have eq:=(HO.out.define hmo oo kk ⟨has,va,ge,se,fl⟩).2
 generalize (defP H oo kk ⟨has,va,ge,se,fl⟩).1=rb at *
 generalize (dfG S oo kk ⟨has,va,ge,se,fl⟩).2=rb2 at *
 subst eq
 have hrr:(rb == rb)=true:=beq_self_eq_true rb
 obtain⟨oa,ol,oc⟩:=vo
 obtain⟨ta,tl,tc⟩:=vt
 have hst:OnP w0 w (((w.alloc (.cells #[.slice oa ol oc,.slice ta tl tc] 33)).alloc (.cells #[.int .i64 1,.int .u64 oo,.int .u64 op,.string kk,.int .i64 has,.int .u64 va,.int .u64 ge,.int .u64 se,.int .i64 fl,.int .u64 vv,.int .i64 nn] 28)).alloc (.cells #[.slice none 0 0,.slice none 0 0] 33)) X hb H S ⟨oa,ol,oc⟩ ⟨ta,tl,tc⟩ ts ⟨oa,ol,oc⟩ ⟨ta,tl,tc⟩ #[.int .i64 1,.int .u64 oo,.int .u64 op,.string kk,.int .i64 has,.int .u64 va,.int .u64 ge,.int .u64 se,.int .i64 fl,.int .u64 vv,.int .i64 nn] .nil .nil:=OnP.start h _
 have htb:TbAt (((w.alloc (.cells #[.slice oa ol oc,.slice ta tl tc] 33)).alloc (.cells #[.int .i64 1,.int .u64 oo,.int .u64 op,.string kk,.int .i64 has,.int .u64 va,.int .u64 ge,.int .u64 se,.int .i64 fl,.int .u64 vv,.int .i64 nn] 28)).alloc (.cells #[.slice none 0 0,.slice none 0 0] 33)):=hT.below (B3 w _ _ _)
 obtain⟨wb,hwb⟩:∃wb,wb=(((w.alloc (.cells #[.slice oa ol oc,.slice ta tl tc] 33)).alloc (.cells #[.int .i64 1,.int .u64 oo,.int .u64 op,.string kk,.int .i64 has,.int .u64 va,.int .u64 ge,.int .u64 se,.int .i64 fl,.int .u64 vv,.int .i64 nn] 28)).alloc (.cells #[.slice none 0 0,.slice none 0 0] 33)):=⟨_,rfl⟩
 rw[←hwb] at hst htb
 have HS:=(show Hid _ from hst)
 have kp:=kp wb hst.two htb
 generalize (defP H oo kk ⟨has,va,ge,se,fl⟩).2=H2 at *
 generalize (dfG S oo kk ⟨has,va,ge,se,fl⟩).1=S2 at *
 have ce0:wb.cell? ⟨w.heap.size,0,none⟩=some (.slice oa ol oc):=hst.s.ce.1
 have ce1:wb.cell? ⟨w.heap.size,1,none⟩=some (.slice ta tl tc):=hst.s.ce.2
 have cf0:=hst.s.fz.1
 have cf1:=hst.s.fz.2
 have cr0:wb.cell? ⟨w.heap.size+1+1,0,none⟩=some (.slice none 0 0):=hst.r.ce.1
 have cr1:wb.cell? ⟨w.heap.size+1+1,1,none⟩=some (.slice none 0 0):=hst.r.ce.2
 have cg0:=hst.r.fz.1
 have cg1:=hst.r.fz.2
 have q0:=hst.oc 0 rfl
 have q1:=hst.oc 1 rfl
 have q3:=hst.oc 3 rfl
 have q4:=hst.oc 4 rfl
 have q5:=hst.oc 5 rfl
 have q6:=hst.oc 6 rfl
 have q7:=hst.oc 7 rfl
 have q8:=hst.oc 8 rfl
 unfold stV OpP.val OpP.cells
 unfold stV wsV at kq
 try unfold wsV at kp
 simp only at kp kq ⊢
 rw[show(SV.mk oa ol oc).val = .slice oa ol oc from rfl,show(SV.mk ta tl tc).val = .slice ta tl tc from rfl] at kq ⊢
 clear h hO hst hwf hmo eH eS ha hT htb
 go_enter Tryz.func13,Tryz.ntmps13
 go_upto_region 1 with fail
 rw[←hwb]
 clear hwb
 go_wp2_with fail
 refine kp.mono ?_
 rintro e w2 ⟨rfl,hk2⟩
 clear kp ce0 ce1 cf0 cf1 cr0 cr1 cg0 cg1 q0 q1 q3 q4 q5 q6 q7 q8
 have h2:=HS.out.call hk2
 have HS2:=(show Hid _ from h2)
 have kq:=kq H2 w2 h2.two
 have ce0:w2.cell? ⟨w.heap.size,0,none⟩=some (.slice oa ol oc):=h2.s.ce.1
 have ce1:w2.cell? ⟨w.heap.size,1,none⟩=some (.slice ta tl tc):=h2.s.ce.2
 have cf0:=h2.s.fz.1
 have cf1:=h2.s.fz.2
 have cr0:w2.cell? ⟨w.heap.size+1+1,0,none⟩=some (.slice none 0 0):=h2.r.ce.1
 have cr1:w2.cell? ⟨w.heap.size+1+1,1,none⟩=some (.slice none 0 0):=h2.r.ce.2
 have cg0:=h2.r.fz.1
 have cg1:=h2.r.fz.2
 have q0:=h2.oc 0 rfl
 have q1:=h2.oc 1 rfl
 have q3:=h2.oc 3 rfl
 have q4:=h2.oc 4 rfl
 have q5:=h2.oc 5 rfl
 have q6:=h2.oc 6 rfl
 have q7:=h2.oc 7 rfl
 have q8:=h2.oc 8 rfl
 clear HS hk2 h2
 go_wp2_with fail
 refine kq.mono ?_
 rintro e w3 ⟨rfl,hk3⟩
 clear kq ce0 ce1 cf0 cf1 cr0 cr1 cg0 cg1 q0 q1 q3 q4 q5 q6 q7 q8
 have h3:=HS2.out.call hk3
 have h4:=h3.same (W':=(w3.alloc (.cells #[.slice oa ol oc,.slice ta tl tc] 33))) ((Below.refl _ _).alloc (Nat.le_refl _) _)
 have h5:=h4.set2 ⟨oa,ol,oc⟩ ⟨ta,tl,tc⟩
 have HF:=(show Hid _ from And.intro h5.r h5.fin)
 rw[show(SV.mk oa ol oc).val = .slice oa ol oc from rfl,show(SV.mk ta tl tc).val = .slice ta tl tc from rfl] at HF
 have ce0:(w3.alloc (.cells #[.slice oa ol oc,.slice ta tl tc] 33)).cell? ⟨w.heap.size,0,none⟩=some (.slice oa ol oc):=h4.s.ce.1
 have ce1:(w3.alloc (.cells #[.slice oa ol oc,.slice ta tl tc] 33)).cell? ⟨w.heap.size,1,none⟩=some (.slice ta tl tc):=h4.s.ce.2
 have cf0:=h4.s.fz.1
 have cf1:=h4.s.fz.2
 have cr0:(w3.alloc (.cells #[.slice oa ol oc,.slice ta tl tc] 33)).cell? ⟨w.heap.size+1+1,0,none⟩=some (.slice none 0 0):=h4.r.ce.1
 have cr1:(w3.alloc (.cells #[.slice oa ol oc,.slice ta tl tc] 33)).cell? ⟨w.heap.size+1+1,1,none⟩=some (.slice none 0 0):=h4.r.ce.2
 have cg0:=h4.r.fz.1
 have cg1:=h4.r.fz.2
 have q0:=h4.oc 0 rfl
 have q1:=h4.oc 1 rfl
 have q3:=h4.oc 3 rfl
 have q4:=h4.oc 4 rfl
 have q5:=h4.oc 5 rfl
 have q6:=h4.oc 6 rfl
 have q7:=h4.oc 7 rfl
 have q8:=h4.oc 8 rfl
 have bx:BxS (w3.alloc (.cells #[.slice oa ol oc,.slice ta tl tc] 33)) w3.heap.size ⟨oa,ol,oc⟩ ⟨ta,tl,tc⟩:=at_new _ _
 obtain⟨x0,x1⟩:=bx.ce
 rw[show(SV.mk oa ol oc).val = .slice oa ol oc from rfl] at x0
 rw[show(SV.mk ta tl tc).val = .slice ta tl tc from rfl] at x1
 clear HS2 hk3 h3 h4 h5 bx
 go_upto_region 9 with fail
 generalize (w3.alloc (.cells #[.slice oa ol oc,.slice ta tl tc] 33))=w4 at *
 generalize w3.heap.size=b3 at *
 go_wp2_with fail
 refine bodyPost_ret (res2 rfl _ _ (w.heap.size+1+1) 33 _ (0,0) _ rfl HF.out.1 Tryz.underlying33 rfl (by kernel_rfl)) rfl ?_
 exact⟨⟨oa,ol,oc⟩,rfl,HF.out.2⟩
theorem pstep_2 (h:TwoE w0 w X hb H S vo vt ts)(hO:OrP H S ts n)(hT:TbAt w)(hn:n≤1999999999999)(a:OpP)(hk:a.kd=2)(ha:a.wf) :
  Calls Tryz.prog 13 #[.pointer (some ⟨hb,0,none⟩),stV vo vt,a.val] w fun e w'=>∃vo',e = .returned (.tuple #[stV vo' vt,.bool true])∧TwoK w0 w w' X hb (pH H a) (pS S a) vo' vt ts:=by
 obtain⟨kd,oo,op,kk,⟨has,va,ge,se,fl⟩,vv,nn⟩:=a
 obtain rfl:kd=2:=hk
 have HO:Hid (OrP H S ts n):=hO
 have hwf:=h.wf
 have hmo:H.most≤256:=hwf.mo
 have eH:pH H ⟨2,oo,op,kk,⟨has,va,ge,se,fl⟩,vv,nn⟩=(delP H oo kk).2:=pH_2 rfl
 have eS:pS S ⟨2,oo,op,kk,⟨has,va,ge,se,fl⟩,vv,nn⟩=(delG' S oo kk).1:=pS_2 rfl
 rw[eH,eS]
 have kp:=fun W (h:TwoE w0 W (XbP w X) hb H S vo vt ts) (t:TbAt W)=>pdelete_e h HO.out oo ha.o0 ha.o1 kk ha.kl
 have kq:=fun H1 W (h:TwoE w0 W (XbP w X) hb H1 S vo vt ts)=>rdelete_e h HO.out hwf hn oo ha.o0 ha.o1 kk ha.kl
 have eq:=(HO.out.delete oo kk).2
 generalize (delP H oo kk).1=rb at *
 generalize (delG' S oo kk).2=rb2 at *
 subst eq
 have hrr:(rb == rb)=true:=beq_self_eq_true rb
 obtain⟨oa,ol,oc⟩:=vo
 obtain⟨ta,tl,tc⟩:=vt
 have hst:OnP w0 w (((w.alloc (.cells #[.slice oa ol oc,.slice ta tl tc] 33)).alloc (.cells #[.int .i64 2,.int .u64 oo,.int .u64 op,.string kk,.int .i64 has,.int .u64 va,.int .u64 ge,.int .u64 se,.int .i64 fl,.int .u64 vv,.int .i64 nn] 28)).alloc (.cells #[.slice none 0 0,.slice none 0 0] 33)) X hb H S ⟨oa,ol,oc⟩ ⟨ta,tl,tc⟩ ts ⟨oa,ol,oc⟩ ⟨ta,tl,tc⟩ #[.int .i64 2,.int .u64 oo,.int .u64 op,.string kk,.int .i64 has,.int .u64 va,.int .u64 ge,.int .u64 se,.int .i64 fl,.int .u64 vv,.int .i64 nn] .nil .nil:=OnP.start h _
 have htb:TbAt (((w.alloc (.cells #[.slice oa ol oc,.slice ta tl tc] 33)).alloc (.cells #[.int .i64 2,.int .u64 oo,.int .u64 op,.string kk,.int .i64 has,.int .u64 va,.int .u64 ge,.int .u64 se,.int .i64 fl,.int .u64 vv,.int .i64 nn] 28)).alloc (.cells #[.slice none 0 0,.slice none 0 0] 33)):=hT.below (B3 w _ _ _)
 obtain⟨wb,hwb⟩:∃wb,wb=(((w.alloc (.cells #[.slice oa ol oc,.slice ta tl tc] 33)).alloc (.cells #[.int .i64 2,.int .u64 oo,.int .u64 op,.string kk,.int .i64 has,.int .u64 va,.int .u64 ge,.int .u64 se,.int .i64 fl,.int .u64 vv,.int .i64 nn] 28)).alloc (.cells #[.slice none 0 0,.slice none 0 0] 33)):=⟨_,rfl⟩
 rw[←hwb] at hst htb
 have HS:=(show Hid _ from hst)
 have kp:=kp wb hst.two htb
 generalize (delP H oo kk).2=H2 at *
 generalize (delG' S oo kk).1=S2 at *
 have ce0:wb.cell? ⟨w.heap.size,0,none⟩=some (.slice oa ol oc):=hst.s.ce.1
 have ce1:wb.cell? ⟨w.heap.size,1,none⟩=some (.slice ta tl tc):=hst.s.ce.2
 have cf0:=hst.s.fz.1
 have cf1:=hst.s.fz.2
 have cr0:wb.cell? ⟨w.heap.size+1+1,0,none⟩=some (.slice none 0 0):=hst.r.ce.1
 have cr1:wb.cell? ⟨w.heap.size+1+1,1,none⟩=some (.slice none 0 0):=hst.r.ce.2
 have cg0:=hst.r.fz.1
 have cg1:=hst.r.fz.2
 have q0:=hst.oc 0 rfl
 have q1:=hst.oc 1 rfl
 have q3:=hst.oc 3 rfl
 unfold stV OpP.val OpP.cells
 unfold stV at kq
 simp only at kp kq ⊢
 rw[show(SV.mk oa ol oc).val = .slice oa ol oc from rfl,show(SV.mk ta tl tc).val = .slice ta tl tc from rfl] at kq ⊢
 clear h hO hst hwf hmo eH eS ha hT htb
 go_enter Tryz.func13,Tryz.ntmps13
 go_upto_region 1 with fail
 rw[←hwb]
 clear hwb
 go_wp2_with fail
 refine kp.mono ?_
 rintro e w2 ⟨rfl,hk2⟩
 clear kp ce0 ce1 cf0 cf1 cr0 cr1 cg0 cg1 q0 q1 q3
 have h2:=HS.out.call hk2
 have HS2:=(show Hid _ from h2)
 have kq:=kq H2 w2 h2.two
 have ce0:w2.cell? ⟨w.heap.size,0,none⟩=some (.slice oa ol oc):=h2.s.ce.1
 have ce1:w2.cell? ⟨w.heap.size,1,none⟩=some (.slice ta tl tc):=h2.s.ce.2
 have cf0:=h2.s.fz.1
 have cf1:=h2.s.fz.2
 have cr0:w2.cell? ⟨w.heap.size+1+1,0,none⟩=some (.slice none 0 0):=h2.r.ce.1
 have cr1:w2.cell? ⟨w.heap.size+1+1,1,none⟩=some (.slice none 0 0):=h2.r.ce.2
 have cg0:=h2.r.fz.1
 have cg1:=h2.r.fz.2
 have q0:=h2.oc 0 rfl
 have q1:=h2.oc 1 rfl
 have q3:=h2.oc 3 rfl
 clear HS hk2 h2
 go_wp2_with fail
 refine kq.mono ?_
 rintro e w3 ⟨rfl,hk3⟩
 clear kq ce0 ce1 cf0 cf1 cr0 cr1 cg0 cg1 q0 q1 q3
 have h3:=HS2.out.call hk3
 have h4:=h3.same (W':=(w3.alloc (.cells #[.slice oa ol oc,.slice ta tl tc] 33))) ((Below.refl _ _).alloc (Nat.le_refl _) _)
 have h5:=h4.set2 ⟨oa,ol,oc⟩ ⟨ta,tl,tc⟩
 have HF:=(show Hid _ from And.intro h5.r h5.fin)
 rw[show(SV.mk oa ol oc).val = .slice oa ol oc from rfl,show(SV.mk ta tl tc).val = .slice ta tl tc from rfl] at HF
 have ce0:(w3.alloc (.cells #[.slice oa ol oc,.slice ta tl tc] 33)).cell? ⟨w.heap.size,0,none⟩=some (.slice oa ol oc):=h4.s.ce.1
 have ce1:(w3.alloc (.cells #[.slice oa ol oc,.slice ta tl tc] 33)).cell? ⟨w.heap.size,1,none⟩=some (.slice ta tl tc):=h4.s.ce.2
 have cf0:=h4.s.fz.1
 have cf1:=h4.s.fz.2
 have cr0:(w3.alloc (.cells #[.slice oa ol oc,.slice ta tl tc] 33)).cell? ⟨w.heap.size+1+1,0,none⟩=some (.slice none 0 0):=h4.r.ce.1
 have cr1:(w3.alloc (.cells #[.slice oa ol oc,.slice ta tl tc] 33)).cell? ⟨w.heap.size+1+1,1,none⟩=some (.slice none 0 0):=h4.r.ce.2
 have cg0:=h4.r.fz.1
 have cg1:=h4.r.fz.2
 have q0:=h4.oc 0 rfl
 have q1:=h4.oc 1 rfl
 have q3:=h4.oc 3 rfl
 have bx:BxS (w3.alloc (.cells #[.slice oa ol oc,.slice ta tl tc] 33)) w3.heap.size ⟨oa,ol,oc⟩ ⟨ta,tl,tc⟩:=at_new _ _
 obtain⟨x0,x1⟩:=bx.ce
 rw[show(SV.mk oa ol oc).val = .slice oa ol oc from rfl] at x0
 rw[show(SV.mk ta tl tc).val = .slice ta tl tc from rfl] at x1
 clear HS2 hk3 h3 h4 h5 bx
 go_upto_region 13 with fail
 generalize (w3.alloc (.cells #[.slice oa ol oc,.slice ta tl tc] 33))=w4 at *
 generalize w3.heap.size=b3 at *
 go_wp2_with fail
 refine bodyPost_ret (res2 rfl _ _ (w.heap.size+1+1) 33 _ (0,0) _ rfl HF.out.1 Tryz.underlying33 rfl (by kernel_rfl)) rfl ?_
 exact⟨⟨oa,ol,oc⟩,rfl,HF.out.2⟩
theorem pstep_4 (h:TwoE w0 w X hb H S vo vt ts)(hO:OrP H S ts n)(hT:TbAt w)(hn:n≤1999999999999)(a:OpP)(hk:a.kd=4)(ha:a.wf) :
  Calls Tryz.prog 13 #[.pointer (some ⟨hb,0,none⟩),stV vo vt,a.val] w fun e w'=>∃vo',e = .returned (.tuple #[stV vo' vt,.bool true])∧TwoK w0 w w' X hb (pH H a) (pS S a) vo' vt ts:=by
 obtain⟨kd,oo,op,kk,⟨has,va,ge,se,fl⟩,vv,nn⟩:=a
 obtain rfl:kd=4:=hk
 have HO:Hid (OrP H S ts n):=hO
 have hwf:=h.wf
 have hmo:H.most≤256:=hwf.mo
 have eH:pH H ⟨4,oo,op,kk,⟨has,va,ge,se,fl⟩,vv,nn⟩=(spP H oo op).2:=pH_4 rfl
 have eS:pS S ⟨4,oo,op,kk,⟨has,va,ge,se,fl⟩,vv,nn⟩=(spG S oo op).1:=pS_4 rfl
 rw[eH,eS]
 have kp:=fun W (h:TwoE w0 W (XbP w X) hb H S vo vt ts) (t:TbAt W)=>psetProto_e h HO.out oo ha.o0 ha.o1 op ha.p0 ha.p1
 have kq:=fun H1 W (h:TwoE w0 W (XbP w X) hb H1 S vo vt ts)=>rsetProto_e h HO.out hwf oo ha.o0 ha.o1 op ha.p0 ha.p1
 have eq:=(HO.out.setProto hmo oo op).2
 generalize (spP H oo op).1=rb at *
 generalize (spG S oo op).2=rb2 at *
 subst eq
 have hrr:(rb == rb)=true:=beq_self_eq_true rb
 obtain⟨oa,ol,oc⟩:=vo
 obtain⟨ta,tl,tc⟩:=vt
 have hst:OnP w0 w (((w.alloc (.cells #[.slice oa ol oc,.slice ta tl tc] 33)).alloc (.cells #[.int .i64 4,.int .u64 oo,.int .u64 op,.string kk,.int .i64 has,.int .u64 va,.int .u64 ge,.int .u64 se,.int .i64 fl,.int .u64 vv,.int .i64 nn] 28)).alloc (.cells #[.slice none 0 0,.slice none 0 0] 33)) X hb H S ⟨oa,ol,oc⟩ ⟨ta,tl,tc⟩ ts ⟨oa,ol,oc⟩ ⟨ta,tl,tc⟩ #[.int .i64 4,.int .u64 oo,.int .u64 op,.string kk,.int .i64 has,.int .u64 va,.int .u64 ge,.int .u64 se,.int .i64 fl,.int .u64 vv,.int .i64 nn] .nil .nil:=OnP.start h _
 have htb:TbAt (((w.alloc (.cells #[.slice oa ol oc,.slice ta tl tc] 33)).alloc (.cells #[.int .i64 4,.int .u64 oo,.int .u64 op,.string kk,.int .i64 has,.int .u64 va,.int .u64 ge,.int .u64 se,.int .i64 fl,.int .u64 vv,.int .i64 nn] 28)).alloc (.cells #[.slice none 0 0,.slice none 0 0] 33)):=hT.below (B3 w _ _ _)
 obtain⟨wb,hwb⟩:∃wb,wb=(((w.alloc (.cells #[.slice oa ol oc,.slice ta tl tc] 33)).alloc (.cells #[.int .i64 4,.int .u64 oo,.int .u64 op,.string kk,.int .i64 has,.int .u64 va,.int .u64 ge,.int .u64 se,.int .i64 fl,.int .u64 vv,.int .i64 nn] 28)).alloc (.cells #[.slice none 0 0,.slice none 0 0] 33)):=⟨_,rfl⟩
 rw[←hwb] at hst htb
 have HS:=(show Hid _ from hst)
 have kp:=kp wb hst.two htb
 generalize (spP H oo op).2=H2 at *
 generalize (spG S oo op).1=S2 at *
 have ce0:wb.cell? ⟨w.heap.size,0,none⟩=some (.slice oa ol oc):=hst.s.ce.1
 have ce1:wb.cell? ⟨w.heap.size,1,none⟩=some (.slice ta tl tc):=hst.s.ce.2
 have cf0:=hst.s.fz.1
 have cf1:=hst.s.fz.2
 have cr0:wb.cell? ⟨w.heap.size+1+1,0,none⟩=some (.slice none 0 0):=hst.r.ce.1
 have cr1:wb.cell? ⟨w.heap.size+1+1,1,none⟩=some (.slice none 0 0):=hst.r.ce.2
 have cg0:=hst.r.fz.1
 have cg1:=hst.r.fz.2
 have q0:=hst.oc 0 rfl
 have q1:=hst.oc 1 rfl
 have q2:=hst.oc 2 rfl
 unfold stV OpP.val OpP.cells
 unfold stV at kq
 simp only at kp kq ⊢
 rw[show(SV.mk oa ol oc).val = .slice oa ol oc from rfl,show(SV.mk ta tl tc).val = .slice ta tl tc from rfl] at kq ⊢
 clear h hO hst hwf hmo eH eS ha hT htb
 go_enter Tryz.func13,Tryz.ntmps13
 go_upto_region 1 with fail
 rw[←hwb]
 clear hwb
 go_wp2_with fail
 refine kp.mono ?_
 rintro e w2 ⟨rfl,hk2⟩
 clear kp ce0 ce1 cf0 cf1 cr0 cr1 cg0 cg1 q0 q1 q2
 have h2:=HS.out.call hk2
 have HS2:=(show Hid _ from h2)
 have kq:=kq H2 w2 h2.two
 have ce0:w2.cell? ⟨w.heap.size,0,none⟩=some (.slice oa ol oc):=h2.s.ce.1
 have ce1:w2.cell? ⟨w.heap.size,1,none⟩=some (.slice ta tl tc):=h2.s.ce.2
 have cf0:=h2.s.fz.1
 have cf1:=h2.s.fz.2
 have cr0:w2.cell? ⟨w.heap.size+1+1,0,none⟩=some (.slice none 0 0):=h2.r.ce.1
 have cr1:w2.cell? ⟨w.heap.size+1+1,1,none⟩=some (.slice none 0 0):=h2.r.ce.2
 have cg0:=h2.r.fz.1
 have cg1:=h2.r.fz.2
 have q0:=h2.oc 0 rfl
 have q1:=h2.oc 1 rfl
 have q2:=h2.oc 2 rfl
 clear HS hk2 h2
 go_wp2_with fail
 refine kq.mono ?_
 rintro e w3 ⟨rfl,hk3⟩
 clear kq ce0 ce1 cf0 cf1 cr0 cr1 cg0 cg1 q0 q1 q2
 have h3:=HS2.out.call hk3
 have h4:=h3.same (W':=(w3.alloc (.cells #[.slice oa ol oc,.slice ta tl tc] 33))) ((Below.refl _ _).alloc (Nat.le_refl _) _)
 have h5:=h4.set2 ⟨oa,ol,oc⟩ ⟨ta,tl,tc⟩
 have HF:=(show Hid _ from And.intro h5.r h5.fin)
 rw[show(SV.mk oa ol oc).val = .slice oa ol oc from rfl,show(SV.mk ta tl tc).val = .slice ta tl tc from rfl] at HF
 have ce0:(w3.alloc (.cells #[.slice oa ol oc,.slice ta tl tc] 33)).cell? ⟨w.heap.size,0,none⟩=some (.slice oa ol oc):=h4.s.ce.1
 have ce1:(w3.alloc (.cells #[.slice oa ol oc,.slice ta tl tc] 33)).cell? ⟨w.heap.size,1,none⟩=some (.slice ta tl tc):=h4.s.ce.2
 have cf0:=h4.s.fz.1
 have cf1:=h4.s.fz.2
 have cr0:(w3.alloc (.cells #[.slice oa ol oc,.slice ta tl tc] 33)).cell? ⟨w.heap.size+1+1,0,none⟩=some (.slice none 0 0):=h4.r.ce.1
 have cr1:(w3.alloc (.cells #[.slice oa ol oc,.slice ta tl tc] 33)).cell? ⟨w.heap.size+1+1,1,none⟩=some (.slice none 0 0):=h4.r.ce.2
 have cg0:=h4.r.fz.1
 have cg1:=h4.r.fz.2
 have q0:=h4.oc 0 rfl
 have q1:=h4.oc 1 rfl
 have q2:=h4.oc 2 rfl
 have bx:BxS (w3.alloc (.cells #[.slice oa ol oc,.slice ta tl tc] 33)) w3.heap.size ⟨oa,ol,oc⟩ ⟨ta,tl,tc⟩:=at_new _ _
 obtain⟨x0,x1⟩:=bx.ce
 rw[show(SV.mk oa ol oc).val = .slice oa ol oc from rfl] at x0
 rw[show(SV.mk ta tl tc).val = .slice ta tl tc from rfl] at x1
 clear HS2 hk3 h3 h4 h5 bx
 go_upto_region 21 with fail
 generalize (w3.alloc (.cells #[.slice oa ol oc,.slice ta tl tc] 33))=w4 at *
 generalize w3.heap.size=b3 at *
 go_wp2_with fail
 refine bodyPost_ret (res2 rfl _ _ (w.heap.size+1+1) 33 _ (0,0) _ rfl HF.out.1 Tryz.underlying33 rfl (by kernel_rfl)) rfl ?_
 exact⟨⟨oa,ol,oc⟩,rfl,HF.out.2⟩
theorem pstep_0 (h:TwoE w0 w X hb H S vo vt ts)(hO:OrP H S ts n)(hT:TbAt w)(hn:n≤1999999999999)(a:OpP)(hk:a.kd=0)(ha:a.wf) :
  Calls Tryz.prog 13 #[.pointer (some ⟨hb,0,none⟩),stV vo vt,a.val] w fun e w'=>∃vo',e = .returned (.tuple #[stV vo' vt,.bool true])∧TwoK w0 w w' X hb (pH H a) (pS S a) vo' vt ts:=by
 obtain⟨kd,oo,op,kk,⟨has,va,ge,se,fl⟩,vv,nn⟩:=a
 obtain rfl:kd=0:=hk
 have HO:Hid (OrP H S ts n):=hO
 have hwf:=h.wf
 have hmo:H.most≤256:=hwf.mo
 have eH:pH H ⟨0,oo,op,kk,⟨has,va,ge,se,fl⟩,vv,nn⟩=makeF H nn op:=pH_0 rfl
 have eS:pS S ⟨0,oo,op,kk,⟨has,va,ge,se,fl⟩,vv,nn⟩=makeG S nn op:=pS_0 rfl
 rw[eH,eS]
 have kp:=fun W (h:TwoE w0 W (XbP w X) hb H S vo vt ts) (t:TbAt W)=>make_e h nn op ha.p0 ha.p1
 have kq:=fun H1 W (h:TwoE w0 W (XbP w X) hb H1 S vo vt ts)=>rmake_e h nn op ha.p0 ha.p1
 rw[hO.rel.no nn op,hO.rel.len] at kp
 generalize (if noS S nn op=true then undW else objW (S.length:Int))=AN at *
 generalize (!noS S nn op)=AB at *
 have hrr:(AB == AB)=true:=beq_self_eq_true AB
 have hnn:(AN == AN)=true:=beq_self_eq_true AN
 obtain⟨oa,ol,oc⟩:=vo
 obtain⟨ta,tl,tc⟩:=vt
 have hst:OnP w0 w (((w.alloc (.cells #[.slice oa ol oc,.slice ta tl tc] 33)).alloc (.cells #[.int .i64 0,.int .u64 oo,.int .u64 op,.string kk,.int .i64 has,.int .u64 va,.int .u64 ge,.int .u64 se,.int .i64 fl,.int .u64 vv,.int .i64 nn] 28)).alloc (.cells #[.slice none 0 0,.slice none 0 0] 33)) X hb H S ⟨oa,ol,oc⟩ ⟨ta,tl,tc⟩ ts ⟨oa,ol,oc⟩ ⟨ta,tl,tc⟩ #[.int .i64 0,.int .u64 oo,.int .u64 op,.string kk,.int .i64 has,.int .u64 va,.int .u64 ge,.int .u64 se,.int .i64 fl,.int .u64 vv,.int .i64 nn] .nil .nil:=OnP.start h _
 have htb:TbAt (((w.alloc (.cells #[.slice oa ol oc,.slice ta tl tc] 33)).alloc (.cells #[.int .i64 0,.int .u64 oo,.int .u64 op,.string kk,.int .i64 has,.int .u64 va,.int .u64 ge,.int .u64 se,.int .i64 fl,.int .u64 vv,.int .i64 nn] 28)).alloc (.cells #[.slice none 0 0,.slice none 0 0] 33)):=hT.below (B3 w _ _ _)
 obtain⟨wb,hwb⟩:∃wb,wb=(((w.alloc (.cells #[.slice oa ol oc,.slice ta tl tc] 33)).alloc (.cells #[.int .i64 0,.int .u64 oo,.int .u64 op,.string kk,.int .i64 has,.int .u64 va,.int .u64 ge,.int .u64 se,.int .i64 fl,.int .u64 vv,.int .i64 nn] 28)).alloc (.cells #[.slice none 0 0,.slice none 0 0] 33)):=⟨_,rfl⟩
 rw[←hwb] at hst htb
 have HS:=(show Hid _ from hst)
 have kp:=kp wb hst.two htb
 generalize makeF H nn op=H2 at *
 generalize makeG S nn op=S2 at *
 have ce0:wb.cell? ⟨w.heap.size,0,none⟩=some (.slice oa ol oc):=hst.s.ce.1
 have ce1:wb.cell? ⟨w.heap.size,1,none⟩=some (.slice ta tl tc):=hst.s.ce.2
 have cf0:=hst.s.fz.1
 have cf1:=hst.s.fz.2
 have cr0:wb.cell? ⟨w.heap.size+1+1,0,none⟩=some (.slice none 0 0):=hst.r.ce.1
 have cr1:wb.cell? ⟨w.heap.size+1+1,1,none⟩=some (.slice none 0 0):=hst.r.ce.2
 have cg0:=hst.r.fz.1
 have cg1:=hst.r.fz.2
 have q0:=hst.oc 0 rfl
 have q2:=hst.oc 2 rfl
 have q10:=hst.oc 10 rfl
 unfold stV OpP.val OpP.cells
 unfold stV at kq
 simp only at kp kq ⊢
 rw[show(SV.mk oa ol oc).val = .slice oa ol oc from rfl,show(SV.mk ta tl tc).val = .slice ta tl tc from rfl] at kq ⊢
 clear h hO hst hwf hmo eH eS ha hT htb
 go_enter Tryz.func13,Tryz.ntmps13
 go_upto_region 1 with fail
 rw[←hwb]
 clear hwb
 go_wp2_with fail
 refine kp.mono ?_
 rintro e w2 ⟨rfl,hk2⟩
 clear kp ce0 ce1 cf0 cf1 cr0 cr1 cg0 cg1 q0 q2 q10
 have h2:=HS.out.call hk2
 have HS2:=(show Hid _ from h2)
 have kq:=kq H2 w2 h2.two
 have ce0:w2.cell? ⟨w.heap.size,0,none⟩=some (.slice oa ol oc):=h2.s.ce.1
 have ce1:w2.cell? ⟨w.heap.size,1,none⟩=some (.slice ta tl tc):=h2.s.ce.2
 have cf0:=h2.s.fz.1
 have cf1:=h2.s.fz.2
 have cr0:w2.cell? ⟨w.heap.size+1+1,0,none⟩=some (.slice none 0 0):=h2.r.ce.1
 have cr1:w2.cell? ⟨w.heap.size+1+1,1,none⟩=some (.slice none 0 0):=h2.r.ce.2
 have cg0:=h2.r.fz.1
 have cg1:=h2.r.fz.2
 have q0:=h2.oc 0 rfl
 have q2:=h2.oc 2 rfl
 have q10:=h2.oc 10 rfl
 clear HS hk2 h2
 go_wp2_with fail
 refine kq.mono ?_
 rintro e w3 ⟨⟨ga,gl,gc⟩,rfl,hk3⟩
 clear kq ce0 ce1 cf0 cf1 cr0 cr1 cg0 cg1 q0 q2 q10
 rw[show(SV.mk ga gl gc).val = .slice ga gl gc from rfl]
 have h3:=HS2.out.call hk3
 have h4:=h3.same (W':=(w3.alloc (.cells #[.slice ga gl gc,.slice ta tl tc] 33))) ((Below.refl _ _).alloc (Nat.le_refl _) _)
 have h5:=h4.set2 ⟨ga,gl,gc⟩ ⟨ta,tl,tc⟩
 have HF:=(show Hid _ from And.intro h5.r h5.fin)
 rw[show(SV.mk ga gl gc).val = .slice ga gl gc from rfl,show(SV.mk ta tl tc).val = .slice ta tl tc from rfl] at HF
 have ce0:(w3.alloc (.cells #[.slice ga gl gc,.slice ta tl tc] 33)).cell? ⟨w.heap.size,0,none⟩=some (.slice oa ol oc):=h4.s.ce.1
 have ce1:(w3.alloc (.cells #[.slice ga gl gc,.slice ta tl tc] 33)).cell? ⟨w.heap.size,1,none⟩=some (.slice ta tl tc):=h4.s.ce.2
 have cf0:=h4.s.fz.1
 have cf1:=h4.s.fz.2
 have cr0:(w3.alloc (.cells #[.slice ga gl gc,.slice ta tl tc] 33)).cell? ⟨w.heap.size+1+1,0,none⟩=some (.slice none 0 0):=h4.r.ce.1
 have cr1:(w3.alloc (.cells #[.slice ga gl gc,.slice ta tl tc] 33)).cell? ⟨w.heap.size+1+1,1,none⟩=some (.slice none 0 0):=h4.r.ce.2
 have cg0:=h4.r.fz.1
 have cg1:=h4.r.fz.2
 have q0:=h4.oc 0 rfl
 have q2:=h4.oc 2 rfl
 have q10:=h4.oc 10 rfl
 have bx:BxS (w3.alloc (.cells #[.slice ga gl gc,.slice ta tl tc] 33)) w3.heap.size ⟨ga,gl,gc⟩ ⟨ta,tl,tc⟩:=at_new _ _
 obtain⟨x0,x1⟩:=bx.ce
 rw[show(SV.mk ga gl gc).val = .slice ga gl gc from rfl] at x0
 rw[show(SV.mk ta tl tc).val = .slice ta tl tc from rfl] at x1
 clear HS2 hk3 h3 h4 h5 bx
 go_upto_region 5 with fail
 generalize (w3.alloc (.cells #[.slice ga gl gc,.slice ta tl tc] 33))=w4 at *
 generalize w3.heap.size=b3 at *
 go_wp2_with fail
 refine bodyPost_ret (res2 rfl _ _ (w.heap.size+1+1) 33 _ (0,0) _ rfl HF.out.1 Tryz.underlying33 rfl (by kernel_rfl)) rfl ?_
 exact⟨⟨ga,gl,gc⟩,rfl,HF.out.2⟩
theorem pstep_3 (h:TwoE w0 w X hb H S vo vt ts)(hO:OrP H S ts n)(hT:TbAt w)(hn:n≤1999999999999)(a:OpP)(hk:a.kd=3)(ha:a.wf) :
  Calls Tryz.prog 13 #[.pointer (some ⟨hb,0,none⟩),stV vo vt,a.val] w fun e w'=>∃vo',e = .returned (.tuple #[stV vo' vt,.bool true])∧TwoK w0 w w' X hb (pH H a) (pS S a) vo' vt ts:=by
 obtain⟨kd,oo,op,kk,⟨has,va,ge,se,fl⟩,vv,nn⟩:=a
 obtain rfl:kd=3:=hk
 have HO:Hid (OrP H S ts n):=hO
 have hwf:=h.wf
 have hmo:H.most≤256:=hwf.mo
 have eH:pH H ⟨3,oo,op,kk,⟨has,va,ge,se,fl⟩,vv,nn⟩=(asgP H oo kk vv H.obs.length).2.2:=pH_3 rfl
 have eS:pS S ⟨3,oo,op,kk,⟨has,va,ge,se,fl⟩,vv,nn⟩=(asgG S oo kk vv).2.2:=pS_3 rfl
 rw[eH,eS]
 have kp:=fun W (h:TwoE w0 W (XbP w X) hb H S vo vt ts) (t:TbAt W)=>passign_e h HO.out t.fp hn oo ha.o0 ha.o1 kk ha.kl vv ha.v
 have kq:=fun H1 W (h:TwoE w0 W (XbP w X) hb H1 S vo vt ts)=>rassign_e h HO.out hwf hn oo ha.o0 ha.o1 kk ha.kl vv ha.v
 obtain⟨_,eq1,eq2⟩:=HO.out.assign hmo oo kk vv
 generalize (asgP H oo kk vv H.obs.length).1=ra at *
 generalize (asgP H oo kk vv H.obs.length).2.1=rb at *
 generalize (asgG S oo kk vv).1=ra2 at *
 generalize (asgG S oo kk vv).2.1=rb2 at *
 subst eq1 eq2
 have hrr:(rb == rb)=true:=beq_self_eq_true rb
 have hnn:(ra == ra)=true:=beq_self_eq_true ra
 obtain⟨oa,ol,oc⟩:=vo
 obtain⟨ta,tl,tc⟩:=vt
 have hst:OnP w0 w (((w.alloc (.cells #[.slice oa ol oc,.slice ta tl tc] 33)).alloc (.cells #[.int .i64 3,.int .u64 oo,.int .u64 op,.string kk,.int .i64 has,.int .u64 va,.int .u64 ge,.int .u64 se,.int .i64 fl,.int .u64 vv,.int .i64 nn] 28)).alloc (.cells #[.slice none 0 0,.slice none 0 0] 33)) X hb H S ⟨oa,ol,oc⟩ ⟨ta,tl,tc⟩ ts ⟨oa,ol,oc⟩ ⟨ta,tl,tc⟩ #[.int .i64 3,.int .u64 oo,.int .u64 op,.string kk,.int .i64 has,.int .u64 va,.int .u64 ge,.int .u64 se,.int .i64 fl,.int .u64 vv,.int .i64 nn] .nil .nil:=OnP.start h _
 have htb:TbAt (((w.alloc (.cells #[.slice oa ol oc,.slice ta tl tc] 33)).alloc (.cells #[.int .i64 3,.int .u64 oo,.int .u64 op,.string kk,.int .i64 has,.int .u64 va,.int .u64 ge,.int .u64 se,.int .i64 fl,.int .u64 vv,.int .i64 nn] 28)).alloc (.cells #[.slice none 0 0,.slice none 0 0] 33)):=hT.below (B3 w _ _ _)
 obtain⟨wb,hwb⟩:∃wb,wb=(((w.alloc (.cells #[.slice oa ol oc,.slice ta tl tc] 33)).alloc (.cells #[.int .i64 3,.int .u64 oo,.int .u64 op,.string kk,.int .i64 has,.int .u64 va,.int .u64 ge,.int .u64 se,.int .i64 fl,.int .u64 vv,.int .i64 nn] 28)).alloc (.cells #[.slice none 0 0,.slice none 0 0] 33)):=⟨_,rfl⟩
 rw[←hwb] at hst htb
 have HS:=(show Hid _ from hst)
 have kp:=kp wb hst.two htb
 generalize (asgP H oo kk vv H.obs.length).2.2=H2 at *
 generalize (asgG S oo kk vv).2.2=S2 at *
 have ce0:wb.cell? ⟨w.heap.size,0,none⟩=some (.slice oa ol oc):=hst.s.ce.1
 have ce1:wb.cell? ⟨w.heap.size,1,none⟩=some (.slice ta tl tc):=hst.s.ce.2
 have cf0:=hst.s.fz.1
 have cf1:=hst.s.fz.2
 have cr0:wb.cell? ⟨w.heap.size+1+1,0,none⟩=some (.slice none 0 0):=hst.r.ce.1
 have cr1:wb.cell? ⟨w.heap.size+1+1,1,none⟩=some (.slice none 0 0):=hst.r.ce.2
 have cg0:=hst.r.fz.1
 have cg1:=hst.r.fz.2
 have q0:=hst.oc 0 rfl
 have q1:=hst.oc 1 rfl
 have q3:=hst.oc 3 rfl
 have q9:=hst.oc 9 rfl
 unfold stV OpP.val OpP.cells
 unfold stV at kq
 simp only at kp kq ⊢
 rw[show(SV.mk oa ol oc).val = .slice oa ol oc from rfl,show(SV.mk ta tl tc).val = .slice ta tl tc from rfl] at kq ⊢
 clear h hO hst hwf hmo eH eS ha hT htb
 go_enter Tryz.func13,Tryz.ntmps13
 go_upto_region 1 with fail
 rw[←hwb]
 clear hwb
 go_wp2_with fail
 refine kp.mono ?_
 rintro e w2 ⟨rfl,hk2⟩
 clear kp ce0 ce1 cf0 cf1 cr0 cr1 cg0 cg1 q0 q1 q3 q9
 have h2:=HS.out.call hk2
 have HS2:=(show Hid _ from h2)
 have kq:=kq H2 w2 h2.two
 have ce0:w2.cell? ⟨w.heap.size,0,none⟩=some (.slice oa ol oc):=h2.s.ce.1
 have ce1:w2.cell? ⟨w.heap.size,1,none⟩=some (.slice ta tl tc):=h2.s.ce.2
 have cf0:=h2.s.fz.1
 have cf1:=h2.s.fz.2
 have cr0:w2.cell? ⟨w.heap.size+1+1,0,none⟩=some (.slice none 0 0):=h2.r.ce.1
 have cr1:w2.cell? ⟨w.heap.size+1+1,1,none⟩=some (.slice none 0 0):=h2.r.ce.2
 have cg0:=h2.r.fz.1
 have cg1:=h2.r.fz.2
 have q0:=h2.oc 0 rfl
 have q1:=h2.oc 1 rfl
 have q3:=h2.oc 3 rfl
 have q9:=h2.oc 9 rfl
 clear HS hk2 h2
 go_wp2_with fail
 refine kq.mono ?_
 rintro e w3 ⟨rfl,hk3⟩
 clear kq ce0 ce1 cf0 cf1 cr0 cr1 cg0 cg1 q0 q1 q3 q9
 have h3:=HS2.out.call hk3
 have h4:=h3.same (W':=(w3.alloc (.cells #[.slice oa ol oc,.slice ta tl tc] 33))) ((Below.refl _ _).alloc (Nat.le_refl _) _)
 have h5:=h4.set2 ⟨oa,ol,oc⟩ ⟨ta,tl,tc⟩
 have HF:=(show Hid _ from And.intro h5.r h5.fin)
 rw[show(SV.mk oa ol oc).val = .slice oa ol oc from rfl,show(SV.mk ta tl tc).val = .slice ta tl tc from rfl] at HF
 have ce0:(w3.alloc (.cells #[.slice oa ol oc,.slice ta tl tc] 33)).cell? ⟨w.heap.size,0,none⟩=some (.slice oa ol oc):=h4.s.ce.1
 have ce1:(w3.alloc (.cells #[.slice oa ol oc,.slice ta tl tc] 33)).cell? ⟨w.heap.size,1,none⟩=some (.slice ta tl tc):=h4.s.ce.2
 have cf0:=h4.s.fz.1
 have cf1:=h4.s.fz.2
 have cr0:(w3.alloc (.cells #[.slice oa ol oc,.slice ta tl tc] 33)).cell? ⟨w.heap.size+1+1,0,none⟩=some (.slice none 0 0):=h4.r.ce.1
 have cr1:(w3.alloc (.cells #[.slice oa ol oc,.slice ta tl tc] 33)).cell? ⟨w.heap.size+1+1,1,none⟩=some (.slice none 0 0):=h4.r.ce.2
 have cg0:=h4.r.fz.1
 have cg1:=h4.r.fz.2
 have q0:=h4.oc 0 rfl
 have q1:=h4.oc 1 rfl
 have q3:=h4.oc 3 rfl
 have q9:=h4.oc 9 rfl
 have bx:BxS (w3.alloc (.cells #[.slice oa ol oc,.slice ta tl tc] 33)) w3.heap.size ⟨oa,ol,oc⟩ ⟨ta,tl,tc⟩:=at_new _ _
 obtain⟨x0,x1⟩:=bx.ce
 rw[show(SV.mk oa ol oc).val = .slice oa ol oc from rfl] at x0
 rw[show(SV.mk ta tl tc).val = .slice ta tl tc from rfl] at x1
 clear HS2 hk3 h3 h4 h5 bx
 go_upto_region 17 with fail
 generalize (w3.alloc (.cells #[.slice oa ol oc,.slice ta tl tc] 33))=w4 at *
 generalize w3.heap.size=b3 at *
 go_wp2_with fail
 refine bodyPost_ret (res2 rfl _ _ (w.heap.size+1+1) 33 _ (0,0) _ rfl HF.out.1 Tryz.underlying33 rfl (by kernel_rfl)) rfl ?_
 exact⟨⟨oa,ol,oc⟩,rfl,HF.out.2⟩
theorem pstep_8 (h:TwoE w0 w X hb H S vo vt ts)(hO:OrP H S ts n)(hT:TbAt w)(hn:n≤1999999999999)(a:OpP)(hk:a.kd=8)(ha:a.wf) :
  Calls Tryz.prog 13 #[.pointer (some ⟨hb,0,none⟩),stV vo vt,a.val] w fun e w'=>∃vo',e = .returned (.tuple #[stV vo' vt,.bool true])∧TwoK w0 w w' X hb (pH H a) (pS S a) vo' vt ts:=by
 obtain⟨kd,oo,op,kk,⟨has,va,ge,se,fl⟩,vv,nn⟩:=a
 obtain rfl:kd=8:=hk
 have HO:Hid (OrP H S ts n):=hO
 have hwf:=h.wf
 have hmo:H.most≤256:=hwf.mo
 have eH:pH H ⟨8,oo,op,kk,⟨has,va,ge,se,fl⟩,vv,nn⟩=closeH H oo:=pH_8 rfl
 have eS:pS S ⟨8,oo,op,kk,⟨has,va,ge,se,fl⟩,vv,nn⟩=shutG S oo:=pS_8 rfl
 rw[eH,eS]
 have kp:=fun W (h:TwoE w0 W (XbP w X) hb H S vo vt ts) (t:TbAt W)=>close_e h oo ha.o0 ha.o1
 have kq:=fun H1 W (h:TwoE w0 W (XbP w X) hb H1 S vo vt ts)=>rshut_e h oo ha.o0 ha.o1
 obtain⟨oa,ol,oc⟩:=vo
 obtain⟨ta,tl,tc⟩:=vt
 have hst:OnP w0 w (((w.alloc (.cells #[.slice oa ol oc,.slice ta tl tc] 33)).alloc (.cells #[.int .i64 8,.int .u64 oo,.int .u64 op,.string kk,.int .i64 has,.int .u64 va,.int .u64 ge,.int .u64 se,.int .i64 fl,.int .u64 vv,.int .i64 nn] 28)).alloc (.cells #[.slice none 0 0,.slice none 0 0] 33)) X hb H S ⟨oa,ol,oc⟩ ⟨ta,tl,tc⟩ ts ⟨oa,ol,oc⟩ ⟨ta,tl,tc⟩ #[.int .i64 8,.int .u64 oo,.int .u64 op,.string kk,.int .i64 has,.int .u64 va,.int .u64 ge,.int .u64 se,.int .i64 fl,.int .u64 vv,.int .i64 nn] .nil .nil:=OnP.start h _
 have htb:TbAt (((w.alloc (.cells #[.slice oa ol oc,.slice ta tl tc] 33)).alloc (.cells #[.int .i64 8,.int .u64 oo,.int .u64 op,.string kk,.int .i64 has,.int .u64 va,.int .u64 ge,.int .u64 se,.int .i64 fl,.int .u64 vv,.int .i64 nn] 28)).alloc (.cells #[.slice none 0 0,.slice none 0 0] 33)):=hT.below (B3 w _ _ _)
 obtain⟨wb,hwb⟩:∃wb,wb=(((w.alloc (.cells #[.slice oa ol oc,.slice ta tl tc] 33)).alloc (.cells #[.int .i64 8,.int .u64 oo,.int .u64 op,.string kk,.int .i64 has,.int .u64 va,.int .u64 ge,.int .u64 se,.int .i64 fl,.int .u64 vv,.int .i64 nn] 28)).alloc (.cells #[.slice none 0 0,.slice none 0 0] 33)):=⟨_,rfl⟩
 rw[←hwb] at hst htb
 have HS:=(show Hid _ from hst)
 have kp:=kp wb hst.two htb
 generalize closeH H oo=H2 at *
 generalize shutG S oo=S2 at *
 have ce0:wb.cell? ⟨w.heap.size,0,none⟩=some (.slice oa ol oc):=hst.s.ce.1
 have ce1:wb.cell? ⟨w.heap.size,1,none⟩=some (.slice ta tl tc):=hst.s.ce.2
 have cf0:=hst.s.fz.1
 have cf1:=hst.s.fz.2
 have cr0:wb.cell? ⟨w.heap.size+1+1,0,none⟩=some (.slice none 0 0):=hst.r.ce.1
 have cr1:wb.cell? ⟨w.heap.size+1+1,1,none⟩=some (.slice none 0 0):=hst.r.ce.2
 have cg0:=hst.r.fz.1
 have cg1:=hst.r.fz.2
 have q0:=hst.oc 0 rfl
 have q1:=hst.oc 1 rfl
 unfold stV OpP.val OpP.cells
 unfold stV at kq
 simp only at kp kq ⊢
 rw[show(SV.mk oa ol oc).val = .slice oa ol oc from rfl,show(SV.mk ta tl tc).val = .slice ta tl tc from rfl] at kq ⊢
 clear h hO hst hwf hmo eH eS ha hT htb
 go_enter Tryz.func13,Tryz.ntmps13
 go_upto_region 1 with fail
 rw[←hwb]
 clear hwb
 go_wp2_with fail
 refine kp.mono ?_
 rintro e w2 ⟨rfl,hk2⟩
 clear kp ce0 ce1 cf0 cf1 cr0 cr1 cg0 cg1 q0 q1
 have h2:=HS.out.call hk2
 have HS2:=(show Hid _ from h2)
 have kq:=kq H2 w2 h2.two
 have ce0:w2.cell? ⟨w.heap.size,0,none⟩=some (.slice oa ol oc):=h2.s.ce.1
 have ce1:w2.cell? ⟨w.heap.size,1,none⟩=some (.slice ta tl tc):=h2.s.ce.2
 have cf0:=h2.s.fz.1
 have cf1:=h2.s.fz.2
 have cr0:w2.cell? ⟨w.heap.size+1+1,0,none⟩=some (.slice none 0 0):=h2.r.ce.1
 have cr1:w2.cell? ⟨w.heap.size+1+1,1,none⟩=some (.slice none 0 0):=h2.r.ce.2
 have cg0:=h2.r.fz.1
 have cg1:=h2.r.fz.2
 have q0:=h2.oc 0 rfl
 have q1:=h2.oc 1 rfl
 clear HS hk2 h2
 go_wp2_with fail
 refine kq.mono ?_
 rintro e w3 ⟨rfl,hk3⟩
 clear kq ce0 ce1 cf0 cf1 cr0 cr1 cg0 cg1 q0 q1
 have h3:=HS2.out.call hk3
 have h5:=h3.set2 ⟨oa,ol,oc⟩ ⟨ta,tl,tc⟩
 have HF:=(show Hid _ from And.intro h5.r h5.fin)
 rw[show(SV.mk oa ol oc).val = .slice oa ol oc from rfl,show(SV.mk ta tl tc).val = .slice ta tl tc from rfl] at HF
 have ce0:w3.cell? ⟨w.heap.size,0,none⟩=some (.slice oa ol oc):=h3.s.ce.1
 have ce1:w3.cell? ⟨w.heap.size,1,none⟩=some (.slice ta tl tc):=h3.s.ce.2
 have cf0:=h3.s.fz.1
 have cf1:=h3.s.fz.2
 have cr0:w3.cell? ⟨w.heap.size+1+1,0,none⟩=some (.slice none 0 0):=h3.r.ce.1
 have cr1:w3.cell? ⟨w.heap.size+1+1,1,none⟩=some (.slice none 0 0):=h3.r.ce.2
 have cg0:=h3.r.fz.1
 have cg1:=h3.r.fz.2
 have q0:=h3.oc 0 rfl
 have q1:=h3.oc 1 rfl
 clear HS2 hk3 h3 h5
 go_wp2_with fail
 refine bodyPost_ret (res2 rfl _ _ (w.heap.size+1+1) 33 _ (0,0) _ rfl HF.out.1 Tryz.underlying33 rfl (by kernel_rfl)) rfl ?_
 exact⟨⟨oa,ol,oc⟩,rfl,HF.out.2⟩
end
end Go.Proofs.YtahhionlbfhinabGreatDoor.Hp
