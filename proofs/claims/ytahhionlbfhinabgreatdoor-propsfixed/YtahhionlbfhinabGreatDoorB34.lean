/- XB, XA0 -/
import Derived.Test.YtahhionlbfhinabGreatDoorB32
import Derived.Test.YtahhionlbfhinabGreatDoorB27
import Derived.Test.YtahhionlbfhinabGreatDoorB15
import Derived.Test.YtahhionlbfhinabGreatDoorB13
set_option linter.unusedVariables false
set_option linter.unusedSimpArgs false
set_option maxRecDepth 100000
set_option maxHeartbeats 40000000
namespace Go.Proofs.YtahhionlbfhinabGreatDoor.Hp
open Go.RowKit
section
variable {w W W' w' w1:World}{B b:Nat}{tg:Nat→Nat}{S S':List So}{vo vt:SV}{qs:List QV}{i:Nat}{x x':So}{q:QV}
def st5 (W:World)(b:Nat)(u:Ws):World:=((((W.setCell ⟨b,0,none⟩ (.int .i64 u.has)).setCell ⟨b,1,none⟩ (.int .u64 u.va)).setCell ⟨b,2,none⟩ (.int .u64 u.ge)).setCell ⟨b,3,none⟩ (.int .u64 u.se)).setCell ⟨b,4,none⟩ (.int .i64 u.fl)
theorem Bx5.put {u u':Ws}(h:Bx5 W b u):Bx5 (st5 W b u') b u':=by
 have z0:=heap_setCell_same _ b 0 _ _ (.int .i64 u'.has) h
 have z1:=heap_setCell_same _ b 1 _ _ (.int .u64 u'.va) z0
 have z2:=heap_setCell_same _ b 2 _ _ (.int .u64 u'.ge) z1
 have z3:=heap_setCell_same _ b 3 _ _ (.int .u64 u'.se) z2
 exact heap_setCell_same _ b 4 _ _ (.int .i64 u'.fl) z3
theorem st5_below {n:Nat}{u:Ws}(h:Below n w W)(hb:n≤b):Below n w (st5 W b u):=((((h.setCell hb _).setCell hb _).setCell hb _).setCell hb _).setCell hb _
theorem SWent.drew (h:SWent w B tg S' vo w'):SWent w B tg S' vo w'.drew:=by
 obtain⟨tg',qs',a,b,c⟩:=h
 have hB:Below w'.heap.size w' w'.drew:=(Below.refl _ _).drew
 exact⟨tg',qs',a.below hB,b.trans (Chg.of_below hB) (fun _ _ q=>q),c⟩
theorem Bx5.fz5 {u:Ws}(h:Bx5 W b u):W.frozen? ⟨b,0,none⟩=false∧W.frozen? ⟨b,1,none⟩=false∧W.frozen? ⟨b,2,none⟩=false∧W.frozen? ⟨b,3,none⟩=false∧W.frozen? ⟨b,4,none⟩=false :=
 ⟨frozen_of_row W b 0 _ _ h,frozen_of_row W b 1 _ _ h,frozen_of_row W b 2 _ _ h,frozen_of_row W b 3 _ _ h,frozen_of_row W b 4 _ _ h⟩
theorem rassign_of (h:StAt w B tg S vo qs)(vt:SV)(hpr:∀x∈S,0≤x.proto∧x.proto<18446744073709551616)(o:Int)(o0:0≤o)(o1:o<18446744073709551616)(k:ByteArray)(hk:k.size≤maxLen)(v:Int)(hv:0≤v∧v<18446744073709551616)
  (hdf:∀W tg' qs',StAt W B tg' S vo qs'→∀u:Ws,u.ok→Calls Tryz.prog 30 #[stV vo vt,.int .u64 o,.string k,wsV u] W fun e w'=>e = .returned (.tuple #[stV vo vt,.bool (dfG S o k u).2])∧SWent W B tg' (dfG S o k u).1 vo w') :
  Calls Tryz.prog 33 #[stV vo vt,.int .u64 o,.string k,.int .u64 v] w fun e w'=>e = .returned (.tuple #[stV vo vt,.int .u64 (asgG S o k v).1,.int .i64 (asgG S o k v).2.1])∧SWent w B tg (asgG S o k v).2.2 vo w':=by
 obtain⟨wb,hwb⟩:∃wb,wb=(w.alloc (.cells #[vo.val,vt.val] 33)).alloc (.cells #[.slice none 0 0,.slice none 0 0] 33):=⟨_,rfl⟩
 obtain⟨hbs,hbr,hB⟩:=boxS2 w vo vt
 rw[←hwb] at hbs hbr hB
 have hse:=SeT.start h hbs hbr hB
 have kl:=rlookup_any hse.st vt hpr o o0 o1 k hk
 have HSE:Hid (∀W,Below wb.heap.size wb W→SeT w W B tg tg S vo vt qs):=fun W r=>hse.below r
 have HDF:Hid (∀(W:World) (u:Ws),u.ok→Below wb.heap.size wb W→Calls Tryz.prog 30 #[stV vo vt,.int .u64 o,.string k,wsV u] W fun e w'=>e = .returned (.tuple #[stV vo vt,.bool (dfG S o k u).2])∧SWent W B tg (dfG S o k u).1 vo w'):=fun W u hu r=>hdf W tg qs (hse.below r).st u hu
 have HFI:Hid (∀W W' S',Below wb.heap.size wb W→SWent W B tg S' vo W'→∃tg2 qs2,SeT w ((W'.setCell ⟨w.heap.size,0,none⟩ vo.val).setCell ⟨w.heap.size,1,none⟩ vt.val) B tg tg2 S' vo vt qs2∧BxS W' w.heap.size vo vt):=fun W W' S' r s=>by
  obtain⟨tg2,qs2,g⟩:=(hse.below r).step s
  exact⟨tg2,qs2,g.told,g.bs⟩
 obtain⟨va,vl,vc⟩:=vo
 obtain⟨ta,tl,tc⟩:=vt
 have HB0:=(show Hid _ from (HSE.out wb (Below.refl _ _)).bs.ce)
 rw[show(SV.mk va vl vc).val = .slice va vl vc from rfl,show(SV.mk ta tl tc).val = .slice ta tl tc from rfl] at HB0 hwb HFI
 unfold stV at kl HDF ⊢
 rw[show(SV.mk va vl vc).val = .slice va vl vc from rfl,show(SV.mk ta tl tc).val = .slice ta tl tc from rfl] at kl HDF ⊢
 have HBL:Hid (w.heap.size+1<wb.heap.size):=hbr.lt
 have HV:Hid (0≤v∧v<18446744073709551616):=hv
 clear hv h hse hbs hbr hB hpr o0 o1 hk hdf
 obtain⟨b0,b1⟩:=HB0.out
 have hor:bits .or .i64 1 14=15:=by decide
 unfold asgG
 generalize lookS S k (S.length+1) o=R at *
 cases R with
 | none =>
   simp only[Option.map_none,Option.getD_none,Option.isSome_none] at kl
   simp only
   unfold deV zDe at kl
   generalize hr:dfG S o k (wsAll v)=r at *
   obtain⟨rs,rb⟩:=r
   cases rb with
   | true =>
     simp only[asgD,if_true]
     have HR:Hid (dfG S o k (wsAll v)=(rs,true)):=hr
     clear hr
     go_enter Tryz.func33,Tryz.ntmps33
     go_upto_region 1 with fail
     rw[←hwb]
     clear hwb
     go_wp2_with fail
     refine kl.mono ?_
     rintro e w2 ⟨rfl,hB2⟩
     have HB3:=(show Hid _ from hB2.alloc hB2.size (.cells #[.int .u64 0,.int .u64 0,.int .i64 0] 39))
     obtain⟨x0,x1,x2⟩:=(Bx3.new w2).ce
     unfold zDe at x0 x1 x2
     obtain⟨b0,b1⟩:=(HSE.out _ HB3.out).bs.ce
     unfold SV.val at b0 b1
     simp only at b0 b1
     clear kl hB2
     have HB5:=(show Hid _ from (HB3.out).alloc (HB3.out).size (.cells #[.int .i64 15,.int .u64 v,.int .u64 0,.int .u64 0,.int .i64 7] 26))
     have kd:=HDF.out _ (wsAll v) (wsAll_ok HV.out) HB5.out
     unfold wsV wsAll at kd
     simp only at kd
     have hR2:=HR.out
     unfold wsAll at hR2
     rw[hR2] at kd
     simp only at kd
     clear hR2 HR
     obtain⟨b0,b1⟩:=(HSE.out _ HB5.out).bs.ce
     unfold SV.val at b0 b1
     simp only at b0 b1
     go_wp2_with fail
     refine kd.mono ?_
     rintro e w9 ⟨rfl,hw9⟩
     obtain⟨tg2,qs2,g1,g2⟩:=HFI.out _ _ _ HB5.out hw9
     obtain⟨s0,s1⟩:=g2.ce
     obtain⟨s2,s3⟩:=g2.fz
     obtain⟨b0,b1⟩:=g1.bs.ce
     unfold SV.val at b0 b1 s0 s1
     simp only at b0 b1 s0 s1
     obtain⟨k1,k2,k3⟩:=g1.fin (SWent.same g1.st (Below.refl _ _))
     obtain⟨r0,r1⟩:=k1.ce
     obtain⟨f0,f1⟩:=k1.fz
     have HF:=(show Hid _ from And.intro k2 k3)
     clear k1 k2 k3 g1 g2 kd hw9 HSE HDF HFI HB3 HB5
     unfold SV.nil SV.val at r0 r1
     simp only at r0 r1
     go_wp2_with fail
     refine bodyPost_ret (res4 rfl _ _ (w.heap.size+1) 33 _ (0,0) _ rfl HF.out.1 Tryz.underlying33 rfl (by kernel_rfl)) rfl ?_
     exact⟨rfl,HF.out.2⟩
   | false =>
     simp only[asgD,Bool.false_eq_true,if_false]
     have HR:Hid (dfG S o k (wsAll v)=(rs,false)):=hr
     clear hr
     go_enter Tryz.func33,Tryz.ntmps33
     go_upto_region 1 with fail
     rw[←hwb]
     clear hwb
     go_wp2_with fail
     refine kl.mono ?_
     rintro e w2 ⟨rfl,hB2⟩
     have HB3:=(show Hid _ from hB2.alloc hB2.size (.cells #[.int .u64 0,.int .u64 0,.int .i64 0] 39))
     obtain⟨x0,x1,x2⟩:=(Bx3.new w2).ce
     unfold zDe at x0 x1 x2
     obtain⟨b0,b1⟩:=(HSE.out _ HB3.out).bs.ce
     unfold SV.val at b0 b1
     simp only at b0 b1
     clear kl hB2
     have HB5:=(show Hid _ from (HB3.out).alloc (HB3.out).size (.cells #[.int .i64 15,.int .u64 v,.int .u64 0,.int .u64 0,.int .i64 7] 26))
     have kd:=HDF.out _ (wsAll v) (wsAll_ok HV.out) HB5.out
     unfold wsV wsAll at kd
     simp only at kd
     have hR2:=HR.out
     unfold wsAll at hR2
     rw[hR2] at kd
     simp only at kd
     clear hR2 HR
     obtain⟨b0,b1⟩:=(HSE.out _ HB5.out).bs.ce
     unfold SV.val at b0 b1
     simp only at b0 b1
     go_wp2_with fail
     refine kd.mono ?_
     rintro e w9 ⟨rfl,hw9⟩
     obtain⟨tg2,qs2,g1,g2⟩:=HFI.out _ _ _ HB5.out hw9
     obtain⟨s0,s1⟩:=g2.ce
     obtain⟨s2,s3⟩:=g2.fz
     obtain⟨b0,b1⟩:=g1.bs.ce
     unfold SV.val at b0 b1 s0 s1
     simp only at b0 b1 s0 s1
     obtain⟨k1,k2,k3⟩:=g1.fin (SWent.same g1.st (Below.refl _ _))
     obtain⟨r0,r1⟩:=k1.ce
     obtain⟨f0,f1⟩:=k1.fz
     have HF:=(show Hid _ from And.intro k2 k3)
     clear k1 k2 k3 g1 g2 kd hw9 HSE HDF HFI HB3 HB5
     unfold SV.nil SV.val at r0 r1
     simp only at r0 r1
     go_wp2_with fail
     refine bodyPost_ret (res4 rfl _ _ (w.heap.size+1) 33 _ (0,0) _ rfl HF.out.1 Tryz.underlying33 rfl (by kernel_rfl)) rfl ?_
     exact⟨rfl,HF.out.2⟩
 | some q =>
   obtain⟨p,d⟩:=q
   simp only[Option.map_some,Option.getD_some,Option.isSome_some] at kl
   simp only
   unfold deV at kl
   cases hac:accB d with
   | true =>
     unfold accB at hac
     simp only[if_true]
     by_cases cs:d.se=undW
     ·rw[if_pos cs]
      have cs1:(d.se == 18445336698825998336)=true:=by rw[cs];rfl
      clear cs
      go_enter Tryz.func33,Tryz.ntmps33
      go_upto_region 1 with fail
      rw[←hwb]
      clear hwb
      go_wp2_with fail
      refine kl.mono ?_
      rintro e w2 ⟨rfl,hB2⟩
      have HB3:=(show Hid _ from hB2.alloc hB2.size (.cells #[.int .u64 d.va,.int .u64 d.se,.int .i64 d.fl] 39))
      obtain⟨x0,x1,x2⟩:=(Bx3.box w2 d).ce
      obtain⟨b0,b1⟩:=(HSE.out _ HB3.out).bs.ce
      unfold SV.val at b0 b1
      simp only at b0 b1
      clear kl hB2
      obtain⟨k1,k2,k3⟩:=(HSE.out _ HB3.out).fin (SWent.same (HSE.out _ HB3.out).st (Below.refl _ _))
      obtain⟨r0,r1⟩:=k1.ce
      obtain⟨f0,f1⟩:=k1.fz
      have HF:=(show Hid _ from And.intro k2 k3)
      clear k1 k2 k3 HSE HDF HFI HB3
      unfold SV.nil SV.val at r0 r1
      simp only at r0 r1
      go_wp2_with fail
      refine bodyPost_ret (res4 rfl _ _ (w.heap.size+1) 33 _ (0,0) _ rfl HF.out.1 Tryz.underlying33 rfl (by kernel_rfl)) rfl ?_
      exact⟨rfl,HF.out.2⟩
     ·rw[if_neg cs]
      have cs1:(d.se == 18445336698825998336)=false:=by simpa [undW] using cs
      clear cs
      go_enter Tryz.func33,Tryz.ntmps33
      go_upto_region 1 with fail
      rw[←hwb]
      clear hwb
      go_wp2_with fail
      refine kl.mono ?_
      rintro e w2 ⟨rfl,hB2⟩
      have HB3:=(show Hid _ from hB2.alloc hB2.size (.cells #[.int .u64 d.va,.int .u64 d.se,.int .i64 d.fl] 39))
      have HLT:Hid (w.heap.size+1<w2.heap.size):=by
       have:=HBL.out
       have:=hB2.size
       show _<_
       omega
      have HXX:Hid (Bx3 (w2.alloc (.cells #[.int .u64 d.va,.int .u64 d.se,.int .i64 d.fl] 39)) w2.heap.size d):=Bx3.box w2 d
      clear kl hB2 b0 b1
      go_upto_region 2 with fail
      generalize w2.alloc (.cells #[.int .u64 d.va,.int .u64 d.se,.int .i64 d.fl] 39)=w3 at *
      generalize w2.heap.size=bt at *
      obtain⟨x0,x1,x2⟩:=HXX.out.ce
      obtain⟨b0,b1⟩:=(HSE.out _ HB3.out).bs.ce
      unfold SV.val at b0 b1
      simp only at b0 b1
      obtain⟨k1,k2,k3⟩:=(HSE.out _ HB3.out).fin (SWent.same (HSE.out _ HB3.out).st (Below.refl _ _))
      obtain⟨r0,r1⟩:=k1.ce
      obtain⟨f0,f1⟩:=k1.fz
      have HF:=(show Hid _ from And.intro k2 k3.drew)
      clear k1 k2 k3
      unfold SV.nil SV.val at r0 r1
      simp only at r0 r1
      have hx9:((w3.setCell ⟨w.heap.size+1,0,none⟩ (.slice va vl vc)).setCell ⟨w.heap.size+1,1,none⟩ (.slice ta tl tc)).cell? ⟨bt,1,none⟩=some (.int .u64 d.se):=by
       have hl:=HLT.out
       have e:((w3.setCell ⟨w.heap.size+1,0,none⟩ (.slice va vl vc)).setCell ⟨w.heap.size+1,1,none⟩ (.slice ta tl tc)).heap[bt]?=w3.heap[bt]?:=by
        rw[heap_other _ _ _ (show bt≠w.heap.size+1 by omega),heap_other _ _ _ (show bt≠w.heap.size+1 by omega)]
       exact cell_of_row _ bt 1 _ _ (0,0) (e.trans HXX.out)
      clear HSE HDF HFI HB3 HXX HLT
      go_wp2_with fail
      go_region
      go_wp2_with fail
      refine bodyPost_ret (res4 rfl _ _ (w.heap.size+1) 33 _ (0,0) _ rfl HF.out.1 Tryz.underlying33 rfl (by kernel_rfl)) rfl ?_
      exact⟨rfl,HF.out.2⟩
   | false =>
     unfold accB at hac
     simp only[Bool.false_eq_true,if_false]
     cases hw:(bits .and .i64 d.fl 1 == 0) with
     | true =>
       simp only[if_true]
       go_enter Tryz.func33,Tryz.ntmps33
       go_upto_region 1 with fail
       rw[←hwb]
       clear hwb
       go_wp2_with fail
       refine kl.mono ?_
       rintro e w2 ⟨rfl,hB2⟩
       have HB3:=(show Hid _ from hB2.alloc hB2.size (.cells #[.int .u64 d.va,.int .u64 d.se,.int .i64 d.fl] 39))
       obtain⟨x0,x1,x2⟩:=(Bx3.box w2 d).ce
       obtain⟨b0,b1⟩:=(HSE.out _ HB3.out).bs.ce
       unfold SV.val at b0 b1
       simp only at b0 b1
       clear kl hB2
       obtain⟨k1,k2,k3⟩:=(HSE.out _ HB3.out).fin (SWent.same (HSE.out _ HB3.out).st (Below.refl _ _))
       obtain⟨r0,r1⟩:=k1.ce
       obtain⟨f0,f1⟩:=k1.fz
       have HF:=(show Hid _ from And.intro k2 k3)
       clear k1 k2 k3 HSE HDF HFI HB3
       unfold SV.nil SV.val at r0 r1
       simp only at r0 r1
       go_wp2_with fail
       refine bodyPost_ret (res4 rfl _ _ (w.heap.size+1) 33 _ (0,0) _ rfl HF.out.1 Tryz.underlying33 rfl (by kernel_rfl)) rfl ?_
       exact⟨rfl,HF.out.2⟩
     | false =>
       simp only[Bool.false_eq_true,if_false]
       by_cases cp:p=o
       ·rw[if_pos cp]
        subst cp
        have cp1:(p == p)=true:=beq_self_eq_true p
        generalize hr:dfG S p k (wsVal v)=r at *
        obtain⟨rs,rb⟩:=r
        cases rb with
        | true =>
          simp only[asgD,if_true]
          have HR:Hid (dfG S p k (wsVal v)=(rs,true)):=hr
          clear hr
          go_enter Tryz.func33,Tryz.ntmps33
          go_upto_region 1 with fail
          rw[←hwb]
          clear hwb
          go_wp2_with fail
          refine kl.mono ?_
          rintro e w2 ⟨rfl,hB2⟩
          have HB3:=(show Hid _ from hB2.alloc hB2.size (.cells #[.int .u64 d.va,.int .u64 d.se,.int .i64 d.fl] 39))
          obtain⟨x0,x1,x2⟩:=(Bx3.box w2 d).ce
          obtain⟨b0,b1⟩:=(HSE.out _ HB3.out).bs.ce
          unfold SV.val at b0 b1
          simp only at b0 b1
          clear kl hB2
          have HB4:Hid (Below wb.heap.size wb ((w2.alloc (.cells #[.int .u64 d.va,.int .u64 d.se,.int .i64 d.fl] 39)).alloc (.cells #[.int .i64 15,.int .u64 v,.int .u64 0,.int .u64 0,.int .i64 7] 26))∧Bx5 ((w2.alloc (.cells #[.int .u64 d.va,.int .u64 d.se,.int .i64 d.fl] 39)).alloc (.cells #[.int .i64 15,.int .u64 v,.int .u64 0,.int .u64 0,.int .i64 7] 26)) (w2.heap.size+1) (wsAll v)∧wb.heap.size≤w2.heap.size+1):=by
           have z:=size_new w2 (.cells #[.int .u64 d.va,.int .u64 d.se,.int .i64 d.fl] 39)
           have a:=at_new (w2.alloc (.cells #[.int .u64 d.va,.int .u64 d.se,.int .i64 d.fl] 39)) (.cells #[.int .i64 15,.int .u64 v,.int .u64 0,.int .u64 0,.int .i64 7] 26)
           have c:=HB3.out.size
           rw[z] at a c
           exact⟨HB3.out.alloc HB3.out.size _,a,c⟩
          go_upto_region 9 with fail
          generalize ((w2.alloc (.cells #[.int .u64 d.va,.int .u64 d.se,.int .i64 d.fl] 39)).alloc (.cells #[.int .i64 15,.int .u64 v,.int .u64 0,.int .u64 0,.int .i64 7] 26))=w4 at *
          generalize w2.heap.size+1=b5 at *
          have HB5:Hid (Below wb.heap.size wb (st5 w4 b5 ⟨1,v,0,0,0⟩)):=st5_below HB4.out.1 HB4.out.2.2
          have HX5:Hid (Bx5 (st5 w4 b5 ⟨1,v,0,0,0⟩) b5 ⟨1,v,0,0,0⟩):=HB4.out.2.1.put
          obtain⟨e0,e1,e2,e3,e4⟩:=HB4.out.2.1.fz5
          obtain⟨d0,d1,d2,d3,d4⟩:=HB4.out.2.1.ce
          clear HB4 b0 b1 x0 x1 x2
          go_upto_region 11 with fail
          have hst:st5 w4 b5 ⟨1,v,0,0,0⟩=((((w4.setCell ⟨b5,0,none⟩ (.int .i64 1)).setCell ⟨b5,1,none⟩ (.int .u64 v)).setCell ⟨b5,2,none⟩ (.int .u64 0)).setCell ⟨b5,3,none⟩ (.int .u64 0)).setCell ⟨b5,4,none⟩ (.int .i64 0):=rfl
          rw[←hst]
          generalize st5 w4 b5 ⟨1,v,0,0,0⟩=w5 at *
          clear hst d0 d1 d2 d3 d4 e0 e1 e2 e3 e4
          obtain⟨d0,d1,d2,d3,d4⟩:=HX5.out.ce
          clear HX5
          simp only at d0 d1 d2 d3 d4
          have kd:=HDF.out _ (wsVal v) (wsVal_ok HV.out) HB5.out
          unfold wsV wsVal at kd
          simp only at kd
          have hR2:=HR.out
          unfold wsVal at hR2
          rw[hR2] at kd
          simp only at kd
          clear hR2 HR
          obtain⟨b0,b1⟩:=(HSE.out _ HB5.out).bs.ce
          unfold SV.val at b0 b1
          simp only at b0 b1
          go_wp2_with fail
          refine kd.mono ?_
          rintro e w9 ⟨rfl,hw9⟩
          obtain⟨tg2,qs2,g1,g2⟩:=HFI.out _ _ _ HB5.out hw9
          obtain⟨s0,s1⟩:=g2.ce
          obtain⟨s2,s3⟩:=g2.fz
          obtain⟨b0,b1⟩:=g1.bs.ce
          unfold SV.val at b0 b1 s0 s1
          simp only at b0 b1 s0 s1
          obtain⟨k1,k2,k3⟩:=g1.fin (SWent.same g1.st (Below.refl _ _))
          obtain⟨r0,r1⟩:=k1.ce
          obtain⟨f0,f1⟩:=k1.fz
          have HF:=(show Hid _ from And.intro k2 k3)
          clear k1 k2 k3 g1 g2 kd hw9 HSE HDF HFI HB3 HB5
          unfold SV.nil SV.val at r0 r1
          simp only at r0 r1
          go_wp2_with fail
          refine bodyPost_ret (res4 rfl _ _ (w.heap.size+1) 33 _ (0,0) _ rfl HF.out.1 Tryz.underlying33 rfl (by kernel_rfl)) rfl ?_
          exact⟨rfl,HF.out.2⟩
        | false =>
          simp only[asgD,Bool.false_eq_true,if_false]
          have HR:Hid (dfG S p k (wsVal v)=(rs,false)):=hr
          clear hr
          go_enter Tryz.func33,Tryz.ntmps33
          go_upto_region 1 with fail
          rw[←hwb]
          clear hwb
          go_wp2_with fail
          refine kl.mono ?_
          rintro e w2 ⟨rfl,hB2⟩
          have HB3:=(show Hid _ from hB2.alloc hB2.size (.cells #[.int .u64 d.va,.int .u64 d.se,.int .i64 d.fl] 39))
          obtain⟨x0,x1,x2⟩:=(Bx3.box w2 d).ce
          obtain⟨b0,b1⟩:=(HSE.out _ HB3.out).bs.ce
          unfold SV.val at b0 b1
          simp only at b0 b1
          clear kl hB2
          have HB4:Hid (Below wb.heap.size wb ((w2.alloc (.cells #[.int .u64 d.va,.int .u64 d.se,.int .i64 d.fl] 39)).alloc (.cells #[.int .i64 15,.int .u64 v,.int .u64 0,.int .u64 0,.int .i64 7] 26))∧Bx5 ((w2.alloc (.cells #[.int .u64 d.va,.int .u64 d.se,.int .i64 d.fl] 39)).alloc (.cells #[.int .i64 15,.int .u64 v,.int .u64 0,.int .u64 0,.int .i64 7] 26)) (w2.heap.size+1) (wsAll v)∧wb.heap.size≤w2.heap.size+1):=by
           have z:=size_new w2 (.cells #[.int .u64 d.va,.int .u64 d.se,.int .i64 d.fl] 39)
           have a:=at_new (w2.alloc (.cells #[.int .u64 d.va,.int .u64 d.se,.int .i64 d.fl] 39)) (.cells #[.int .i64 15,.int .u64 v,.int .u64 0,.int .u64 0,.int .i64 7] 26)
           have c:=HB3.out.size
           rw[z] at a c
           exact⟨HB3.out.alloc HB3.out.size _,a,c⟩
          go_upto_region 9 with fail
          generalize ((w2.alloc (.cells #[.int .u64 d.va,.int .u64 d.se,.int .i64 d.fl] 39)).alloc (.cells #[.int .i64 15,.int .u64 v,.int .u64 0,.int .u64 0,.int .i64 7] 26))=w4 at *
          generalize w2.heap.size+1=b5 at *
          have HB5:Hid (Below wb.heap.size wb (st5 w4 b5 ⟨1,v,0,0,0⟩)):=st5_below HB4.out.1 HB4.out.2.2
          have HX5:Hid (Bx5 (st5 w4 b5 ⟨1,v,0,0,0⟩) b5 ⟨1,v,0,0,0⟩):=HB4.out.2.1.put
          obtain⟨e0,e1,e2,e3,e4⟩:=HB4.out.2.1.fz5
          obtain⟨d0,d1,d2,d3,d4⟩:=HB4.out.2.1.ce
          clear HB4 b0 b1 x0 x1 x2
          go_upto_region 11 with fail
          have hst:st5 w4 b5 ⟨1,v,0,0,0⟩=((((w4.setCell ⟨b5,0,none⟩ (.int .i64 1)).setCell ⟨b5,1,none⟩ (.int .u64 v)).setCell ⟨b5,2,none⟩ (.int .u64 0)).setCell ⟨b5,3,none⟩ (.int .u64 0)).setCell ⟨b5,4,none⟩ (.int .i64 0):=rfl
          rw[←hst]
          generalize st5 w4 b5 ⟨1,v,0,0,0⟩=w5 at *
          clear hst d0 d1 d2 d3 d4 e0 e1 e2 e3 e4
          obtain⟨d0,d1,d2,d3,d4⟩:=HX5.out.ce
          clear HX5
          simp only at d0 d1 d2 d3 d4
          have kd:=HDF.out _ (wsVal v) (wsVal_ok HV.out) HB5.out
          unfold wsV wsVal at kd
          simp only at kd
          have hR2:=HR.out
          unfold wsVal at hR2
          rw[hR2] at kd
          simp only at kd
          clear hR2 HR
          obtain⟨b0,b1⟩:=(HSE.out _ HB5.out).bs.ce
          unfold SV.val at b0 b1
          simp only at b0 b1
          go_wp2_with fail
          refine kd.mono ?_
          rintro e w9 ⟨rfl,hw9⟩
          obtain⟨tg2,qs2,g1,g2⟩:=HFI.out _ _ _ HB5.out hw9
          obtain⟨s0,s1⟩:=g2.ce
          obtain⟨s2,s3⟩:=g2.fz
          obtain⟨b0,b1⟩:=g1.bs.ce
          unfold SV.val at b0 b1 s0 s1
          simp only at b0 b1 s0 s1
          obtain⟨k1,k2,k3⟩:=g1.fin (SWent.same g1.st (Below.refl _ _))
          obtain⟨r0,r1⟩:=k1.ce
          obtain⟨f0,f1⟩:=k1.fz
          have HF:=(show Hid _ from And.intro k2 k3)
          clear k1 k2 k3 g1 g2 kd hw9 HSE HDF HFI HB3 HB5
          unfold SV.nil SV.val at r0 r1
          simp only at r0 r1
          go_wp2_with fail
          refine bodyPost_ret (res4 rfl _ _ (w.heap.size+1) 33 _ (0,0) _ rfl HF.out.1 Tryz.underlying33 rfl (by kernel_rfl)) rfl ?_
          exact⟨rfl,HF.out.2⟩
       ·rw[if_neg cp]
        have cp1:(p == o)=false:=by simpa using cp
        clear cp
        generalize hr:dfG S o k (wsAll v)=r at *
        obtain⟨rs,rb⟩:=r
        cases rb with
        | true =>
          simp only[asgD,if_true]
          have HR:Hid (dfG S o k (wsAll v)=(rs,true)):=hr
          clear hr
          go_enter Tryz.func33,Tryz.ntmps33
          go_upto_region 1 with fail
          rw[←hwb]
          clear hwb
          go_wp2_with fail
          refine kl.mono ?_
          rintro e w2 ⟨rfl,hB2⟩
          have HB3:=(show Hid _ from hB2.alloc hB2.size (.cells #[.int .u64 d.va,.int .u64 d.se,.int .i64 d.fl] 39))
          obtain⟨x0,x1,x2⟩:=(Bx3.box w2 d).ce
          obtain⟨b0,b1⟩:=(HSE.out _ HB3.out).bs.ce
          unfold SV.val at b0 b1
          simp only at b0 b1
          clear kl hB2
          have HB5:=(show Hid _ from (HB3.out).alloc (HB3.out).size (.cells #[.int .i64 15,.int .u64 v,.int .u64 0,.int .u64 0,.int .i64 7] 26))
          have kd:=HDF.out _ (wsAll v) (wsAll_ok HV.out) HB5.out
          unfold wsV wsAll at kd
          simp only at kd
          have hR2:=HR.out
          unfold wsAll at hR2
          rw[hR2] at kd
          simp only at kd
          clear hR2 HR
          obtain⟨b0,b1⟩:=(HSE.out _ HB5.out).bs.ce
          unfold SV.val at b0 b1
          simp only at b0 b1
          go_wp2_with fail
          refine kd.mono ?_
          rintro e w9 ⟨rfl,hw9⟩
          obtain⟨tg2,qs2,g1,g2⟩:=HFI.out _ _ _ HB5.out hw9
          obtain⟨s0,s1⟩:=g2.ce
          obtain⟨s2,s3⟩:=g2.fz
          obtain⟨b0,b1⟩:=g1.bs.ce
          unfold SV.val at b0 b1 s0 s1
          simp only at b0 b1 s0 s1
          obtain⟨k1,k2,k3⟩:=g1.fin (SWent.same g1.st (Below.refl _ _))
          obtain⟨r0,r1⟩:=k1.ce
          obtain⟨f0,f1⟩:=k1.fz
          have HF:=(show Hid _ from And.intro k2 k3)
          clear k1 k2 k3 g1 g2 kd hw9 HSE HDF HFI HB3 HB5
          unfold SV.nil SV.val at r0 r1
          simp only at r0 r1
          go_wp2_with fail
          refine bodyPost_ret (res4 rfl _ _ (w.heap.size+1) 33 _ (0,0) _ rfl HF.out.1 Tryz.underlying33 rfl (by kernel_rfl)) rfl ?_
          exact⟨rfl,HF.out.2⟩
        | false =>
          simp only[asgD,Bool.false_eq_true,if_false]
          have HR:Hid (dfG S o k (wsAll v)=(rs,false)):=hr
          clear hr
          go_enter Tryz.func33,Tryz.ntmps33
          go_upto_region 1 with fail
          rw[←hwb]
          clear hwb
          go_wp2_with fail
          refine kl.mono ?_
          rintro e w2 ⟨rfl,hB2⟩
          have HB3:=(show Hid _ from hB2.alloc hB2.size (.cells #[.int .u64 d.va,.int .u64 d.se,.int .i64 d.fl] 39))
          obtain⟨x0,x1,x2⟩:=(Bx3.box w2 d).ce
          obtain⟨b0,b1⟩:=(HSE.out _ HB3.out).bs.ce
          unfold SV.val at b0 b1
          simp only at b0 b1
          clear kl hB2
          have HB5:=(show Hid _ from (HB3.out).alloc (HB3.out).size (.cells #[.int .i64 15,.int .u64 v,.int .u64 0,.int .u64 0,.int .i64 7] 26))
          have kd:=HDF.out _ (wsAll v) (wsAll_ok HV.out) HB5.out
          unfold wsV wsAll at kd
          simp only at kd
          have hR2:=HR.out
          unfold wsAll at hR2
          rw[hR2] at kd
          simp only at kd
          clear hR2 HR
          obtain⟨b0,b1⟩:=(HSE.out _ HB5.out).bs.ce
          unfold SV.val at b0 b1
          simp only at b0 b1
          go_wp2_with fail
          refine kd.mono ?_
          rintro e w9 ⟨rfl,hw9⟩
          obtain⟨tg2,qs2,g1,g2⟩:=HFI.out _ _ _ HB5.out hw9
          obtain⟨s0,s1⟩:=g2.ce
          obtain⟨s2,s3⟩:=g2.fz
          obtain⟨b0,b1⟩:=g1.bs.ce
          unfold SV.val at b0 b1 s0 s1
          simp only at b0 b1 s0 s1
          obtain⟨k1,k2,k3⟩:=g1.fin (SWent.same g1.st (Below.refl _ _))
          obtain⟨r0,r1⟩:=k1.ce
          obtain⟨f0,f1⟩:=k1.fz
          have HF:=(show Hid _ from And.intro k2 k3)
          clear k1 k2 k3 g1 g2 kd hw9 HSE HDF HFI HB3 HB5
          unfold SV.nil SV.val at r0 r1
          simp only at r0 r1
          go_wp2_with fail
          refine bodyPost_ret (res4 rfl _ _ (w.heap.size+1) 33 _ (0,0) _ rfl HF.out.1 Tryz.underlying33 rfl (by kernel_rfl)) rfl ?_
          exact⟨rfl,HF.out.2⟩
end
theorem rright_int (a:Int)(h0:0≤a)(h1:a<18446744073709551616)(w:World) :
  Calls Tryz.prog 55 #[.int .u64 a] w fun e w'=>∃b,e = .returned (.bool b)∧Below w.heap.size w w'∧((tagI a).1=65529→b=(a / 4294967296 % 65536 == 0)):=by
 have kt:=rtag_any a h0 h1 w
 have b0:0≤a / 4294967296 % 65536:=by omega
 generalize (tagI a).1=t at *
 generalize (tagI a).2=n at *
 by_cases c:t=0
 ·subst c
  have kn:=fun w=>number_some a w
  go_enter Tryz.func55,Tryz.ntmps55
  go_wp2_with fail
  refine kt.mono ?_
  rintro e w1 ⟨rfl,rfl⟩
  clear kt
  go_wp2_with fail
  refine(kn _).mono ?_
  rintro e w2 ⟨n2,rfl,hb⟩
  go_wp2
  go_ret
  exact⟨_,rfl,hb,fun q=>by omega⟩
 ·have c1:(t == 0)=false:=by simpa using c
  cases hm:(a / 4294967296 % 65536 != 0) with
  | true =>
    go_enter Tryz.func55,Tryz.ntmps55
    go_wp2_with fail
    refine kt.mono ?_
    rintro e w1 ⟨rfl,rfl⟩
    clear kt
    go_wp2
    go_ret
    exact⟨_,rfl,Below.refl _ _,fun q=>by rw[bne] at hm;simpa using hm⟩
  | false =>
    cases ht:(t != 65531) with
    | true =>
      go_enter Tryz.func55,Tryz.ntmps55
      go_wp2_with fail
      refine kt.mono ?_
      rintro e w1 ⟨rfl,rfl⟩
      clear kt
      go_wp2
      go_ret
      exact⟨_,rfl,Below.refl _ _,fun q=>by rw[bne] at hm;simpa using hm⟩
    | false =>
      have ht':t=65531:=by simpa using ht
      go_enter Tryz.func55,Tryz.ntmps55
      go_wp2_with fail
      refine kt.mono ?_
      rintro e w1 ⟨rfl,rfl⟩
      clear kt
      go_wp2
      go_ret
      exact⟨_,rfl,Below.refl _ _,fun q=>by omega⟩
theorem isTagI_any (a:Int)(h0:0≤a)(h1:a<18446744073709551616)(w:World) :
  Calls Tryz.prog 20 #[.int .u64 a,.int .u64 65529] w fun e w'=>e = .returned (.tuple #[.int .u32 (payN a 65529),.bool (isT a 65529)])∧Below w.heap.size w w':=by
 have kt:=rtag_any a h0 h1 w
 have kr:=rright_int a h0 h1 w
 have hT:isT a 65529=((tagI a).1 == 65529 && (a / 4294967296 % 65536 == 0)):=by
  unfold isT tagI
  rw[Bool.eq_iff_iff]
  by_cases c:65529≤a / 281474976710656∧a / 281474976710656≤65532
  ·rw[if_pos c]
   simp only[Bool.and_eq_true,beq_iff_eq]
   omega
  ·rw[if_neg c]
   simp only[Bool.and_eq_true,beq_iff_eq]
   omega
 have hP:(tagI a).1=65529→(tagI a).2=a % 4294967296:=fun q=>by
  unfold tagI at q ⊢
  split at q
  ·rename_i c;rw[if_pos c]
  ·simp at q
 unfold payN
 rw[hT]
 have HP:Hid _:=hP
 clear hT hP
 generalize (tagI a).1=t at *
 generalize (tagI a).2=n at *
 generalize (a / 4294967296 % 65536 == 0)=m at *
 by_cases c:t=65529
 ·subst c
  have hn:=HP.out rfl
  rw[hn] at kt
  generalize a % 4294967296=M at *
  clear HP hn
  go_enter Tryz.func20,Tryz.ntmps20
  go_wp2_with fail
  refine kt.mono ?_
  rintro e w1 ⟨rfl,rfl⟩
  clear kt
  go_wp2_with fail
  refine kr.mono ?_
  rintro e w2 ⟨b,rfl,hb,hbm⟩
  have hbm:=hbm (by trivial)
  subst hbm
  clear kr
  cases b with
  | true =>
    go_wp2
    go_ret2
    exact⟨rfl,hb⟩
  | false =>
    go_wp2
    go_ret2
    exact⟨rfl,hb⟩
 ·have c1:(t == 65529)=false:=by simpa using c
  have c2:(t != 65529)=true:=by simpa using c
  rw[c1,Bool.false_and]
  clear HP
  go_enter Tryz.func20,Tryz.ntmps20
  go_wp2_with fail
  refine kt.mono ?_
  rintro e w1 ⟨rfl,rfl⟩
  clear kt
  go_wp2_with fail
  refine kr.mono ?_
  rintro e w2 ⟨b,rfl,hb,hbm⟩
  clear kr
  go_wp2
  go_ret2
  exact⟨rfl,hb⟩
end Go.Proofs.YtahhionlbfhinabGreatDoor.Hp
