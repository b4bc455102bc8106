/- YM -/
import Derived.Test.YtahhionlbfhinabGreatDoorB32
import Derived.Test.YtahhionlbfhinabGreatDoorB27
import Derived.Test.YtahhionlbfhinabGreatDoorB15
set_option linter.unusedVariables false
set_option linter.unusedSimpArgs false
set_option maxRecDepth 100000
set_option maxHeartbeats 40000000
namespace Go.Proofs.YtahhionlbfhinabGreatDoor.Hp
open Go.RowKit
section
variable {w W W' w' w1:World}{B b:Nat}{tg:Nat→Nat}{S S':List So}{vo vt:SV}{qs:List QV}{i:Nat}{x x':So}{q:QV}
theorem at_some {u:Int}{y:So}(hq:soO S u=some y):∃j:Nat,atI S u=(j:Int):=by
 unfold soO at hq
 unfold atI
 cases hz:obS S u with
 | none=>rw[hz] at hq;cases hq
 | some j=>exact⟨j,rfl⟩
theorem at_none {u:Int}(hq:soO S u=none):atI S u = -1:=by
 unfold atI
 cases hz:obS S u with
 | none=>rfl
 | some j =>
   unfold soO at hq
   rw[hz] at hq
   have hj:j<S.length:=by
    unfold obS at hz
    split at hz
    ·rename_i c
     have e:(payN u 65530).toNat=j:=Option.some.inj hz
     have:=payN_bd u 65530
     omega
    ·cases hz
   have hq:S[j]?=none:=hq
   rw[List.getElem?_eq_getElem hj] at hq
   cases hq
theorem ob_so (u:Int):(obS S u).isSome=(soO S u).isSome:=by
 cases hq:soO S u with
 | none =>
   have:=at_none hq
   unfold atI at this
   cases hz:obS S u with
   | none=>rfl
   | some j =>
     rw[hz] at this
     have:(j:Int) = -1:=this
     omega
 | some y =>
   unfold soO at hq
   cases hz:obS S u with
   | none=>rw[hz] at hq;cases hq
   | some j=>rfl
theorem so_memM {u:Int}{y:So}(hs:soO S u=some y):y∈S:=by
 unfold soO at hs
 cases hi:obS S u with
 | none=>rw[hi] at hs;cases hs
 | some i =>
   rw[hi] at hs
   exact List.mem_of_getElem? (show S[i]?=some y from hs)
theorem rsetProto_full (h:StAt w B tg S vo qs)(vt:SV)(hpr:∀x∈S,0≤x.proto∧x.proto<18446744073709551616)(o:Int)(o0:0≤o)(o1:o<18446744073709551616)(p:Int)(p0:0≤p)(p1:p<18446744073709551616) :
  Calls Tryz.prog 35 #[stV vo vt,.int .u64 o,.int .u64 p] w fun e w'=>e = .returned (.tuple #[stV vo vt,.bool (spG S o p).2])∧SWent w B tg (spG S o p).1 vo w':=by
 obtain⟨wb,hwb⟩:∃wb,wb=(w.alloc (.cells #[vo.val,vt.val] 33)).alloc (.cells #[.slice none 0 0,.slice none 0 0] 33):=⟨_,rfl⟩
 obtain⟨hbs,hbr,hB⟩:=boxS2 w vo vt
 rw[←hwb] at hbs hbr hB
 have hse:=SeT.start h hbs hbr hB
 have h2:=h.below hB
 have HSE:Hid (∀W,Below wb.heap.size wb W→SeT w W B tg tg S vo vt qs):=fun W r=>hse.below r
 have HAT:Hid (∀W u,Below wb.heap.size wb W→0≤u→u<18446744073709551616→Calls Tryz.prog 9 #[stV vo vt,.int .u64 u] W fun e w'=>e = .returned (.int .i64 (atI S u))∧Below W.heap.size W w'):=fun W u r u0 u1=>rat_o (h2.below r) vt u u0 u1
 have HPT:Hid (∀W u,Below wb.heap.size wb W→0≤u→u<18446744073709551616→Calls Tryz.prog 76 #[stV vo vt,.int .u64 u] W fun e w'=>e = .returned (.int .u64 (upS S u))∧Below W.heap.size W w'):=fun W u r u0 u1=>rproto_o (h2.below r) vt u u0 u1
 have HOP:Hid (∀W,Below wb.heap.size wb W→Calls Tryz.prog 65 #[stV vo vt,.int .u64 o] W fun e w'=>e = .returned (.bool (((soO S o).map (fun x => !x.shut)).getD false))∧Below W.heap.size W w'):=fun W r=>ropen_o (h2.below r) vt o o0 o1
 have HRP:Hid (∀W,Below wb.heap.size wb W→Calls Tryz.prog 77 #[stV vo vt,.int .u64 o,.int .u64 p] W fun e w'=>e = .returned (stV vo vt)∧SWent W B tg (protoG S o p) vo w'):=fun W r=>rproto_full (h2.below r) vt hpr o o0 o1 p p0 p1
 have HUP:Hid (∀u,0≤u→u<18446744073709551616→0≤upS S u∧upS S u<18446744073709551616):=fun u u0 u1=>by
  unfold upS
  cases hs:soO S u with
  | none=>exact⟨by decide,by decide⟩
  | some y=>exact hpr y (so_memM hs)
 have HS0:Hid (∀W,Below wb.heap.size wb W→RpS wb W S o p p 0):=fun W r=>⟨p0,p1,r,rfl⟩
 have HSL:Hid (S.length≤65536):=h.big
 have HON:Hid (soO S o≠none→¬(18445336698825998337:Int)=o):=fun a e=>a (by rw[←e];exact soO_null S)
 have HP:Hid (0≤p∧p<18446744073709551616∧0≤o∧o<18446744073709551616):=⟨p0,p1,o0,o1⟩
 obtain⟨va,vc,hv,_,_⟩:=h.vol
 subst hv
 obtain⟨ta,tl,tc⟩:=vt
 unfold stV at HAT HPT HOP HRP ⊢
 rw[show(SV.mk va S.length vc).val = .slice va S.length vc from rfl,show(SV.mk ta tl tc).val = .slice ta tl tc from rfl] at HAT HPT HOP HRP hwb ⊢
 have HB0:=(show Hid _ from (HSE.out wb (Below.refl _ _)).bs.ce)
 rw[show(SV.mk va S.length vc).val = .slice va S.length vc from rfl,show(SV.mk ta tl tc).val = .slice ta tl tc from rfl] at HB0
 clear h h2 hse hbs hbr hB hpr o0 o1 p0 p1
 obtain⟨b0,b1⟩:=HB0.out
 have HG:Hid (spG S o p=match soO S o with
  | none=>(S,false)
  | some x=>if ((p == nulW) || (obS S p).isSome)=false then (S,false) else if x.proto=p then (S,true) else if x.shut=true then (S,false) else
    if repB S o (S.length+1) p=true then (S,false) else (protoG S o p,true)):=rfl
 have ka:=HAT.out wb o (Below.refl _ _) HP.out.2.2.1 HP.out.2.2.2
 have hwrap:∀j:Nat,j≤S.length→IntKind.i64.wrap ((j:Int)+1)=((j+1:Nat):Int):=fun j hj=>by rw[IntKind.wrap_i64];have:=HSL.out;omega
 cases hq:soO S o with
 | none =>
   rw[at_none hq] at ka
   rw[HG.out,hq]
   simp only
   go_enter Tryz.func35,Tryz.ntmps35
   go_upto_region 1 with fail
   rw[←hwb]
   clear hwb
   go_wp2_with fail
   refine ka.mono ?_
   rintro e w2 ⟨rfl,hB2⟩
   have HB2:=(show Hid _ from hB2)
   clear ka hB2
   obtain⟨b0,b1⟩:=(HSE.out w2 HB2.out).bs.ce
   unfold SV.val at b0 b1
   simp only at b0 b1
   obtain⟨k1,k2,k3⟩:=(HSE.out w2 HB2.out).fin (SWent.same (HSE.out w2 HB2.out).st (Below.refl _ _))
   obtain⟨r0,r1⟩:=k1.ce
   obtain⟨f0,f1⟩:=k1.fz
   have HF:=(show Hid _ from And.intro k2 k3)
   clear k1 k2 k3 HAT HPT HOP HRP HUP HS0 HG HB2 HSE
   unfold SV.nil SV.val at r0 r1
   simp only at r0 r1
   go_wp2_with fail
   refine bodyPost_ret (res2 rfl _ _ (w.heap.size+1) 33 _ (0,0) _ rfl HF.out.1 Tryz.underlying33 rfl (by kernel_rfl)) rfl ?_
   exact⟨rfl,HF.out.2⟩
 | some x =>
   obtain⟨i,hi⟩:=at_some hq
   rw[hi] at ka
   have h0i:decide ((i:Int)<0)=false:=decide_eq_false (by omega)
   have h0j:¬((i:Int)<0):=by omega
   have hno:=HON.out (by rw[hq];simp)
   have hup:upS S o=x.proto:=by unfold upS;rw[hq];rfl
   have HG2:Hid (spG S o p=if ((p == nulW) || (obS S p).isSome)=false then (S,false) else if x.proto=p then (S,true) else if x.shut=true then (S,false) else
    if repB S o (S.length+1) p=true then (S,false) else (protoG S o p,true)):=by show _=_;rw[HG.out,hq]
   have HO2:Hid (∀W,Below wb.heap.size wb W→Calls Tryz.prog 65 #[.agg #[.slice va S.length vc,.slice ta tl tc],.int .u64 o] W fun e w'=>e = .returned (.bool (!x.shut))∧Below W.heap.size W w'):=fun W r=>by have:=HOP.out W r;rw[hq] at this;exact this
   have HNU:Hid (∀n,repB S o n 18445336698825998337=false):=rep_null (soO_null S) hno
   rw[ob_so] at HG2
   clear HG HOP hi
   rcases (show((p == nulW)=true)∨((p == nulW)=false∧(soO S p).isSome=false)∨((p == nulW)=false∧(soO S p).isSome=true) by cases (p == nulW) <;> cases (soO S p).isSome <;> simp) with c | ⟨c,c1⟩ | ⟨c,c1⟩
   ·have cn:(p != 18445336698825998337)=false:=by unfold nulW at c;unfold bne;rw[c];rfl
    have HG3:Hid (spG S o p=if x.proto=p then (S,true) else if x.shut=true then (S,false) else if repB S o (S.length+1) p=true then (S,false) else (protoG S o p,true)):=by show _=_;rw[HG2.out,c,Bool.true_or,if_neg (by simp)]
    clear HG2 c
    by_cases d:x.proto=p
    ·have d1:(x.proto == p)=true:=by simpa using d
     rw[HG3.out,if_pos d]
     clear HG3 d
     go_enter Tryz.func35,Tryz.ntmps35
     go_upto_region 1 with fail
     rw[←hwb]
     clear hwb
     go_wp2_with fail
     refine ka.mono ?_
     rintro e w2 ⟨rfl,hB2⟩
     have HB2:=(show Hid _ from hB2)
     clear ka hB2
     obtain⟨b0,b1⟩:=(HSE.out w2 HB2.out).bs.ce
     unfold SV.val at b0 b1
     simp only at b0 b1
     have HB3:=HB2
     have hw3:∃w3,w3=w2:=⟨w2,rfl⟩
     clear hw3
     have kp:=HPT.out w2 o HB3.out HP.out.2.2.1 HP.out.2.2.2
     rw[hup] at kp
     go_wp2_with fail
     refine kp.mono ?_
     rintro e w4 ⟨rfl,hB4⟩
     have HB4:=(show Hid _ from bel_sm' HB3.out hB4)
     clear kp hB4
     obtain⟨b0,b1⟩:=(HSE.out w4 HB4.out).bs.ce
     unfold SV.val at b0 b1
     simp only at b0 b1
     obtain⟨k1,k2,k3⟩:=(HSE.out w4 HB4.out).fin (SWent.same (HSE.out w4 HB4.out).st (Below.refl _ _))
     obtain⟨r0,r1⟩:=k1.ce
     obtain⟨f0,f1⟩:=k1.fz
     have HF:=(show Hid _ from And.intro k2 k3)
     clear k1 k2 k3 HAT HPT HO2 HRP HUP HS0 HB4 HSE HNU
     unfold SV.nil SV.val at r0 r1
     simp only at r0 r1
     go_wp2_with fail
     refine bodyPost_ret (res2 rfl _ _ (w.heap.size+1) 33 _ (0,0) _ rfl HF.out.1 Tryz.underlying33 rfl (by kernel_rfl)) rfl ?_
     exact⟨rfl,HF.out.2⟩
    ·have d1:(x.proto == p)=false:=by simpa using d
     cases hs:x.shut with
     | true =>
       rw[HG3.out,if_neg d,hs,if_pos rfl]
       clear HG3 d
       go_enter Tryz.func35,Tryz.ntmps35
       go_upto_region 1 with fail
       rw[←hwb]
       clear hwb
       go_wp2_with fail
       refine ka.mono ?_
       rintro e w2 ⟨rfl,hB2⟩
       have HB2:=(show Hid _ from hB2)
       clear ka hB2
       obtain⟨b0,b1⟩:=(HSE.out w2 HB2.out).bs.ce
       unfold SV.val at b0 b1
       simp only at b0 b1
       have HB3:=HB2
       have hw3:∃w3,w3=w2:=⟨w2,rfl⟩
       clear hw3
       have kp:=HPT.out w2 o HB3.out HP.out.2.2.1 HP.out.2.2.2
       rw[hup] at kp
       go_wp2_with fail
       refine kp.mono ?_
       rintro e w4 ⟨rfl,hB4⟩
       have HB4:=(show Hid _ from bel_sm' HB3.out hB4)
       clear kp hB4
       obtain⟨b0,b1⟩:=(HSE.out w4 HB4.out).bs.ce
       unfold SV.val at b0 b1
       simp only at b0 b1
       have ko:=HO2.out w4 HB4.out
       rw[hs] at ko
       go_wp2_with fail
       refine ko.mono ?_
       rintro e w5 ⟨rfl,hB5⟩
       have HB5:=(show Hid _ from bel_sm' HB4.out hB5)
       clear ko hB5 hs
       obtain⟨b0,b1⟩:=(HSE.out w5 HB5.out).bs.ce
       unfold SV.val at b0 b1
       simp only at b0 b1
       obtain⟨k1,k2,k3⟩:=(HSE.out w5 HB5.out).fin (SWent.same (HSE.out w5 HB5.out).st (Below.refl _ _))
       obtain⟨r0,r1⟩:=k1.ce
       obtain⟨f0,f1⟩:=k1.fz
       have HF:=(show Hid _ from And.intro k2 k3)
       clear k1 k2 k3 HAT HPT HO2 HRP HUP HS0 HB4 HB5 HSE HNU
       unfold SV.nil SV.val at r0 r1
       simp only at r0 r1
       go_wp2_with fail
       refine bodyPost_ret (res2 rfl _ _ (w.heap.size+1) 33 _ (0,0) _ rfl HF.out.1 Tryz.underlying33 rfl (by kernel_rfl)) rfl ?_
       exact⟨rfl,HF.out.2⟩
     | false =>
       have HG4:Hid (spG S o p=if repB S o (S.length+1) p=true then (S,false) else (protoG S o p,true)):=by show _=_;rw[HG3.out,if_neg d,hs,if_neg (by simp)]
       clear HG3 d
       go_enter Tryz.func35,Tryz.ntmps35
       go_upto_region 1 with fail
       rw[←hwb]
       clear hwb
       go_wp2_with fail
       refine ka.mono ?_
       rintro e w2 ⟨rfl,hB2⟩
       have HB2:=(show Hid _ from hB2)
       clear ka hB2
       obtain⟨b0,b1⟩:=(HSE.out w2 HB2.out).bs.ce
       unfold SV.val at b0 b1
       simp only at b0 b1
       have HB3:=HB2
       have hw3:∃w3,w3=w2:=⟨w2,rfl⟩
       clear hw3
       have kp:=HPT.out w2 o HB3.out HP.out.2.2.1 HP.out.2.2.2
       rw[hup] at kp
       go_wp2_with fail
       refine kp.mono ?_
       rintro e w4 ⟨rfl,hB4⟩
       have HB4:=(show Hid _ from bel_sm' HB3.out hB4)
       clear kp hB4
       obtain⟨b0,b1⟩:=(HSE.out w4 HB4.out).bs.ce
       unfold SV.val at b0 b1
       simp only at b0 b1
       have ko:=HO2.out w4 HB4.out
       rw[hs] at ko
       go_wp2_with fail
       refine ko.mono ?_
       rintro e w5 ⟨rfl,hB5⟩
       have HB5:=(show Hid _ from bel_sm' HB4.out hB5)
       clear ko hB5 hs
       obtain⟨b0,b1⟩:=(HSE.out w5 HB5.out).bs.ce
       unfold SV.val at b0 b1
       simp only at b0 b1
       have HS:Hid (RpS wb w5 S o p p 0):=HS0.out w5 HB5.out
       clear HS0 HB4 HB5 HB3 HAT HO2
       go_wp2_with fail
       go_loopw [9,10] (fun a c wr=>∃(u:Int) (j:Nat),j≤S.length+1∧a = .int .u64 u∧c = .int .i64 (j:Int)∧Hid (RpS wb wr S o p u j)) (fun a c wr=>((S.length:Int)+1 - intOf c).toNat)
       case atStart=>exact⟨p,0,by omega,rfl,rfl,HS⟩
       case round =>
        clear HS
        obtain⟨u,j,hj',rfl,rfl,HL⟩:=hrel
        have HBL:Hid (Below wb.heap.size wb wr):=HL.out.bel
        obtain⟨b0,b1⟩:=(HSE.out wr HBL.out).bs.ce
        unfold SV.val at b0 b1
        simp only at b0 b1
        rcases (show j=S.length+1∨(j≤S.length∧u=18445336698825998337)∨(j≤S.length∧¬u=18445336698825998337∧u=o)∨(j≤S.length∧¬u=18445336698825998337∧¬u=o) by by_cases e1:j=S.length+1 <;> by_cases e2:u=18445336698825998337 <;> by_cases e3:u=o <;> simp[e1,e2,e3] <;> omega) with cj | ⟨cj,cu⟩ | ⟨cj,cu,co⟩ | ⟨cj,cu,co⟩
        ·have HR:Hid (repB S o (S.length+1) p=false):=by
          show _=_
          rw[HL.out.eq,cj,Nat.sub_self]
          rfl
         have hle:¬((j:Int)≤(S.length:Int)):=by omega
         have hle2:decide ((j:Int)≤(S.length:Int))=false:=decide_eq_false hle
         have kr:=HRP.out wr HBL.out
         clear HL HPT HUP HRP HNU
         go_wp2_with fail
         refine kr.mono ?_
         rintro e w6 ⟨rfl,hw6⟩
         clear kr
         obtain⟨k1,k2,k3⟩:=(HSE.out wr HBL.out).fin (hw6)
         obtain⟨r0,r1⟩:=k1.ce
         obtain⟨f0,f1⟩:=k1.fz
         have HF:=(show Hid _ from And.intro k2 k3)
         clear k1 k2 k3 hw6 HSE HBL
         unfold SV.nil SV.val at r0 r1
         simp only at r0 r1
         go_wp2_with fail
         refine bodyPost_ret (res2 rfl _ _ (w.heap.size+1) 33 _ (0,0) _ rfl HF.out.1 Tryz.underlying33 rfl (by kernel_rfl)) rfl ?_
         exact⟨by rw[HG4.out,if_neg (by rw[HR.out];decide)];rfl,by rw[HG4.out,if_neg (by rw[HR.out];decide)];exact HF.out.2⟩
        ·have HR:Hid (repB S o (S.length+1) p=false):=by
          show _=_
          rw[HL.out.eq,cu]
          exact HNU.out _
         have hle:(j:Int)≤(S.length:Int):=by omega
         have hle2:decide ((j:Int)≤(S.length:Int))=true:=decide_eq_true hle
         have hun:(u != 18445336698825998337)=false:=by rw[cu];rfl
         have kr:=HRP.out wr HBL.out
         clear HL HPT HUP HRP HNU
         go_wp2_with fail
         refine kr.mono ?_
         rintro e w6 ⟨rfl,hw6⟩
         clear kr
         obtain⟨k1,k2,k3⟩:=(HSE.out wr HBL.out).fin (hw6)
         obtain⟨r0,r1⟩:=k1.ce
         obtain⟨f0,f1⟩:=k1.fz
         have HF:=(show Hid _ from And.intro k2 k3)
         clear k1 k2 k3 hw6 HSE HBL
         unfold SV.nil SV.val at r0 r1
         simp only at r0 r1
         go_wp2_with fail
         refine bodyPost_ret (res2 rfl _ _ (w.heap.size+1) 33 _ (0,0) _ rfl HF.out.1 Tryz.underlying33 rfl (by kernel_rfl)) rfl ?_
         exact⟨by rw[HG4.out,if_neg (by rw[HR.out];decide)];rfl,by rw[HG4.out,if_neg (by rw[HR.out];decide)];exact HF.out.2⟩
        ·have hle:(j:Int)≤(S.length:Int):=by omega
         have hle2:decide ((j:Int)≤(S.length:Int))=true:=decide_eq_true hle
         have hun:(u != 18445336698825998337)=true:=by simpa using cu
         have hub:(u == o)=true:=by simpa using co
         have HR:Hid (repB S o (S.length+1) p=true):=by
          show _=_
          rw[HL.out.eq,show S.length+1 - j=(S.length - j)+1 by omega,repB_yes co]
         clear HL HPT HUP HRP HNU cu co
         obtain⟨k1,k2,k3⟩:=(HSE.out wr HBL.out).fin (SWent.same (HSE.out wr HBL.out).st (Below.refl _ _))
         obtain⟨r0,r1⟩:=k1.ce
         obtain⟨f0,f1⟩:=k1.fz
         have HF:=(show Hid _ from And.intro k2 k3)
         clear k1 k2 k3 HSE HBL
         unfold SV.nil SV.val at r0 r1
         simp only at r0 r1
         go_wp2_with fail
         refine bodyPost_ret (res2 rfl _ _ (w.heap.size+1) 33 _ (0,0) _ rfl HF.out.1 Tryz.underlying33 rfl (by kernel_rfl)) rfl ?_
         exact⟨by rw[HG4.out,if_pos HR.out];rfl,by rw[HG4.out,if_pos HR.out];exact HF.out.2⟩
        ·have hle:(j:Int)≤(S.length:Int):=by omega
         have hle2:decide ((j:Int)≤(S.length:Int))=true:=decide_eq_true hle
         have hun:(u != 18445336698825998337)=true:=by simpa using cu
         have hub:(u == o)=false:=by simpa using co
         have hw1:=hwrap j cj
         have kp:=HPT.out wr u HBL.out HL.out.u0 HL.out.u1
         have HJ:Hid (j≤S.length):=cj
         have HNX:Hid (∀W,Below wr.heap.size wr W→RpS wb W S o p (upS S u) (j+1)):=fun W r=>⟨(HUP.out u HL.out.u0 HL.out.u1).1,(HUP.out u HL.out.u0 HL.out.u1).2,bel_sm' HL.out.bel r,by
          have:=HJ.out
          rw[HL.out.eq,show S.length+1 - j=(S.length+1 - (j+1))+1 by omega,repB_no co]⟩
         clear HL HPT HUP HRP HNU cu co HSE HBL
         go_wp2_with fail
         refine kp.mono ?_
         rintro e w7 ⟨rfl,hB7⟩
         have HN3:=(show Hid _ from HNX.out w7 hB7)
         clear kp hB7 HNX
         go_wp2_with fail
         refine⟨⟨_,j+1,by have:=HJ.out;omega,rfl,by first | rfl | trivial,HN3⟩,?_⟩
         have:=HJ.out
         simp[intOf]
         omega
   ·have cn:(p != 18445336698825998337)=true:=by unfold nulW at c;unfold bne;rw[c];rfl
    have hj:atI S p = -1:=at_none (by simpa using c1)
    rw[HG2.out,c,c1,Bool.or_false,if_pos rfl]
    clear HG2 c c1
    go_enter Tryz.func35,Tryz.ntmps35
    go_upto_region 1 with fail
    rw[←hwb]
    clear hwb
    go_wp2_with fail
    refine ka.mono ?_
    rintro e w2 ⟨rfl,hB2⟩
    have HB2:=(show Hid _ from hB2)
    clear ka hB2
    obtain⟨b0,b1⟩:=(HSE.out w2 HB2.out).bs.ce
    unfold SV.val at b0 b1
    simp only at b0 b1
    have kj:=HAT.out w2 p HB2.out HP.out.1 HP.out.2.1
    rw[hj] at kj
    go_wp2_with fail
    refine kj.mono ?_
    rintro e w3 ⟨rfl,hB3⟩
    have HB3:=(show Hid _ from bel_sm' HB2.out hB3)
    clear kj hB3 HB2
    obtain⟨b0,b1⟩:=(HSE.out w3 HB3.out).bs.ce
    unfold SV.val at b0 b1
    simp only at b0 b1
    obtain⟨k1,k2,k3⟩:=(HSE.out w3 HB3.out).fin (SWent.same (HSE.out w3 HB3.out).st (Below.refl _ _))
    obtain⟨r0,r1⟩:=k1.ce
    obtain⟨f0,f1⟩:=k1.fz
    have HF:=(show Hid _ from And.intro k2 k3)
    clear k1 k2 k3 HAT HPT HO2 HRP HUP HS0 HB3 HSE HNU
    unfold SV.nil SV.val at r0 r1
    simp only at r0 r1
    go_wp2_with fail
    refine bodyPost_ret (res2 rfl _ _ (w.heap.size+1) 33 _ (0,0) _ rfl HF.out.1 Tryz.underlying33 rfl (by kernel_rfl)) rfl ?_
    exact⟨rfl,HF.out.2⟩
   ·have cn:(p != 18445336698825998337)=true:=by unfold nulW at c;unfold bne;rw[c];rfl
    have HG3:Hid (spG S o p=if x.proto=p then (S,true) else if x.shut=true then (S,false) else if repB S o (S.length+1) p=true then (S,false) else (protoG S o p,true)):=by show _=_;rw[HG2.out,c,c1,Bool.or_true,if_neg (by simp)]
    obtain⟨y,hy⟩:=Option.isSome_iff_exists.1 c1
    obtain⟨j,hj⟩:=at_some hy
    have h0q:decide ((j:Int)<0)=false:=decide_eq_false (by omega)
    have h0r:¬((j:Int)<0):=by omega
    clear hy c1
    clear HG2 c
    by_cases d:x.proto=p
    ·have d1:(x.proto == p)=true:=by simpa using d
     rw[HG3.out,if_pos d]
     clear HG3 d
     go_enter Tryz.func35,Tryz.ntmps35
     go_upto_region 1 with fail
     rw[←hwb]
     clear hwb
     go_wp2_with fail
     refine ka.mono ?_
     rintro e w2 ⟨rfl,hB2⟩
     have HB2:=(show Hid _ from hB2)
     clear ka hB2
     obtain⟨b0,b1⟩:=(HSE.out w2 HB2.out).bs.ce
     unfold SV.val at b0 b1
     simp only at b0 b1
     have kj:=HAT.out w2 p HB2.out HP.out.1 HP.out.2.1
     rw[hj] at kj
     go_wp2_with fail
     refine kj.mono ?_
     rintro e w3 ⟨rfl,hB3⟩
     have HB3:=(show Hid _ from bel_sm' HB2.out hB3)
     clear kj hB3 HB2
     obtain⟨b0,b1⟩:=(HSE.out w3 HB3.out).bs.ce
     unfold SV.val at b0 b1
     simp only at b0 b1
     have kp:=HPT.out w3 o HB3.out HP.out.2.2.1 HP.out.2.2.2
     rw[hup] at kp
     go_wp2_with fail
     refine kp.mono ?_
     rintro e w4 ⟨rfl,hB4⟩
     have HB4:=(show Hid _ from bel_sm' HB3.out hB4)
     clear kp hB4
     obtain⟨b0,b1⟩:=(HSE.out w4 HB4.out).bs.ce
     unfold SV.val at b0 b1
     simp only at b0 b1
     obtain⟨k1,k2,k3⟩:=(HSE.out w4 HB4.out).fin (SWent.same (HSE.out w4 HB4.out).st (Below.refl _ _))
     obtain⟨r0,r1⟩:=k1.ce
     obtain⟨f0,f1⟩:=k1.fz
     have HF:=(show Hid _ from And.intro k2 k3)
     clear k1 k2 k3 HAT HPT HO2 HRP HUP HS0 HB4 HSE HNU
     unfold SV.nil SV.val at r0 r1
     simp only at r0 r1
     go_wp2_with fail
     refine bodyPost_ret (res2 rfl _ _ (w.heap.size+1) 33 _ (0,0) _ rfl HF.out.1 Tryz.underlying33 rfl (by kernel_rfl)) rfl ?_
     exact⟨rfl,HF.out.2⟩
    ·have d1:(x.proto == p)=false:=by simpa using d
     cases hs:x.shut with
     | true =>
       rw[HG3.out,if_neg d,hs,if_pos rfl]
       clear HG3 d
       go_enter Tryz.func35,Tryz.ntmps35
       go_upto_region 1 with fail
       rw[←hwb]
       clear hwb
       go_wp2_with fail
       refine ka.mono ?_
       rintro e w2 ⟨rfl,hB2⟩
       have HB2:=(show Hid _ from hB2)
       clear ka hB2
       obtain⟨b0,b1⟩:=(HSE.out w2 HB2.out).bs.ce
       unfold SV.val at b0 b1
       simp only at b0 b1
       have kj:=HAT.out w2 p HB2.out HP.out.1 HP.out.2.1
       rw[hj] at kj
       go_wp2_with fail
       refine kj.mono ?_
       rintro e w3 ⟨rfl,hB3⟩
       have HB3:=(show Hid _ from bel_sm' HB2.out hB3)
       clear kj hB3 HB2
       obtain⟨b0,b1⟩:=(HSE.out w3 HB3.out).bs.ce
       unfold SV.val at b0 b1
       simp only at b0 b1
       have kp:=HPT.out w3 o HB3.out HP.out.2.2.1 HP.out.2.2.2
       rw[hup] at kp
       go_wp2_with fail
       refine kp.mono ?_
       rintro e w4 ⟨rfl,hB4⟩
       have HB4:=(show Hid _ from bel_sm' HB3.out hB4)
       clear kp hB4
       obtain⟨b0,b1⟩:=(HSE.out w4 HB4.out).bs.ce
       unfold SV.val at b0 b1
       simp only at b0 b1
       have ko:=HO2.out w4 HB4.out
       rw[hs] at ko
       go_wp2_with fail
       refine ko.mono ?_
       rintro e w5 ⟨rfl,hB5⟩
       have HB5:=(show Hid _ from bel_sm' HB4.out hB5)
       clear ko hB5 hs
       obtain⟨b0,b1⟩:=(HSE.out w5 HB5.out).bs.ce
       unfold SV.val at b0 b1
       simp only at b0 b1
       obtain⟨k1,k2,k3⟩:=(HSE.out w5 HB5.out).fin (SWent.same (HSE.out w5 HB5.out).st (Below.refl _ _))
       obtain⟨r0,r1⟩:=k1.ce
       obtain⟨f0,f1⟩:=k1.fz
       have HF:=(show Hid _ from And.intro k2 k3)
       clear k1 k2 k3 HAT HPT HO2 HRP HUP HS0 HB4 HB5 HSE HNU
       unfold SV.nil SV.val at r0 r1
       simp only at r0 r1
       go_wp2_with fail
       refine bodyPost_ret (res2 rfl _ _ (w.heap.size+1) 33 _ (0,0) _ rfl HF.out.1 Tryz.underlying33 rfl (by kernel_rfl)) rfl ?_
       exact⟨rfl,HF.out.2⟩
     | false =>
       have HG4:Hid (spG S o p=if repB S o (S.length+1) p=true then (S,false) else (protoG S o p,true)):=by show _=_;rw[HG3.out,if_neg d,hs,if_neg (by simp)]
       clear HG3 d
       go_enter Tryz.func35,Tryz.ntmps35
       go_upto_region 1 with fail
       rw[←hwb]
       clear hwb
       go_wp2_with fail
       refine ka.mono ?_
       rintro e w2 ⟨rfl,hB2⟩
       have HB2:=(show Hid _ from hB2)
       clear ka hB2
       obtain⟨b0,b1⟩:=(HSE.out w2 HB2.out).bs.ce
       unfold SV.val at b0 b1
       simp only at b0 b1
       have kj:=HAT.out w2 p HB2.out HP.out.1 HP.out.2.1
       rw[hj] at kj
       go_wp2_with fail
       refine kj.mono ?_
       rintro e w3 ⟨rfl,hB3⟩
       have HB3:=(show Hid _ from bel_sm' HB2.out hB3)
       clear kj hB3 HB2
       obtain⟨b0,b1⟩:=(HSE.out w3 HB3.out).bs.ce
       unfold SV.val at b0 b1
       simp only at b0 b1
       have kp:=HPT.out w3 o HB3.out HP.out.2.2.1 HP.out.2.2.2
       rw[hup] at kp
       go_wp2_with fail
       refine kp.mono ?_
       rintro e w4 ⟨rfl,hB4⟩
       have HB4:=(show Hid _ from bel_sm' HB3.out hB4)
       clear kp hB4
       obtain⟨b0,b1⟩:=(HSE.out w4 HB4.out).bs.ce
       unfold SV.val at b0 b1
       simp only at b0 b1
       have ko:=HO2.out w4 HB4.out
       rw[hs] at ko
       go_wp2_with fail
       refine ko.mono ?_
       rintro e w5 ⟨rfl,hB5⟩
       have HB5:=(show Hid _ from bel_sm' HB4.out hB5)
       clear ko hB5 hs
       obtain⟨b0,b1⟩:=(HSE.out w5 HB5.out).bs.ce
       unfold SV.val at b0 b1
       simp only at b0 b1
       have HS:Hid (RpS wb w5 S o p p 0):=HS0.out w5 HB5.out
       clear HS0 HB4 HB5 HB3 HAT HO2
       go_wp2_with fail
       go_loopw [9,10] (fun a c wr=>∃(u:Int) (j:Nat),j≤S.length+1∧a = .int .u64 u∧c = .int .i64 (j:Int)∧Hid (RpS wb wr S o p u j)) (fun a c wr=>((S.length:Int)+1 - intOf c).toNat)
       case atStart=>exact⟨p,0,by omega,rfl,rfl,HS⟩
       case round =>
        clear HS
        obtain⟨u,j,hj',rfl,rfl,HL⟩:=hrel
        have HBL:Hid (Below wb.heap.size wb wr):=HL.out.bel
        obtain⟨b0,b1⟩:=(HSE.out wr HBL.out).bs.ce
        unfold SV.val at b0 b1
        simp only at b0 b1
        rcases (show j=S.length+1∨(j≤S.length∧u=18445336698825998337)∨(j≤S.length∧¬u=18445336698825998337∧u=o)∨(j≤S.length∧¬u=18445336698825998337∧¬u=o) by by_cases e1:j=S.length+1 <;> by_cases e2:u=18445336698825998337 <;> by_cases e3:u=o <;> simp[e1,e2,e3] <;> omega) with cj | ⟨cj,cu⟩ | ⟨cj,cu,co⟩ | ⟨cj,cu,co⟩
        ·have HR:Hid (repB S o (S.length+1) p=false):=by
          show _=_
          rw[HL.out.eq,cj,Nat.sub_self]
          rfl
         have hle:¬((j:Int)≤(S.length:Int)):=by omega
         have hle2:decide ((j:Int)≤(S.length:Int))=false:=decide_eq_false hle
         have kr:=HRP.out wr HBL.out
         clear HL HPT HUP HRP HNU
         go_wp2_with fail
         refine kr.mono ?_
         rintro e w6 ⟨rfl,hw6⟩
         clear kr
         obtain⟨k1,k2,k3⟩:=(HSE.out wr HBL.out).fin (hw6)
         obtain⟨r0,r1⟩:=k1.ce
         obtain⟨f0,f1⟩:=k1.fz
         have HF:=(show Hid _ from And.intro k2 k3)
         clear k1 k2 k3 hw6 HSE HBL
         unfold SV.nil SV.val at r0 r1
         simp only at r0 r1
         go_wp2_with fail
         refine bodyPost_ret (res2 rfl _ _ (w.heap.size+1) 33 _ (0,0) _ rfl HF.out.1 Tryz.underlying33 rfl (by kernel_rfl)) rfl ?_
         exact⟨by rw[HG4.out,if_neg (by rw[HR.out];decide)];rfl,by rw[HG4.out,if_neg (by rw[HR.out];decide)];exact HF.out.2⟩
        ·have HR:Hid (repB S o (S.length+1) p=false):=by
          show _=_
          rw[HL.out.eq,cu]
          exact HNU.out _
         have hle:(j:Int)≤(S.length:Int):=by omega
         have hle2:decide ((j:Int)≤(S.length:Int))=true:=decide_eq_true hle
         have hun:(u != 18445336698825998337)=false:=by rw[cu];rfl
         have kr:=HRP.out wr HBL.out
         clear HL HPT HUP HRP HNU
         go_wp2_with fail
         refine kr.mono ?_
         rintro e w6 ⟨rfl,hw6⟩
         clear kr
         obtain⟨k1,k2,k3⟩:=(HSE.out wr HBL.out).fin (hw6)
         obtain⟨r0,r1⟩:=k1.ce
         obtain⟨f0,f1⟩:=k1.fz
         have HF:=(show Hid _ from And.intro k2 k3)
         clear k1 k2 k3 hw6 HSE HBL
         unfold SV.nil SV.val at r0 r1
         simp only at r0 r1
         go_wp2_with fail
         refine bodyPost_ret (res2 rfl _ _ (w.heap.size+1) 33 _ (0,0) _ rfl HF.out.1 Tryz.underlying33 rfl (by kernel_rfl)) rfl ?_
         exact⟨by rw[HG4.out,if_neg (by rw[HR.out];decide)];rfl,by rw[HG4.out,if_neg (by rw[HR.out];decide)];exact HF.out.2⟩
        ·have hle:(j:Int)≤(S.length:Int):=by omega
         have hle2:decide ((j:Int)≤(S.length:Int))=true:=decide_eq_true hle
         have hun:(u != 18445336698825998337)=true:=by simpa using cu
         have hub:(u == o)=true:=by simpa using co
         have HR:Hid (repB S o (S.length+1) p=true):=by
          show _=_
          rw[HL.out.eq,show S.length+1 - j=(S.length - j)+1 by omega,repB_yes co]
         clear HL HPT HUP HRP HNU cu co
         obtain⟨k1,k2,k3⟩:=(HSE.out wr HBL.out).fin (SWent.same (HSE.out wr HBL.out).st (Below.refl _ _))
         obtain⟨r0,r1⟩:=k1.ce
         obtain⟨f0,f1⟩:=k1.fz
         have HF:=(show Hid _ from And.intro k2 k3)
         clear k1 k2 k3 HSE HBL
         unfold SV.nil SV.val at r0 r1
         simp only at r0 r1
         go_wp2_with fail
         refine bodyPost_ret (res2 rfl _ _ (w.heap.size+1) 33 _ (0,0) _ rfl HF.out.1 Tryz.underlying33 rfl (by kernel_rfl)) rfl ?_
         exact⟨by rw[HG4.out,if_pos HR.out];rfl,by rw[HG4.out,if_pos HR.out];exact HF.out.2⟩
        ·have hle:(j:Int)≤(S.length:Int):=by omega
         have hle2:decide ((j:Int)≤(S.length:Int))=true:=decide_eq_true hle
         have hun:(u != 18445336698825998337)=true:=by simpa using cu
         have hub:(u == o)=false:=by simpa using co
         have hw1:=hwrap j cj
         have kp:=HPT.out wr u HBL.out HL.out.u0 HL.out.u1
         have HJ:Hid (j≤S.length):=cj
         have HNX:Hid (∀W,Below wr.heap.size wr W→RpS wb W S o p (upS S u) (j+1)):=fun W r=>⟨(HUP.out u HL.out.u0 HL.out.u1).1,(HUP.out u HL.out.u0 HL.out.u1).2,bel_sm' HL.out.bel r,by
          have:=HJ.out
          rw[HL.out.eq,show S.length+1 - j=(S.length+1 - (j+1))+1 by omega,repB_no co]⟩
         clear HL HPT HUP HRP HNU cu co HSE HBL
         go_wp2_with fail
         refine kp.mono ?_
         rintro e w7 ⟨rfl,hB7⟩
         have HN3:=(show Hid _ from HNX.out w7 hB7)
         clear kp hB7 HNX
         go_wp2_with fail
         refine⟨⟨_,j+1,by have:=HJ.out;omega,rfl,by first | rfl | trivial,HN3⟩,?_⟩
         have:=HJ.out
         simp[intOf]
         omega
end
end Go.Proofs.YtahhionlbfhinabGreatDoor.Hp
