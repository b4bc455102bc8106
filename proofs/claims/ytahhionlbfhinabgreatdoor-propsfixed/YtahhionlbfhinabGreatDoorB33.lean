/- YJ, YL -/
import Derived.Test.YtahhionlbfhinabGreatDoorB32
import Derived.Test.YtahhionlbfhinabGreatDoorB27
set_option linter.unusedVariables false
set_option linter.unusedSimpArgs false
set_option maxRecDepth 100000
set_option maxHeartbeats 40000000
namespace Go.Proofs.YtahhionlbfhinabGreatDoor.Hp
open Go.RowKit
section
variable {w w' w1:World}{B hb:Nat}{O S:Nat→Prop}{H H':He}{M M':HV}{tg:Nat→Nat}
theorem sp_new {o p:Int}{i:Nat}{ob:Ob}(e1:obI H o=some i)(e3:H.obs[i]?=some ob)(hne:¬ob.proto=p)(hm:mayB H p=true) :
  ((obO (setPF H o p) o).map Ob.proto).getD nulW=if saB H o p=true then ob.proto else p:=by
 have e:setPF H o p=if p=ob.proto∨mayB H p=false∨saB H o p=true then H else setPH H i ob p:=by unfold setPF;rw[e1];simp only[e3]
 rw[e]
 by_cases c:saB H o p=true
 ·rw[if_pos (Or.inr (Or.inr c)),if_pos c]
  have eo:obO H o=some ob:=by unfold obO;rw[e1];exact e3
  rw[eo];rfl
 ·rw[if_neg (by rintro(q | q | q)
                ·exact hne q.symm
                ·rw[hm] at q;cases q
                ·exact c q),if_neg c]
  have hil:=(List.getElem?_eq_some_iff.1 e3).1
  have hr:(raiseH (touchH H ob.cell) p).obs.length=H.obs.length:=(raise_len (touchH H ob.cell) p).1
  have key:∀(H':He) (l:List Ob) (ob':Ob),l.length=H.obs.length→H'.obs=l.set i ob'→obO H' o=some ob':=fun H' l ob' h1 h2=>by
   have:obI H' o=some i:=by rw[←e1];unfold obI;rw[h2,List.length_set,h1]
   unfold obO
   rw[this,h2]
   simp only[Option.bind_some]
   exact List.getElem?_set_self (by rw[h1];exact hil)
  unfold setPH
  split
  ·rw[key _ ((raiseH (touchH H ob.cell) p).obs.set i { ob with proto:=p }) _ (by rw[List.length_set];exact hr) rfl]
   rfl
  ·rw[key (preH H i ob p) _ _ hr rfl]
   rfl
theorem psetProto_at (h:HeapAt w B hb tg H M)(hac:Acy H)(hab:AbvOk H)(o p:Int)(o0:0≤o)(o1:o<18446744073709551616)(p0:0≤p)(p1:p<18446744073709551616) :
  Calls Tryz.prog 34 #[.pointer (some ⟨hb,0,none⟩),.int .u64 o,.int .u64 p] w fun e w'=>e = .returned (.bool (spP H o p).1)∧WentH w B hb tg (spP H o p).2 w':=by
 have ki:=isObject_at h o o0 o1
 have kj:=isObject_at h p p0 p1
 have kp:=proto_any h o o0 o1
 have kop:=open_any h o o0 o1
 have HR:Hid (WentH w B hb tg H w):=WentH.same h (Below.refl _ _)
 have hmay:mayB H p=((p == nulW) || (obO H p).isSome):=by
  unfold mayB
  congr 1
  cases hq:obI H p with
  | none=>unfold obO;rw[hq];rfl
  | some j =>
    obtain⟨y,hy⟩:=obI_at hq
    unfold obO;rw[hq];show true=(H.obs[j]?).isSome;rw[hy];rfl
 cases hq:obO H o with
 | none =>
   have e0:spP H o p=(false,H):=by unfold spP;rw[hq]
   rw[e0]
   rw[hq] at ki
   simp only[Option.isSome_none] at ki
   clear h hac hab kj kp kop hmay hq e0
   go_enter Tryz.func34,Tryz.ntmps34
   go_wp2_with fail
   refine ki.mono ?_
   rintro e w2 ⟨rfl,rfl⟩
   clear ki
   go_wp2_with fail
   go_ret
   exact⟨rfl,HR.out⟩
 | some ob =>
   obtain⟨i,ho,hi⟩:=obO_some hq
   rw[hq] at ki kp kop
   simp only[Option.isSome_some,Option.map_some,Option.getD_some] at ki kp kop
   have e0:spP H o p=if mayB H p=false then (false,H) else if ob.proto=p then (true,H) else if ob.shut=true then (false,H) else
    if saB H o p=true then (false,H) else (true,setPF H o p):=by unfold spP;rw[hq]
   rw[e0]
   clear e0
   rw[hmay]
   rcases (show((p == nulW)=true)∨((p == nulW)=false∧(obO H p).isSome=false)∨((p == nulW)=false∧(obO H p).isSome=true) by cases (p == nulW) <;> cases (obO H p).isSome <;> simp) with c | ⟨c,c1⟩ | ⟨c,c1⟩
   ·have cn:(p != 18445336698825998337)=false:=by unfold nulW at c;unfold bne;rw[c];rfl
    have hm:mayB H p=true:=by rw[hmay,c];rfl
    rw[←hmay,hm,if_neg (by simp)]
    clear hmay c
    by_cases d:ob.proto=p
    ·rw[if_pos d]
     have d1:(ob.proto == p)=true:=by simpa using d
     clear h hac hab kop hm hq ho hi d
     go_enter Tryz.func34,Tryz.ntmps34
     go_wp2_with fail
     refine ki.mono ?_
     rintro e w2 ⟨rfl,rfl⟩
     clear ki
     go_wp2_with fail
     refine kp.mono ?_
     rintro e w4 ⟨rfl,rfl⟩
     clear kp
     go_wp2_with fail
     go_ret
     exact⟨rfl,HR.out⟩
    ·rw[if_neg d]
     have d1:(ob.proto == p)=false:=by simpa using d
     cases hs:ob.shut with
     | true =>
       rw[hs] at kop
       simp only[Bool.not_true] at kop
       simp only[if_true]
       clear h hac hab hm hq ho hi d hs
       go_enter Tryz.func34,Tryz.ntmps34
       go_wp2_with fail
       refine ki.mono ?_
       rintro e w2 ⟨rfl,rfl⟩
       clear ki
       go_wp2_with fail
       refine kp.mono ?_
       rintro e w4 ⟨rfl,rfl⟩
       clear kp
       go_wp2_with fail
       refine kop.mono ?_
       rintro e w5 ⟨rfl,rfl⟩
       clear kop
       go_wp2_with fail
       go_ret
       exact⟨rfl,HR.out⟩
     | false =>
       rw[hs] at kop
       simp only[Bool.not_false] at kop
       simp only[Bool.false_eq_true,if_false]
       have ks:=setProto_any h hac hab o p o0 o1 p0 p1
       have KP:Hid (∀W tg',HeapAt W B hb tg' (setPF H o p) M→Calls Tryz.prog 16 #[.pointer (some ⟨hb,0,none⟩),.int .u64 o] W fun e w'=>e = .returned (.int .u64 (if saB H o p=true then ob.proto else p))∧w'=W):=fun W tg' q=>by
        have:=proto_any q o o0 o1
        rw[sp_new ho hi d hm] at this
        exact this
       have HG:Hid (saB H o p=true→setPF H o p=H):=fun e=>by
        unfold setPF
        rw[ho]
        simp only[hi]
        rw[if_pos (Or.inr (Or.inr e))]
       generalize hsa:saB H o p=sa at *
       clear h hac hab hm hq ho hi d hs hsa
       go_enter Tryz.func34,Tryz.ntmps34
       go_wp2_with fail
       refine ki.mono ?_
       rintro e w2 ⟨rfl,rfl⟩
       clear ki
       go_wp2_with fail
       refine kp.mono ?_
       rintro e w4 ⟨rfl,rfl⟩
       clear kp
       go_wp2_with fail
       refine kop.mono ?_
       rintro e w5 ⟨rfl,rfl⟩
       clear kop
       go_wp2_with fail
       refine ks.mono ?_
       rintro e w6 ⟨rfl,hw6⟩
       have HW:=(show Hid _ from hw6)
       obtain⟨tg',q1,q2,q3⟩:=hw6
       have k2:=KP.out w6 tg' q1
       clear ks KP q1 q2 q3
       cases sa with
       | true =>
         simp only[if_true] at k2 ⊢
         rw[HG.out rfl] at HW
         clear HG HR
         go_wp2_with fail
         refine k2.mono ?_
         rintro e w7 ⟨rfl,rfl⟩
         clear k2
         go_wp2_with fail
         go_ret
         exact⟨rfl,_,HW.out⟩
       | false =>
         simp only[Bool.false_eq_true,if_false] at k2 ⊢
         clear HG HR
         have d2:(p == p)=true:=beq_self_eq_true p
         go_wp2_with fail
         refine k2.mono ?_
         rintro e w7 ⟨rfl,rfl⟩
         clear k2
         go_wp2_with fail
         go_ret
         exact⟨rfl,_,HW.out⟩
   ·have cn:(p != 18445336698825998337)=true:=by unfold nulW at c;unfold bne;rw[c];rfl
    rw[c1] at kj
    rw[c,c1,Bool.or_false,if_pos rfl]
    clear h hac hab kp kop hmay hq ho hi c c1
    go_enter Tryz.func34,Tryz.ntmps34
    go_wp2_with fail
    refine ki.mono ?_
    rintro e w2 ⟨rfl,rfl⟩
    clear ki
    go_wp2_with fail
    refine kj.mono ?_
    rintro e w3 ⟨rfl,rfl⟩
    clear kj
    go_wp2_with fail
    go_ret
    exact⟨rfl,HR.out⟩
   ·have cn:(p != 18445336698825998337)=true:=by unfold nulW at c;unfold bne;rw[c];rfl
    rw[c1] at kj
    have hm:mayB H p=true:=by rw[hmay,c,c1];rfl
    rw[←hmay,hm,if_neg (by simp)]
    clear hmay c c1
    by_cases d:ob.proto=p
    ·rw[if_pos d]
     have d1:(ob.proto == p)=true:=by simpa using d
     clear h hac hab kop hm hq ho hi d
     go_enter Tryz.func34,Tryz.ntmps34
     go_wp2_with fail
     refine ki.mono ?_
     rintro e w2 ⟨rfl,rfl⟩
     clear ki
     go_wp2_with fail
     refine kj.mono ?_
     rintro e w3 ⟨rfl,rfl⟩
     clear kj
     go_wp2_with fail
     refine kp.mono ?_
     rintro e w4 ⟨rfl,rfl⟩
     clear kp
     go_wp2_with fail
     go_ret
     exact⟨rfl,HR.out⟩
    ·rw[if_neg d]
     have d1:(ob.proto == p)=false:=by simpa using d
     cases hs:ob.shut with
     | true =>
       rw[hs] at kop
       simp only[Bool.not_true] at kop
       simp only[if_true]
       clear h hac hab hm hq ho hi d hs
       go_enter Tryz.func34,Tryz.ntmps34
       go_wp2_with fail
       refine ki.mono ?_
       rintro e w2 ⟨rfl,rfl⟩
       clear ki
       go_wp2_with fail
       refine kj.mono ?_
       rintro e w3 ⟨rfl,rfl⟩
       clear kj
       go_wp2_with fail
       refine kp.mono ?_
       rintro e w4 ⟨rfl,rfl⟩
       clear kp
       go_wp2_with fail
       refine kop.mono ?_
       rintro e w5 ⟨rfl,rfl⟩
       clear kop
       go_wp2_with fail
       go_ret
       exact⟨rfl,HR.out⟩
     | false =>
       rw[hs] at kop
       simp only[Bool.not_false] at kop
       simp only[Bool.false_eq_true,if_false]
       have ks:=setProto_any h hac hab o p o0 o1 p0 p1
       have KP:Hid (∀W tg',HeapAt W B hb tg' (setPF H o p) M→Calls Tryz.prog 16 #[.pointer (some ⟨hb,0,none⟩),.int .u64 o] W fun e w'=>e = .returned (.int .u64 (if saB H o p=true then ob.proto else p))∧w'=W):=fun W tg' q=>by
        have:=proto_any q o o0 o1
        rw[sp_new ho hi d hm] at this
        exact this
       have HG:Hid (saB H o p=true→setPF H o p=H):=fun e=>by
        unfold setPF
        rw[ho]
        simp only[hi]
        rw[if_pos (Or.inr (Or.inr e))]
       generalize hsa:saB H o p=sa at *
       clear h hac hab hm hq ho hi d hs hsa
       go_enter Tryz.func34,Tryz.ntmps34
       go_wp2_with fail
       refine ki.mono ?_
       rintro e w2 ⟨rfl,rfl⟩
       clear ki
       go_wp2_with fail
       refine kj.mono ?_
       rintro e w3 ⟨rfl,rfl⟩
       clear kj
       go_wp2_with fail
       refine kp.mono ?_
       rintro e w4 ⟨rfl,rfl⟩
       clear kp
       go_wp2_with fail
       refine kop.mono ?_
       rintro e w5 ⟨rfl,rfl⟩
       clear kop
       go_wp2_with fail
       refine ks.mono ?_
       rintro e w6 ⟨rfl,hw6⟩
       have HW:=(show Hid _ from hw6)
       obtain⟨tg',q1,q2,q3⟩:=hw6
       have k2:=KP.out w6 tg' q1
       clear ks KP q1 q2 q3
       cases sa with
       | true =>
         simp only[if_true] at k2 ⊢
         rw[HG.out rfl] at HW
         clear HG HR
         go_wp2_with fail
         refine k2.mono ?_
         rintro e w7 ⟨rfl,rfl⟩
         clear k2
         go_wp2_with fail
         go_ret
         exact⟨rfl,_,HW.out⟩
       | false =>
         simp only[Bool.false_eq_true,if_false] at k2 ⊢
         clear HG HR
         have d2:(p == p)=true:=beq_self_eq_true p
         go_wp2_with fail
         refine k2.mono ?_
         rintro e w7 ⟨rfl,rfl⟩
         clear k2
         go_wp2_with fail
         go_ret
         exact⟨rfl,_,HW.out⟩
end
section
variable {w W W' w' w1:World}{B b:Nat}{tg:Nat→Nat}{S S':List So}{vo vt:SV}{qs:List QV}{i:Nat}{x x':So}{q:QV}
theorem rdelete_full (h:StAt w B tg S vo qs)(vt:SV)(hnl:∀x∈S,x.nm.length≤1999999999999)(hel:∀x∈S,x.el.length≤4096)(o:Int)(o0:0≤o)(o1:o<18446744073709551616)(k:ByteArray)(hk:k.size≤maxLen) :
  Calls Tryz.prog 32 #[stV vo vt,.int .u64 o,.string k] w fun e w'=>e = .returned (.tuple #[stV vo vt,.bool (delG' S o k).2])∧SWent w B tg (delG' S o k).1 vo w':=by
 obtain⟨wb,hwb⟩:∃wb,wb=(w.alloc (.cells #[vo.val,vt.val] 33)).alloc (.cells #[.slice none 0 0,.slice none 0 0] 33):=⟨_,rfl⟩
 obtain⟨hbs,hbr,hB⟩:=boxS2 w vo vt
 rw[←hwb] at hbs hbr hB
 have hse:=SeT.start h hbs hbr hB
 have ko:=rown_o hse.st vt o o0 o1 k hk
 have kx:=fun W=>rindex_any k W hk
 have HSE:Hid (∀W,Below wb.heap.size wb W→SeT w W B tg tg S vo vt qs):=fun W r=>hse.below r
 have HA:Hid (∀W,SeT w W B tg tg S vo vt qs→Calls Tryz.prog 12 #[stV vo vt,.int .u64 o] W fun e w'=>e = .returned (.bool (((soO S o).map (fun x=>x.kind == 1)).getD false))∧Below W.heap.size W w'):=fun W r=>rarray_o r.st vt o o0 o1
 have HE:Hid (∀W n,SeT w W B tg tg S vo vt qs→Calls Tryz.prog 70 #[stV vo vt,.int .u64 o,.int .i64 n,.int .u64 18445336698825998340] W fun e w'=>e = .returned (.tuple #[stV vo vt,.bool (elemG S o n holW).2])∧SWent W B tg (elemG S o n holW).1 vo w'):=fun W n r=>rsetElem_full r.st vt hel o o0 o1 n holW
 have HD:Hid (∀W,SeT w W B tg tg S vo vt qs→Calls Tryz.prog 74 #[stV vo vt,.int .u64 o,.string k] W fun e w'=>e = .returned (.tuple #[stV vo vt,.bool (dropG S o k).2])∧SWent W B tg (dropG S o k).1 vo w'):=fun W r=>rdrop_full r.st vt hnl o o0 o1 k
 have HG:Hid (delG' S o k=match (soO S o).bind (fun x=>ownS x k) with
  | none=>(S,true)
  | some d=>if (bits .and .i64 d.fl 4 == 0)=true then (S,false) else
    if ((soO S o).map (fun x=>x.kind == 1)).getD false=true then match rxI k with
     | some n=>elemG S o (n:Int) holW
     | none=>dropG S o k
    else dropG S o k):=rfl
 obtain⟨b0,b1⟩:=hbs.ce
 have HB0:Hid (wb.cell? ⟨w.heap.size,0,none⟩=some vo.val∧wb.cell? ⟨w.heap.size,1,none⟩=some vt.val):=⟨b0,b1⟩
 clear b0 b1
 obtain⟨va,vl,vc⟩:=vo
 obtain⟨ta,tl,tc⟩:=vt
 rw[show(SV.mk va vl vc).val = .slice va vl vc from rfl,show(SV.mk ta tl tc).val = .slice ta tl tc from rfl] at HB0 hwb
 unfold stV at ko HA HE HD ⊢
 rw[show(SV.mk va vl vc).val = .slice va vl vc from rfl,show(SV.mk ta tl tc).val = .slice ta tl tc from rfl] at ko HA HE HD ⊢
 rw[HG.out]
 clear HG h hB hbs hbr hse hnl hel
 obtain⟨b0,b1⟩:=HB0.out
 cases hq:(soO S o).bind (fun x=>ownS x k) with
 | none =>
   rw[hq] at ko
   simp only[Option.getD_none,Option.isSome_none] at ko
   unfold zDe deV at ko
   clear hq kx HA HE HD HB0
   go_enter Tryz.func32,Tryz.ntmps32
   go_upto_region 1 with fail
   rw[←hwb]
   clear hwb
   go_wp2_with fail
   refine ko.mono ?_
   rintro e w2 ⟨rfl,hB2⟩
   have hs3:=HSE.out _ (hB2.alloc hB2.size (.cells #[.int .u64 0,.int .u64 0,.int .i64 0] 39))
   obtain⟨b0,b1⟩:=hs3.bs.ce
   obtain⟨k1,k2,k3⟩:=hs3.fin (SWent.same hs3.st (Below.refl _ _))
   obtain⟨r0,r1⟩:=k1.ce
   obtain⟨f0,f1⟩:=k1.fz
   have HF:=(show Hid _ from And.intro k2 k3)
   clear ko hB2 hs3 HSE k1 k2 k3
   unfold SV.val at b0 b1
   unfold SV.nil SV.val at r0 r1
   simp only at b0 b1 r0 r1
   go_wp2_with fail
   refine bodyPost_ret (res2 rfl _ _ (w.heap.size+1) 33 _ (0,0) _ rfl HF.out.1 Tryz.underlying33 rfl (by kernel_rfl)) rfl ?_
   exact⟨rfl,HF.out.2⟩
 | some d =>
   rw[hq] at ko
   simp only[Option.getD_some,Option.isSome_some] at ko
   simp only
   unfold deV at ko
   cases hc:(bits .and .i64 d.fl 4 == 0) with
   | true =>
     simp only[if_true]
     clear hq kx HA HE HD HB0
     go_enter Tryz.func32,Tryz.ntmps32
     go_upto_region 1 with fail
     rw[←hwb]
     clear hwb
     go_wp2_with fail
     refine ko.mono ?_
     rintro e w2 ⟨rfl,hB2⟩
     have hs3:=HSE.out _ (hB2.alloc hB2.size (.cells #[.int .u64 d.va,.int .u64 d.se,.int .i64 d.fl] 39))
     obtain⟨x0,x1,x2⟩:=(Bx3.box w2 d).ce
     obtain⟨b0,b1⟩:=hs3.bs.ce
     unfold SV.val at b0 b1
     simp only at b0 b1
     obtain⟨k1,k2,k3⟩:=hs3.fin (SWent.same hs3.st (Below.refl _ _))
     obtain⟨r0,r1⟩:=k1.ce
     obtain⟨f0,f1⟩:=k1.fz
     have HF:=(show Hid _ from And.intro k2 k3)
     clear hs3 k1 k2 k3
     unfold SV.nil SV.val at r0 r1
     simp only at r0 r1
     clear ko hB2 HSE
     go_wp2_with fail
     refine bodyPost_ret (res2 rfl _ _ (w.heap.size+1) 33 _ (0,0) _ rfl HF.out.1 Tryz.underlying33 rfl (by kernel_rfl)) rfl ?_
     exact⟨rfl,HF.out.2⟩
   | false =>
     simp only[Bool.false_eq_true,if_false]
     cases hr:rxI k with
     | none =>
       have kx:=fun W=>kx W
       rw[hr] at kx
       simp only[Option.getD_none,Option.isSome_none] at kx
       simp only[ite_self]
       clear hq HA HE HB0 hr
       go_enter Tryz.func32,Tryz.ntmps32
       go_upto_region 1 with fail
       rw[←hwb]
       clear hwb
       go_wp2_with fail
       refine ko.mono ?_
       rintro e w2 ⟨rfl,hB2⟩
       have hs3:=HSE.out _ (hB2.alloc hB2.size (.cells #[.int .u64 d.va,.int .u64 d.se,.int .i64 d.fl] 39))
       obtain⟨x0,x1,x2⟩:=(Bx3.box w2 d).ce
       obtain⟨b0,b1⟩:=hs3.bs.ce
       unfold SV.val at b0 b1
       simp only at b0 b1
       have kd:=HD.out _ hs3
       have HS3:=(show Hid _ from hs3)
       clear ko hB2 HSE HD hs3
       go_wp2_with fail
       refine(kx _).mono ?_
       rintro e w4 ⟨rfl,rfl⟩
       go_wp2_with fail
       refine kd.mono ?_
       rintro e w5 ⟨rfl,hw5⟩
       have hs3:=HS3.out
       obtain⟨k1,k2,k3⟩:=hs3.fin (hw5)
       obtain⟨r0,r1⟩:=k1.ce
       obtain⟨f0,f1⟩:=k1.fz
       have HF:=(show Hid _ from And.intro k2 k3)
       clear hs3 k1 k2 k3
       unfold SV.nil SV.val at r0 r1
       simp only at r0 r1
       clear kd hw5 HS3
       go_wp2_with fail
       refine bodyPost_ret (res2 rfl _ _ (w.heap.size+1) 33 _ (0,0) _ rfl HF.out.1 Tryz.underlying33 rfl (by kernel_rfl)) rfl ?_
       exact⟨rfl,HF.out.2⟩
     | some n =>
       rw[hr] at kx
       simp only[Option.getD_some,Option.isSome_some] at kx
       simp only
       cases ha:((soO S o).map (fun x=>x.kind == 1)).getD false with
       | false =>
         rw[ha] at HA
         simp only[Bool.false_eq_true,if_false,if_true]
         clear hq HE HB0 hr ha
         go_enter Tryz.func32,Tryz.ntmps32
         go_upto_region 1 with fail
         rw[←hwb]
         clear hwb
         go_wp2_with fail
         refine ko.mono ?_
         rintro e w2 ⟨rfl,hB2⟩
         have hs3:=HSE.out _ (hB2.alloc hB2.size (.cells #[.int .u64 d.va,.int .u64 d.se,.int .i64 d.fl] 39))
         obtain⟨x0,x1,x2⟩:=(Bx3.box w2 d).ce
         obtain⟨b0,b1⟩:=hs3.bs.ce
         unfold SV.val at b0 b1
         simp only at b0 b1
         have kz:=HA.out _ hs3
         have HS3:=(show Hid _ from hs3)
         clear ko hB2 HSE HA hs3
         go_wp2_with fail
         refine(kx _).mono ?_
         rintro e w4 ⟨rfl,rfl⟩
         go_wp2_with fail
         refine kz.mono ?_
         rintro e w6 ⟨rfl,hB6⟩
         have hs4:=HS3.out.below hB6
         obtain⟨b0,b1⟩:=hs4.bs.ce
         unfold SV.val at b0 b1
         simp only at b0 b1
         have kd:=HD.out _ hs4
         have HS4:=(show Hid _ from hs4)
         clear kz hB6 HS3 hs4 HD
         go_wp2_with fail
         refine kd.mono ?_
         rintro e w5 ⟨rfl,hw5⟩
         have hs4:=HS4.out
         obtain⟨k1,k2,k3⟩:=hs4.fin (hw5)
         obtain⟨r0,r1⟩:=k1.ce
         obtain⟨f0,f1⟩:=k1.fz
         have HF:=(show Hid _ from And.intro k2 k3)
         clear hs4 k1 k2 k3
         unfold SV.nil SV.val at r0 r1
         simp only at r0 r1
         clear kd hw5 HS4
         go_wp2_with fail
         refine bodyPost_ret (res2 rfl _ _ (w.heap.size+1) 33 _ (0,0) _ rfl HF.out.1 Tryz.underlying33 rfl (by kernel_rfl)) rfl ?_
         exact⟨rfl,HF.out.2⟩
       | true =>
         rw[ha] at HA
         simp only[Bool.false_eq_true,if_false,if_true]
         clear hq HD HB0 hr ha
         go_enter Tryz.func32,Tryz.ntmps32
         go_upto_region 1 with fail
         rw[←hwb]
         clear hwb
         go_wp2_with fail
         refine ko.mono ?_
         rintro e w2 ⟨rfl,hB2⟩
         have hs3:=HSE.out _ (hB2.alloc hB2.size (.cells #[.int .u64 d.va,.int .u64 d.se,.int .i64 d.fl] 39))
         obtain⟨x0,x1,x2⟩:=(Bx3.box w2 d).ce
         obtain⟨b0,b1⟩:=hs3.bs.ce
         unfold SV.val at b0 b1
         simp only at b0 b1
         have kz:=HA.out _ hs3
         have HS3:=(show Hid _ from hs3)
         clear ko hB2 HSE HA hs3
         go_wp2_with fail
         refine(kx _).mono ?_
         rintro e w4 ⟨rfl,rfl⟩
         go_wp2_with fail
         refine kz.mono ?_
         rintro e w6 ⟨rfl,hB6⟩
         have hs4:=HS3.out.below hB6
         obtain⟨b0,b1⟩:=hs4.bs.ce
         unfold SV.val at b0 b1
         simp only at b0 b1
         have kd:=HE.out _ (n:Int) hs4
         have HS4:=(show Hid _ from hs4)
         clear kz hB6 HS3 hs4 HE
         go_wp2_with fail
         refine kd.mono ?_
         rintro e w5 ⟨rfl,hw5⟩
         have hs4:=HS4.out
         obtain⟨k1,k2,k3⟩:=hs4.fin (hw5)
         obtain⟨r0,r1⟩:=k1.ce
         obtain⟨f0,f1⟩:=k1.fz
         have HF:=(show Hid _ from And.intro k2 k3)
         clear hs4 k1 k2 k3
         unfold SV.nil SV.val at r0 r1
         simp only at r0 r1
         clear kd hw5 HS4
         go_wp2_with fail
         refine bodyPost_ret (res2 rfl _ _ (w.heap.size+1) 33 _ (0,0) _ rfl HF.out.1 Tryz.underlying33 rfl (by kernel_rfl)) rfl ?_
         exact⟨rfl,HF.out.2⟩
end
end Go.Proofs.YtahhionlbfhinabGreatDoor.Hp
