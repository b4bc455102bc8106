/- XT -/
import Derived.Test.YtahhionlbfhinabGreatDoorXQ
import Derived.Test.YtahhionlbfhinabGreatDoorB39
import Derived.Test.YtahhionlbfhinabGreatDoorOW
set_option linter.unusedVariables false
set_option linter.unusedSimpArgs false
set_option maxRecDepth 100000
set_option maxHeartbeats 40000000
namespace Go.Proofs.YtahhionlbfhinabGreatDoor.Hp
open Go.RowKit
section
variable {w0 w:World}{X:Nat→Prop}{hb:Nat}{H:He}{S:List So}{vo vt:SV}{ts:List ByteArray}
theorem pown_n (h:TwoE w0 w X hb H S vo vt ts)(hn:H.neat)(o:Int)(o0:0≤o)(o1:o<18446744073709551616)(k:ByteArray)(hk:k.size≤maxLen) :
  Calls Tryz.prog 10 #[.pointer (some ⟨hb,0,none⟩),.int .u64 o,.string k] w fun e w'=>e = .returned (.tuple #[deV ((ownH H o k).getD zDe),.bool (ownH H o k).isSome])∧Below w.heap.size w w':=by
 obtain⟨tgH,tgS,M,qs,h⟩:=h
 exact own_at h.hp hn o o0 o1 k hk
theorem rarray_n (h:TwoE w0 w X hb H S vo vt ts)(o:Int)(o0:0≤o)(o1:o<18446744073709551616) :
  Calls Tryz.prog 12 #[stV vo vt,.int .u64 o] w fun e w'=>e = .returned (.bool (((soO S o).map (fun x=>x.kind == 1)).getD false))∧Below w.heap.size w w':=by
 obtain⟨tgH,tgS,M,qs,h⟩:=h
 exact rarray_o h.st vt o o0 o1
end
theorem given_walk (w:World)(hT:TbAt w)(sc:Sli OpP)(a:OpP)(hsc:sc.ok opP 11 w)(hwf:∀a∈sc.xs,a.wf)(ha:a.wf)(hsz:96*sc.xs.length≤140737488355328) :
  Calls Tryz.prog 3 #[sc.val,a.val] w fun e w'=>e = .returned (.bool true)∧Below w.heap.size w w':=by
 obtain⟨kd,oo,op,kk,⟨has,va,ge,se,fl⟩,vv,nn⟩:=a
 obtain⟨wb,hwb⟩:∃wb,wb=w.alloc (.cells #[.int .i64 kd,.int .u64 oo,.int .u64 op,.string kk,.int .i64 has,.int .u64 va,.int .u64 ge,.int .u64 se,.int .i64 fl,.int .u64 vv,.int .i64 nn] 28):=⟨_,rfl⟩
 have hB:Below w.heap.size w wb:=by rw[hwb];exact(Below.refl _ _).alloc (Nat.le_refl _) _
 have hxa:wb.heap[w.heap.size]?=some (.cells #[.int .i64 kd,.int .u64 oo,.int .u64 op,.string kk,.int .i64 has,.int .u64 va,.int .u64 ge,.int .u64 se,.int .i64 fl,.int .u64 vv,.int .i64 nn] 28 (0,0)):=by rw[hwb];exact at_new _ _
 have HXA:Hid (∀W,Below wb.heap.size wb W→W.heap[w.heap.size]?=some (.cells #[.int .i64 kd,.int .u64 oo,.int .u64 op,.string kk,.int .i64 has,.int .u64 va,.int .u64 ge,.int .u64 se,.int .i64 fl,.int .u64 vv,.int .i64 nn] 28 (0,0))):=fun W r=>(Below.block r _ (Array.getElem?_eq_some_iff.1 hxa).1).trans hxa
 have HBB:Hid (Below w.heap.size w wb):=hB
 have kmd:=made_any wb (hT.below hB) sc (hsc.kept (cells_below hB)) hwf hsz
 have HOO:Hid (0≤oo∧oo<18446744073709551616∧kk.size≤maxLen∧0≤vv∧vv<18446744073709551616):=⟨ha.o0,ha.o1,ha.kl,ha.v.1,ha.v.2⟩
 obtain⟨ca,cc,cx⟩:=sc
 have HSZ:Hid (96*cx.length≤140737488355328):=hsz
 unfold OpP.val OpP.cells
 unfold Sli.val at *
 simp only at *
 clear hsc hwf hsz hT ha hB hxa
 go_enter Tryz.func3,Tryz.ntmps3
 go_upto_region 1 with fail
 rw[←hwb]
 clear hwb
 go_wp2_with fail
 refine kmd.mono ?_
 rintro e w1 ⟨hb,H,S,⟨oa,ol,oc⟩,n,rfl,hn,hq1⟩
 have HL1:=(show Hid _ from hq1.box)
 have HN:Hid (n≤cx.length):=hn
 clear kmd hn hq1
 unfold stV
 rw[show(SV.mk oa ol oc).val = .slice oa ol oc from rfl,show SV.nil.val = .slice none 0 0 from rfl] at HL1 ⊢
 go_upto_region 2 with fail
 generalize w1.alloc (.cells #[.slice oa ol oc,.slice none 0 0] 33)=w2 at *
 generalize w1.heap.size=bs at *
 have kal:=palive_any w2 HL1.out.tbr.fp
 go_wp2_with fail
 refine kal.mono ?_
 rintro e w3 ⟨rfl,hb3⟩
 have HL:=(show Hid _ from HL1.out.below hb3)
 clear kal hb3 HL1
 obtain⟨r0,r1⟩:=HL.out.box.ce
 rw[show(SV.mk oa ol oc).val = .slice oa ol oc from rfl] at r0
 rw[show SV.nil.val = .slice none 0 0 from rfl] at r1
 have hgq:=HXA.out w3 HL.out.two.bel
 have g1:=cell_of_row w3 w.heap.size 1 _ _ (0,0) hgq
 clear hgq
 simp only[List.getElem?_toArray,List.getElem?_cons_zero,List.getElem?_cons_succ] at g1
 have ka:=rat_b HL.out oo HOO.out.1 HOO.out.2.1
 unfold stV at ka
 rw[show(SV.mk oa ol oc).val = .slice oa ol oc from rfl,show SV.nil.val = .slice none 0 0 from rfl] at ka
 cases hs:soO S oo with
 | none =>
   rw[atI_none hs HOO.out.1 HOO.out.2.1] at ka
   have HF:Hid (Below w.heap.size w w3):=bel_sm' HBB.out HL.out.two.bel
   clear HL hs
   go_wp2_with fail
   refine ka.mono ?_
   rintro e w5 ⟨rfl,hB5⟩
   have HF5:=(show Hid (Below w.heap.size w w5) from bel_sm' HF.out hB5)
   clear hB5 ka r0 r1 g1
   go_wp2_with fail
   go_ret
   exact⟨rfl,HF5.out⟩
 | some x =>
   have hai:=atI_some hs
   obtain⟨ar,har⟩:∃ar,ar=(x.kind == 1):=⟨_,rfl⟩
   have HAR:Hid (((soO S oo).map (fun x=>x.kind == 1)).getD false=ar):=by
    show _=ar
    rw[hs,har]
    rfl
   generalize atI S oo=ai at *
   have hni:¬(ai<0):=by omega
   clear hs har
   go_wp2_with fail
   refine ka.mono ?_
   rintro e w4 ⟨rfl,hB4⟩
   have HL4:=(show Hid _ from HL.out.below hB4)
   clear hB4 ka HL r0 r1 g1
   have hgq:=HXA.out w4 HL4.out.two.bel
   have g1:=cell_of_row w4 w.heap.size 1 _ _ (0,0) hgq
   have g3:=cell_of_row w4 w.heap.size 3 _ _ (0,0) hgq
   clear hgq
   simp only[List.getElem?_toArray,List.getElem?_cons_zero,List.getElem?_cons_succ] at g1 g3
   have kw0:=pown_b HL4.out oo HOO.out.1 HOO.out.2.1 kk HOO.out.2.2.1
   unfold deV at kw0
   have HGV:=(show Hid _ from HL4.out.ord.given HL4.out.two.wf HL4.out.most oo kk vv)
   have HGR:Hid ((asgP H oo kk vv H.obs.length).2.2.neat):=(HL4.out.ord.assign HL4.out.most oo kk vv).1.inv.neat
   rw[HAR.out] at HGV
   obtain⟨dz,hdz⟩:∃dz,dz=(ownH H oo kk).getD zDe:=⟨_,rfl⟩
   obtain⟨hd,hhd⟩:∃hd,hd=(ownH H oo kk).isSome:=⟨_,rfl⟩
   rw[←hdz,←hhd] at kw0
   have HDZ:Hid (dz=(ownH H oo kk).getD zDe∧hd=(ownH H oo kk).isSome):=⟨hdz,hhd⟩
   clear hdz hhd
   go_wp2_with fail
   refine kw0.mono ?_
   rintro e w5 ⟨rfl,hB5⟩
   have HL5:=(show Hid _ from (HL4.out.below hB5).new (.cells #[.int .u64 dz.va,.int .u64 dz.se,.int .i64 dz.fl] 39))
   have HZ5:Hid (Bx3 (w5.alloc (.cells #[.int .u64 dz.va,.int .u64 dz.se,.int .i64 dz.fl] 39)) w5.heap.size dz):=Bx3.box w5 dz
   clear kw0 hB5 HL4 g1 g3
   go_upto_region 7 with fail
   generalize w5.alloc (.cells #[.int .u64 dz.va,.int .u64 dz.se,.int .i64 dz.fl] 39)=w5a at *
   generalize w5.heap.size=b5 at *
   have hgq:=HXA.out w5a HL5.out.two.bel
   have g1:=cell_of_row w5a w.heap.size 1 _ _ (0,0) hgq
   have g3:=cell_of_row w5a w.heap.size 3 _ _ (0,0) hgq
   have g9:=cell_of_row w5a w.heap.size 9 _ _ (0,0) hgq
   clear hgq
   simp only[List.getElem?_toArray,List.getElem?_cons_zero,List.getElem?_cons_succ] at g1 g3 g9
   have kas:=passign_e HL5.out.two HL5.out.ord HL5.out.tbr.fp (by have:=HN.out;have:=HSZ.out;omega) oo HOO.out.1 HOO.out.2.1 kk HOO.out.2.2.1 vv HOO.out.2.2.2
   obtain⟨H2,hH2⟩:∃H2,H2=(asgP H oo kk vv H.obs.length).2.2:=⟨_,rfl⟩
   obtain⟨how,hhow⟩:∃how,how=(asgP H oo kk vv H.obs.length).2.1:=⟨_,rfl⟩
   rw[←hH2,←hhow] at kas HGV
   rw[←hH2] at HGR
   clear hH2 hhow
   generalize (asgP H oo kk vv H.obs.length).1=ra at *
   go_wp2_with fail
   refine kas.mono ?_
   rintro e w6 ⟨rfl,hk6⟩
   have HT6:=(show Hid _ from hk6.two)
   have HZ6:Hid (Bx3 w6 b5 dz∧BxS w6 bs ⟨oa,ol,oc⟩ .nil):=⟨(hk6.kp b5 (Or.inr rfl)).trans HZ5.out,(hk6.kp bs (Or.inl rfl)).trans HL5.out.box⟩
   clear kas hk6 HL5 HZ5 g1 g3 g9
   have hgq:=HXA.out w6 (TwoE.bel HT6.out)
   have g1:=cell_of_row w6 w.heap.size 1 _ _ (0,0) hgq
   have g3:=cell_of_row w6 w.heap.size 3 _ _ (0,0) hgq
   clear hgq
   simp only[List.getElem?_toArray,List.getElem?_cons_zero,List.getElem?_cons_succ] at g1 g3
   have kw1:=pown_n HT6.out HGR.out oo HOO.out.1 HOO.out.2.1 kk HOO.out.2.2.1
   unfold deV at kw1
   obtain⟨dy,hdy⟩:∃dy,dy=(ownH H2 oo kk).getD zDe:=⟨_,rfl⟩
   obtain⟨hy,hhy⟩:∃hy,hy=(ownH H2 oo kk).isSome:=⟨_,rfl⟩
   rw[←hdy,←hhy] at kw1
   have HRF:Hid (how≠0→dy=dz∧hy=hd):=fun q=>by
    have e:=HGV.out.1 q
    rw[hdy,hhy,e]
    exact⟨HDZ.out.1.symm,HDZ.out.2.symm⟩
   have HDN:Hid (how=0→(ar && (vv == holW))=true∨(hy=true∧dy.va=vv)):=fun q=>by
    rcases HGV.out.2 q with e | ⟨d,e1,e2⟩
    ·exact Or.inl e
    ·refine Or.inr ⟨by rw[hhy,e1];rfl,by rw[hdy,e1];exact e2⟩
   clear HDZ hdy hhy HGV
   go_wp2_with fail
   refine kw1.mono ?_
   rintro e w7 ⟨rfl,hB7⟩
   have hBA:Below w6.heap.size w6 (w7.alloc (.cells #[.int .u64 dy.va,.int .u64 dy.se,.int .i64 dy.fl] 39)):=bel_sm' hB7 ((Below.refl _ _).alloc (Nat.le_refl _) (.cells #[.int .u64 dy.va,.int .u64 dy.se,.int .i64 dy.fl] 39))
   have HT7:=(show Hid _ from TwoE.below HT6.out hBA)
   have HZ7:Hid (Bx3 (w7.alloc (.cells #[.int .u64 dy.va,.int .u64 dy.se,.int .i64 dy.fl] 39)) b5 dz∧BxS (w7.alloc (.cells #[.int .u64 dy.va,.int .u64 dy.se,.int .i64 dy.fl] 39)) bs ⟨oa,ol,oc⟩ .nil∧Bx3 (w7.alloc (.cells #[.int .u64 dy.va,.int .u64 dy.se,.int .i64 dy.fl] 39)) w7.heap.size dy):=⟨HZ6.out.1.below hBA,HZ6.out.2.below hBA,Bx3.box w7 dy⟩
   clear kw1 hB7 hBA HT6 HZ6 g1 g3
   go_upto_region 9 with fail
   generalize w7.alloc (.cells #[.int .u64 dy.va,.int .u64 dy.se,.int .i64 dy.fl] 39)=w7a at *
   generalize w7.heap.size=b7 at *
   by_cases hh:how=0
   ·have HD2:=(show Hid _ from HDN.out hh)
    have hh1:(how != 0)=false:=by rw[hh];rfl
    have hgq:=HXA.out w7a (TwoE.bel HT7.out)
    have g1:=cell_of_row w7a w.heap.size 1 _ _ (0,0) hgq
    have g9:=cell_of_row w7a w.heap.size 9 _ _ (0,0) hgq
    clear hgq
    simp only[List.getElem?_toArray,List.getElem?_cons_zero,List.getElem?_cons_succ] at g1 g9
    have kar:=rarray_n HT7.out oo HOO.out.1 HOO.out.2.1
    rw[HAR.out] at kar
    unfold stV at kar
    rw[show(SV.mk oa ol oc).val = .slice oa ol oc from rfl,show SV.nil.val = .slice none 0 0 from rfl] at kar
    obtain⟨r0,r1⟩:=HZ7.out.2.1.ce
    rw[show(SV.mk oa ol oc).val = .slice oa ol oc from rfl] at r0
    rw[show SV.nil.val = .slice none 0 0 from rfl] at r1
    clear HDN HRF hh
    go_wp2_with fail
    refine kar.mono ?_
    rintro e w8 ⟨rfl,hB8⟩
    have HF:Hid (Below w.heap.size w w8):=bel_sm' HBB.out (bel_sm' (TwoE.bel HT7.out) hB8)
    obtain⟨y0,y1,y2⟩:=(HZ7.out.2.2.below hB8).ce
    have g9':=cells_below hB8 _ _ g9
    have hvv:(dy.va == dy.va)=true:=beq_self_eq_true _
    obtain⟨hv,hhv⟩:∃hv,hv=(vv == 18445336698825998340):=⟨_,rfl⟩
    have hhv2:=hhv.symm
    have HD3:Hid ((ar && hv)=true∨(hy=true∧dy.va=vv)):=by
     have:=HD2.out
     rw[show holW=18445336698825998340 from rfl,←hhv] at this
     exact this
    clear kar hB8 HT7 HZ7 r0 r1 g1 g9 HD2 hhv
    cases ar with
    | true =>
      cases hv with
      | true =>
        clear HD3
        go_wp2_with fail
        go_ret
        exact⟨rfl,HF.out⟩
      | false =>
        obtain⟨rfl,hq⟩:hy=true∧dy.va=vv:=by rcases HD3.out with q | q;· cases q
                                            ·exact q
        subst hq
        clear HD3
        go_wp2_with fail
        go_ret
        exact⟨by first | rfl | (simp),HF.out⟩
    | false =>
      obtain⟨rfl,hq⟩:hy=true∧dy.va=vv:=by rcases HD3.out with q | q;· cases q
                                          ·exact q
      subst hq
      clear HD3
      go_wp2_with fail
      go_ret
      exact⟨by first | rfl | (simp),HF.out⟩
   ·obtain⟨q1,q2⟩:=HRF.out hh
    subst q1
    subst q2
    have hh1:(how != 0)=true:=by simpa using hh
    have HF:Hid (Below w.heap.size w w7a):=bel_sm' HBB.out (TwoE.bel HT7.out)
    obtain⟨x0,x1,x2⟩:=HZ7.out.1.ce
    obtain⟨y0,y1,y2⟩:=HZ7.out.2.2.ce
    have e1:(dy.va == dy.va)=true:=beq_self_eq_true _
    have e2:(dy.se == dy.se)=true:=beq_self_eq_true _
    have e3:(dy.fl == dy.fl)=true:=beq_self_eq_true _
    have e4:(hy == hy)=true:=beq_self_eq_true _
    clear HDN HRF hh HT7 HZ7
    go_wp2_with fail
    go_ret
    exact⟨by first | rfl | (simp),HF.out⟩
end Go.Proofs.YtahhionlbfhinabGreatDoor.Hp
