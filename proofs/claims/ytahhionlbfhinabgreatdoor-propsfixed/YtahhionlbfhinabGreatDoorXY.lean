/- XY -/
import Derived.Test.YtahhionlbfhinabGreatDoorXQ
import Derived.Test.YtahhionlbfhinabGreatDoorB39
import Derived.Deep.CutRange
import Derived.Deep.CutBlock
import Derived.Test.YtahhionlbfhinabGreatDoorOW
set_option linter.unusedVariables false
set_option linter.unusedSimpArgs false
set_option maxRecDepth 100000
set_option maxHeartbeats 40000000
namespace Go.Proofs.YtahhionlbfhinabGreatDoor.Hp
open Go.RowKit
theorem andNot_all:∀a b:Fin 16,bits .andNot .i64 (a.val:Int) 1=bits .andNot .i64 (b.val:Int) 1→(bits .and .i64 (b.val:Int) 4 == 0)=true→(bits .and .i64 (a.val:Int) 4 == 0)=true:=by decide +kernel
theorem andNot_4 {a b:Int}(a0:0≤a)(a1:a≤15)(b0:0≤b)(b1:b≤15)(h:bits .andNot .i64 a 1=bits .andNot .i64 b 1)(hc:(bits .and .i64 b 4 == 0)=true):(bits .and .i64 a 4 == 0)=true:=by
 have k:=andNot_all ⟨a.toNat,by omega⟩ ⟨b.toNat,by omega⟩
 rw[show((⟨a.toNat,by omega⟩:Fin 16).val:Int)=a by show((a.toNat:Nat):Int)=a;omega,show((⟨b.toNat,by omega⟩:Fin 16).val:Int)=b by show((b.toNat:Nat):Int)=b;omega] at k
 exact k h hc
def FixS (S:List So)(o:Int)(k:ByteArray)(f:De):Prop:=∃y,soO S o=some y∧ownS y k=some f∧(bits .and .i64 f.fl 4 == 0)=true
theorem fix_step {H:He}{S:List So}{n:Nat}{o:Int}{k:ByteArray}{f:De}(hO:OrP H S [] n)(hm:H.most≤256)(hw:H.wf)(a:OpP)(h:FixS S o k f) :
  ∃e,FixS (pS S a) o k e∧ownH (pH H a) o k=some e∧bits .andNot .i64 e.fl 1=bits .andNot .i64 f.fl 1∧((bits .and .i64 f.fl 1 == 0)=true→e=f):=by
 obtain⟨y,h1,h2,h3⟩:=h
 obtain⟨y',k1,k2⟩:=step_kp (hO.gd hw) hO.ds a o y h1
 obtain⟨e,e1,e2,e3⟩:=k2.fx k f h2 h3
 have hO2:=hO.step hm a
 have m1:∀ {S:List So} {x:So},soO S o=some x→x∈S:=fun {S x} q=>by
  unfold soO at q
  cases e:obS S o with
  | none=>rw[e] at q;cases q
  | some i=>rw[e] at q;exact List.mem_of_getElem? q
 have o1:=own_ok hO.ds (m1 h1) h2
 have o2:=own_ok hO2.ds (m1 k1) e1
 refine⟨e,⟨y',k1,e1,andNot_4 o2.1 o2.2.1 o1.1 o1.2.1 e2 h3⟩,?_,e2,e3⟩
 rw[hO2.own,k1]
 exact e1
theorem fix_new {H:He}{S:List So}{n:Nat}{o:Int}{k:ByteArray}{d:De}(hO:OrP H S [] n)(h:ownH H o k=some d)(hc:(bits .and .i64 d.fl 4 == 0)=true):FixS S o k d∧0≤atI S o:=by
 rw[hO.own] at h
 cases hs:soO S o with
 | none=>rw[hs] at h;cases h
 | some y=>rw[hs] at h;exact⟨⟨y,hs,h,hc⟩,atI_some hs⟩
theorem fixed_walk (w:World)(hT:TbAt w)(sc:Sli OpP)(o:Int)(k:ByteArray)(hsc:sc.ok opP 11 w)(hwf:∀a∈sc.xs,a.wf)(o0:0≤o)(o1:o<18446744073709551616)(hk:k.size≤maxLen)(hsz:96*sc.xs.length≤140737488355328) :
  Calls Tryz.prog 4 #[sc.val,.int .u64 o,.string k] w fun e w'=>e = .returned (.bool true)∧Below w.heap.size w w':=by
 have kmd:=made_any w hT ⟨none,0,[]⟩ ⟨Nat.le_refl _,Nat.zero_le _,fun h=>absurd rfl h⟩ (fun a h=>by cases h) (by show 96*0≤140737488355328;omega)
 rw[show(Sli.mk none 0 ([]:List OpP)).val = .slice none 0 0 from rfl] at kmd
 simp only[List.length_nil] at kmd
 obtain⟨ca,cc,cx⟩:=sc
 unfold Sli.val
 simp only at *
 have HC:Hid (∀W,Below w.heap.size w W→Sli.ok opP 11 W ⟨ca,cc,cx⟩):=fun W hW=>hsc.kept (cells_below hW)
 have HWF:Hid ((∀a∈cx,a.wf)∧96*cx.length≤140737488355328):=⟨hwf,hsz⟩
 have hcl:(cx.length:Int)≤1466015503702:=by omega
 have HTB:Hid (TbAt w):=hT
 have HK:Hid (k.size≤maxLen):=hk
 have HOO:Hid (0≤o∧o<18446744073709551616):=⟨o0,o1⟩
 clear hsc hwf hsz hT hk o0 o1
 go_enter Tryz.func4,Tryz.ntmps4
 go_wp2_with fail
 refine kmd.mono ?_
 rintro e w1 ⟨hb,H,S,⟨oa,ol,oc⟩,n0,rfl,hn,hq1⟩
 have HL1:=(show Hid _ from hq1.box)
 have HN:Hid (n0≤0):=hn
 clear kmd hn hq1
 unfold stV
 rw[show(SV.mk oa ol oc).val = .slice oa ol oc from rfl,show SV.nil.val = .slice none 0 0 from rfl] at HL1 ⊢
 go_upto_region 2 with fail
 generalize w1.alloc (.cells #[.slice oa ol oc,.slice none 0 0] 33)=w2 at *
 generalize w1.heap.size=bs at *
 have kal:=palive_any w2 HL1.out.tbr.fp
 go_wp2_with fail
 refine kal.mono ?_
 rintro e w3 ⟨rfl,hb3⟩
 have HL3:=(show Hid _ from (HL1.out.below hb3).new (.cells #[.int .u64 0,.int .u64 0,.int .i64 0] 39))
 have HZ3:Hid (Bx3 (w3.alloc (.cells #[.int .u64 0,.int .u64 0,.int .i64 0] 39)) w3.heap.size zDe∧w3.heap.size≠bs∧w.heap.size≤w3.heap.size):=⟨Bx3.new w3,fun e=>(HL1.out.below hb3).ne e,(HL1.out.below hb3).two.bel.size⟩
 clear kal hb3 HL1
 go_upto_region 5 with fail
 generalize w3.alloc (.cells #[.int .u64 0,.int .u64 0,.int .i64 0] 39)=w4 at *
 generalize w3.heap.size=b9 at *
 go_wp2_with fail
 go_loopw [10,28] (fun bv iv wr=>∃(i:Nat) (H:He) (S:List So) (vo:SV) (f:De) (is:Bool),(i≤cx.length∧Hid (LawP w wr (fun b=>b=bs∨b=b9) hb bs H S vo (n0+i)∧Bx3 wr b9 f∧(is=true→FixS S o k f)))∧bv = .bool is∧iv = .int .i64 i) (fun bv iv wr=>cx.length - (intOf iv).toNat)
 case atStart=>exact⟨0,H,S,⟨oa,ol,oc⟩,zDe,false,⟨Nat.zero_le _,HL3.out,HZ3.out.1,fun e=>(by cases e)⟩,rfl,rfl⟩
 case round =>
  have HB9:Hid (b9≠bs∧w.heap.size≤b9):=HZ3.out.2
  clear HL3 HZ3
  obtain⟨i,H,S,⟨oa,ol,oc⟩,f,is,⟨ple,HLL⟩,rfl,rfl⟩:=hrel
  have HL:=(show Hid _ from HLL.out.1)
  rcases Nat.lt_or_ge i cx.length with c | c
  ·have HZ:Hid (Bx3 wr b9 f):=HLL.out.2.1
   have HFX:Hid (is=true→FixS S o k f):=HLL.out.2.2
   have HZN:Hid (b9≠wr.heap.size):=fun e=>by have:=HZ.out.lt;omega
   clear HLL
   have HOR:Hid (OrP H S [] (n0+i)∧H.most≤256∧H.wf):=⟨HL.out.ord,HL.out.most,HL.out.two.wf⟩
   have HZQ:Hid (∀o:Obj,Bx3 (wr.alloc o) b9 f):=fun o=>HZ.out.below ((Below.refl _ _).alloc (Nat.le_refl _) o)
   have hex:∃a,cx[i]?=some a:=⟨_,List.getElem?_eq_getElem c⟩
   obtain⟨a,ha⟩:=hex
   obtain⟨b,off,e1,hc⟩:=(HC.out wr HL.out.two.bel).cells (by intro e;have e:cx=[]:=e;rw[e] at c;simp at c)
   simp only at e1
   subst e1
   have d0:=hc i a ha 0 _ rfl
   have d1:=hc i a ha 1 _ rfl
   have d2:=hc i a ha 2 _ rfl
   have d3:=hc i a ha 3 _ rfl
   have d4:=hc i a ha 4 _ rfl
   have d5:=hc i a ha 5 _ rfl
   have d6:=hc i a ha 6 _ rfl
   have d7:=hc i a ha 7 _ rfl
   have d8:=hc i a ha 8 _ rfl
   have d9:=hc i a ha 9 _ rfl
   have d10:=hc i a ha 10 _ rfl
   rw[Nat.add_zero] at d0
   have hmem:=HWF.out.1 a (List.mem_of_getElem? ha)
   have cil:(i:Int)<cx.length:=by omega
   obtain⟨kd,oo,op,kk,⟨has,va,ge,se,fl⟩,vv,nn⟩:=a
   simp only at d0 d1 d2 d3 d4 d5 d6 d7 d8 d9 d10
   obtain⟨wq,hwq⟩:∃wq,wq=wr.alloc (.cells #[.int .i64 kd,.int .u64 oo,.int .u64 op,.string kk,.int .i64 has,.int .u64 va,.int .u64 ge,.int .u64 se,.int .i64 fl,.int .u64 vv,.int .i64 nn] 28):=⟨_,rfl⟩
   have hxq:wq.heap[wr.heap.size]?=some (.cells #[.int .i64 kd,.int .u64 oo,.int .u64 op,.string kk,.int .i64 has,.int .u64 va,.int .u64 ge,.int .u64 se,.int .i64 fl,.int .u64 vv,.int .i64 nn] 28 (0,0)):=by rw[hwq];exact at_new _ _
   have hlq:LawP w wq (fun b=>(fun b=>b=bs∨b=b9) b∨b=wr.heap.size) hb bs H S ⟨oa,ol,oc⟩ (n0+i):=by rw[hwq];exact HL.out.new _
   have HXQ:=(show Hid _ from hxq)
   have HNQ:Hid (wr.heap.size≠bs):=fun e=>HL.out.ne (Eq.mpr (congrArg (fun b=>b=bs∨b=b9) e) HL.out.bx)
   have HQ:=(show Hid _ from hlq)
   have HQE:=(show Hid _ from hwq)
   have ks:=hlq.step (by have:=HWF.out.2;have:=HN.out;omega) _ hmem
   unfold stV OpP.val OpP.cells at ks
   rw[show(SV.mk oa ol oc).val = .slice oa ol oc from rfl,show SV.nil.val = .slice none 0 0 from rfl] at ks
   simp only at ks
   obtain⟨r0,r1⟩:=HQ.out.box.ce
   rw[show(SV.mk oa ol oc).val = .slice oa ol oc from rfl] at r0
   rw[show SV.nil.val = .slice none 0 0 from rfl] at r1
   have hcq:∀j,wq.cell? ⟨wr.heap.size,j,none⟩=_:=fun j=>cell_of_row wq wr.heap.size j _ _ (0,0) hxq
   have g0:=hcq 0
   have g1:=hcq 1
   have g2:=hcq 2
   have g3:=hcq 3
   have g4:=hcq 4
   have g5:=hcq 5
   have g6:=hcq 6
   have g7:=hcq 7
   have g8:=hcq 8
   have g9:=hcq 9
   have g10:=hcq 10
   clear hc ha hmem hxq hlq hcq HL
   go_upto_region 9 with fail
   rw[←hwq]
   clear hwq d0 d1 d2 d3 d4 d5 d6 d7 d8 d9 d10
   generalize wr.heap.size=bq at *
   simp only[List.getElem?_toArray,List.getElem?_cons_zero,List.getElem?_cons_succ] at g0 g1 g2 g3 g4 g5 g6 g7 g8 g9 g10
   have HZ5:Hid (Bx3 wq b9 f):=by rw[HQE.out];exact HZQ.out _
   clear HZ HZQ HQE
   go_wp2_with fail
   refine ks.mono ?_
   rintro e w5 ⟨⟨za,zl,zc⟩,rfl,bx5,hl5,hk5⟩
   have HX:=(show Hid _ from hl5)
   have HXB:=(show Hid _ from (hk5 bq (Or.inr rfl) HNQ.out).trans HXQ.out)
   have HZ6':Hid (Bx3 ((w5.setCell ⟨bs,0,none⟩ (SV.mk za zl zc).val).setCell ⟨bs,1,none⟩ SV.nil.val) b9 f):=(hk5 b9 (Or.inl (Or.inr rfl)) HB9.out.1).trans HZ5.out
   rw[show(SV.mk za zl zc).val = .slice za zl zc from rfl] at HZ6'
   try rw[show SV.nil.val = .slice none 0 0 from rfl] at HZ6'
   obtain⟨m0,m1⟩:=bx5.ce
   obtain⟨n0,n1⟩:=bx5.fz
   rw[show(SV.mk oa ol oc).val = .slice oa ol oc from rfl] at m0
   try rw[show SV.nil.val = .slice none 0 0 from rfl] at m1
   rw[show(SV.mk za zl zc).val = .slice za zl zc from rfl] at HX HXB ⊢
   try rw[show SV.nil.val = .slice none 0 0 from rfl] at HX
   try rw[show SV.nil.val = .slice none 0 0 from rfl] at HXB
   try rw[show SV.nil.val = .slice none 0 0 from rfl]
   clear hl5 bx5 hk5 ks g0 g1 g2 g3 g4 g5 g6 g7 g8 g9 g10 r0 r1 HXQ HQ
   go_upto_region 10 with fail
   generalize ((w5.setCell ⟨bs,0,none⟩ (.slice za zl zc)).setCell ⟨bs,1,none⟩ (.slice none 0 0))=w6 at *
   clear m0 m1 n0 n1
   obtain⟨H3,hH3⟩:∃H3,H3=pH H ⟨kd,oo,op,kk,⟨has,va,ge,se,fl⟩,vv,nn⟩:=⟨_,rfl⟩
   obtain⟨S3,hS3⟩:∃S3,S3=pS S ⟨kd,oo,op,kk,⟨has,va,ge,se,fl⟩,vv,nn⟩:=⟨_,rfl⟩
   rw[←hH3,←hS3] at HX
   have HZ6:Hid (Bx3 w6 b9 f):=HZ6'.out
   have HST:Hid (is=true→∃e,FixS S3 o k e∧ownH H3 o k=some e∧bits .andNot .i64 e.fl 1=bits .andNot .i64 f.fl 1∧((bits .and .i64 f.fl 1 == 0)=true→e=f)):=fun q=>by
    rw[hH3,hS3]
    exact fix_step HOR.out.1 HOR.out.2.1 HOR.out.2.2 _ (HFX.out q)
   have kw:=pown_b HX.out o HOO.out.1 HOO.out.2 k HK.out
   have HC2:Hid (i<cx.length):=c
   obtain⟨ow,how⟩:∃ow,ow=ownH H3 o k:=⟨_,rfl⟩
   rw[←how] at kw
   obtain⟨d,hd⟩:∃d,d=ow.getD zDe:=⟨_,rfl⟩
   obtain⟨th,hth⟩:∃th,th=ow.isSome:=⟨_,rfl⟩
   rw[←hd,←hth] at kw
   unfold deV at kw
   have HS2:Hid (is=true→th=true∧FixS S3 o k d∧bits .andNot .i64 d.fl 1=bits .andNot .i64 f.fl 1∧((bits .and .i64 f.fl 1 == 0)=true→d=f)):=fun q=>by
    obtain⟨e,q1,q2,q3,q4⟩:=HST.out q
    have e1:d=e:=by rw[hd,how,q2];rfl
    rw[e1]
    exact⟨by rw[hth,how,q2];rfl,q1,q3,q4⟩
   have HNW:Hid (th=true→(bits .and .i64 d.fl 4 == 0)=true→FixS S3 o k d∧0≤atI S3 o):=fun q1 q2=>by
    cases hw:ow with
    | none=>rw[hth,hw] at q1;cases q1
    | some e =>
      have e1:d=e:=by rw[hd,hw];rfl
      rw[e1] at q2 ⊢
      exact fix_new HX.out.ord (by rw[←how,hw]) q2
   clear hH3 hS3 HNQ c HXB how hd hth HOR HFX HST
   go_wp2_with fail
   refine kw.mono ?_
   rintro e w7 ⟨rfl,hB7⟩
   have HX7:=(show Hid _ from (HX.out.below hB7).below ((Below.refl _ _).alloc (Nat.le_refl _) (.cells #[.int .u64 d.va,.int .u64 d.se,.int .i64 d.fl] 39)))
   have HZ7:Hid (Bx3 (w7.alloc (.cells #[.int .u64 d.va,.int .u64 d.se,.int .i64 d.fl] 39)) b9 f):=(HZ6.out.below hB7).below ((Below.refl _ _).alloc (Nat.le_refl _) (.cells #[.int .u64 d.va,.int .u64 d.se,.int .i64 d.fl] 39))
   have HD7:Hid (Bx3 (w7.alloc (.cells #[.int .u64 d.va,.int .u64 d.se,.int .i64 d.fl] 39)) w7.heap.size d∧w7.heap.size≠b9):=⟨Bx3.box w7 d,fun e=>by have:=(HZ6.out.below hB7).lt;omega⟩
   clear kw hB7 HX HZ6
   go_upto_region 11 with fail
   generalize w7.alloc (.cells #[.int .u64 d.va,.int .u64 d.se,.int .i64 d.fl] 39)=w8 at *
   generalize w7.heap.size=bd at *
   have HXA:Hid (∀W,Below w8.heap.size w8 W→Calls Tryz.prog 9 #[stV ⟨za,zl,zc⟩ .nil,.int .u64 o] W fun e w'=>e = .returned (.int .i64 (atI S3 o))∧Below W.heap.size W w'):=fun W r=>rat_b (HX7.out.below r) o HOO.out.1 HOO.out.2
   have HXR:Hid (∀W,Below w8.heap.size w8 W→Calls Tryz.prog 12 #[stV ⟨za,zl,zc⟩ .nil,.int .u64 o] W fun e w'=>e = .returned (.bool (((soO S3 o).map (fun x=>x.kind == 1)).getD false))∧Below W.heap.size W w'):=fun W r=>rarray_b (HX7.out.below r) o HOO.out.1 HOO.out.2
   unfold stV at HXA HXR
   rw[show(SV.mk za zl zc).val = .slice za zl zc from rfl,show SV.nil.val = .slice none 0 0 from rfl] at HXA HXR
   obtain⟨r0,r1⟩:=HX7.out.box.ce
   rw[show(SV.mk za zl zc).val = .slice za zl zc from rfl] at r0
   rw[show SV.nil.val = .slice none 0 0 from rfl] at r1
   obtain⟨x0,x1,x2⟩:=HZ7.out.ce
   obtain⟨y0,y1,y2⟩:=HD7.out.1.ce
   go_upto_if 46 with fail
   go_cut [] from 47 to 74 (fun wx=>Hid (Below w8.heap.size w8 wx))
   case first =>
    cases is with
    | false =>
      clear HX7 HZ7 HD7 HXA HXR HS2 HNW
      go_wp2_with fail
      go_meet
      exact Below.refl _ _
    | true =>
      obtain⟨q1,q2,q3,q4⟩:=HS2.out rfl
      subst q1
      have hx1:(bits .andNot .i64 d.fl 1 != bits .andNot .i64 f.fl 1)=false:=by rw[q3];simp
      cases hb:(bits .and .i64 f.fl 1 == 0) with
      | false =>
        clear HX7 HZ7 HD7 HXA HXR HS2 HNW q2 q3 q4
        go_wp2_with fail
        go_meet
        exact Below.refl _ _
      | true =>
        have hdf:=q4 hb
        subst hdf
        have kar:=HXR.out w8 (Below.refl _ _)
        generalize ((soO S3 o).map (fun x=>x.kind == 1)).getD false=ar at *
        have f1:(d.va == d.va)=true:=beq_self_eq_true _
        have f2:(d.se == d.se)=true:=beq_self_eq_true _
        have f3:(d.fl == d.fl)=true:=beq_self_eq_true _
        clear HXA HXR HS2 HNW q2 q3 q4
        cases ar with
        | true =>
          go_wp2_with fail
          refine kar.mono ?_
          rintro e w9 ⟨rfl,hB9⟩
          have HB:=(show Hid _ from hB9)
          clear kar hB9 HX7 HZ7 HD7 r0 r1 x0 x1 x2 y0 y1 y2
          go_wp2_with fail
          go_meet
          exact HB
        | false =>
          go_wp2_with fail
          refine kar.mono ?_
          rintro e w9 ⟨rfl,hB9⟩
          have HB:=(show Hid _ from hB9)
          obtain⟨x0',x1',x2'⟩:=(HZ7.out.below hB9).ce
          obtain⟨y0',y1',y2'⟩:=(HD7.out.1.below hB9).ce
          clear kar hB9 HX7 HZ7 HD7 r0 r1 x0 x1 x2 y0 y1 y2
          go_wp2_with fail
          go_meet
          exact HB
   case rest =>
    have HXC:=(show Hid _ from HX7.out.below hcut.out)
    have HZC:Hid (Bx3 wc b9 f):=HZ7.out.below hcut.out
    have HDC:Hid (Bx3 wc bd d):=HD7.out.1.below hcut.out
    have kat:=HXA.out wc hcut.out
    clear HX7 HZ7 HD7 HXA HXR hcut r0 r1 x0 x1 x2 y0 y1 y2
    obtain⟨r0,r1⟩:=HXC.out.box.ce
    rw[show(SV.mk za zl zc).val = .slice za zl zc from rfl] at r0
    rw[show SV.nil.val = .slice none 0 0 from rfl] at r1
    obtain⟨y0,y1,y2⟩:=HDC.out.ce
    cases hc4:(th && (bits .and .i64 d.fl 4 == 0)) with
    | false =>
      have HFN:Hid (is=true→FixS S3 o k f):=fun q=>by
       obtain⟨q1,q2,q3,q4⟩:=HS2.out q
       obtain⟨_,_,_,q5⟩:=q2
       rw[q1,q5] at hc4
       cases hc4
      have HNX:Hid (LawP w wc (fun b=>b=bs∨b=b9) hb bs H3 S3 ⟨za,zl,zc⟩ (n0+(i+1))):=HXC.out.less (fun b q=>Or.inl q) (Or.inl rfl)
      have HCC:Hid (th=false∨(th=true∧(bits .and .i64 d.fl 4 == 0)=false)):=by
       cases th with
       | false=>exact Or.inl rfl
       | true=>exact Or.inr ⟨rfl,by simpa using hc4⟩
      clear HXC HS2 HNW kat r0 r1 hc4 HDC
      rcases HCC.out with q | ⟨q,q5⟩
      ·subst q
       clear HCC
       go_wp2_with fail
       refine⟨⟨i+1,H3,S3,⟨za,zl,zc⟩,f,is,⟨HC2.out,HNX.out,HZC.out,HFN.out⟩,rfl,by go_num⟩,?_⟩
       have:=HC2.out
       simp[intOf]
       omega
      ·subst q
       clear HCC
       go_wp2_with fail
       refine⟨⟨i+1,H3,S3,⟨za,zl,zc⟩,f,is,⟨HC2.out,HNX.out,HZC.out,HFN.out⟩,rfl,by go_num⟩,?_⟩
       have:=HC2.out
       simp[intOf]
       omega
    | true =>
      obtain⟨q1,q5⟩:th=true∧(bits .and .i64 d.fl 4 == 0)=true:=by simpa using hc4
      subst q1
      obtain⟨q6,q7⟩:=HNW.out rfl q5
      obtain⟨ai,hai⟩:∃ai,ai=atI S3 o:=⟨_,rfl⟩
      rw[←hai] at q7 kat
      have hge:ai≥0:=q7
      have HFN:Hid (FixS S3 o k d):=q6
      clear hai q6 HS2 HNW hc4
      go_wp2_with fail
      refine kat.mono ?_
      rintro e w9 ⟨rfl,hB9⟩
      have HX9:=(show Hid _ from HXC.out.below hB9)
      have HZ9:Hid (Bx3 w9 b9 f):=HZC.out.below hB9
      have HD9:Hid (Bx3 w9 bd d):=HDC.out.below hB9
      clear kat hB9 HXC HZC HDC r0 r1 y0 y1 y2
      obtain⟨x0,x1,x2⟩:=HZ9.out.ce
      obtain⟨e0,e1,e2⟩:=HZ9.out.fz
      obtain⟨y0,y1,y2⟩:=HD9.out.ce
      have HNX:Hid (LawP w (st3 w9 b9 d) (fun b=>b=bs∨b=b9) hb bs H3 S3 ⟨za,zl,zc⟩ (n0+(i+1))∧Bx3 (st3 w9 b9 d) b9 d):=by
       have h0:LawP w w9 (fun b=>b=bs∨b=b9) hb bs H3 S3 ⟨za,zl,zc⟩ (n0+(i+1)):=HX9.out.less (fun b q=>Or.inl q) (Or.inl rfl)
       exact⟨((h0.set (Or.inr rfl) HB9.out.2 HB9.out.1 0 _).set (Or.inr rfl) HB9.out.2 HB9.out.1 1 _).set (Or.inr rfl) HB9.out.2 HB9.out.1 2 _,HZ9.out.put d⟩
      unfold st3 at HNX
      clear HX9 HZ9 HD9
      go_wp2_with fail
      refine⟨⟨i+1,H3,S3,⟨za,zl,zc⟩,d,true,⟨HC2.out,HNX.out.1,HNX.out.2,fun _=>HFN.out⟩,rfl,by go_num⟩,?_⟩
      have:=HC2.out
      simp[intOf]
      omega
  ·have hil:¬((i:Int)<cx.length):=by omega
   have HF:=(show Hid _ from HL.out.two.bel)
   clear HL HLL c
   go_wp2_with fail
   go_ret
   exact⟨rfl,HF.out⟩
end Go.Proofs.YtahhionlbfhinabGreatDoor.Hp
