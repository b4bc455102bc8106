/- XV -/
import Derived.Test.YtahhionlbfhinabGreatDoorXQ
import Derived.Test.YtahhionlbfhinabGreatDoorB39
import Derived.Deep.CutRange
import Derived.Deep.CutBlock
import Derived.Test.YtahhionlbfhinabGreatDoorOW
set_option linter.unusedVariables false
set_option linter.unusedSimpArgs false
set_option maxRecDepth 100000
set_option maxHeartbeats 40000000
namespace Go.Proofs.YtahhionlbfhinabGreatDoor.Hp
open Go.RowKit
theorem abvL_own {H:He}{k:ByteArray}{R:Option (Int×De)}{n:Nat}{o:Int}{e:De}(h:abvL H k R (n+1) o=true)(ho:ownH H o k=some e):∃q d,R=some (q,d)∧o=q∧d=e:=by
 unfold abvL at h
 rw[ho] at h
 cases R with
 | none=>cases h
 | some x =>
   obtain⟨q,d⟩:=x
   simp only[Bool.and_eq_true,beq_iff_eq] at h
   refine⟨q,d,rfl,h.1,?_⟩
   have h2:=h.2
   unfold deqB at h2
   simp only[Bool.and_eq_true,beq_iff_eq] at h2
   obtain⟨r1,r2,r3⟩:=h2
   cases d
   cases e
   simp only at r1 r2 r3
   rw[r1,r2,r3]
theorem abvL_end {H:He}{k:ByteArray}{R:Option (Int×De)}{n:Nat}{o:Int}(h:abvL H k R (n+1) o=true)(ho:ownH H o k=none)(hq:obO H o=none):R=none:=by
 unfold abvL at h
 rw[ho] at h
 simp only[hq,Option.isSome_none,Bool.false_eq_true,if_false] at h
 cases R with
 | none=>rfl
 | some x=>cases h
theorem abvL_up {H:He}{k:ByteArray}{R:Option (Int×De)}{n:Nat}{o:Int}{ob:Ob}(h:abvL H k R (n+1) o=true)(ho:ownH H o k=none)(hq:obO H o=some ob):abvL H k R n (upH H o)=true:=by
 unfold abvL at h
 rw[ho] at h
 simpa only[hq,Option.isSome_some,if_true] using h
theorem abvL_zero {H:He}{k:ByteArray}{R:Option (Int×De)}{o:Int}(h:abvL H k R 0 o=true):R.isSome=false:=by
 unfold abvL at h
 simpa using h
theorem at_ob {H:He}{S:List So}{n:Nat}(h:OrP H S [] n){o:Int}(o0:0≤o)(o1:o<18446744073709551616):(obO H o=none∧atI S o = -1)∨∃ob,obO H o=some ob∧0≤atI S o:=by
 rcases h.rel.oo o with⟨e1,e2⟩ | ⟨ob,x,e1,e2,e3⟩
 ·exact Or.inl ⟨e1,atI_none e2 o0 o1⟩
 ·exact Or.inr ⟨ob,e1,atI_some e2⟩
theorem above_walk (w:World)(hT:TbAt w)(sc:Sli OpP)(o:Int)(k:ByteArray)(hsc:sc.ok opP 11 w)(hwf:∀a∈sc.xs,a.wf)(o0:0≤o)(o1:o<18446744073709551616)(hk:k.size≤maxLen)(hsz:96*sc.xs.length≤140737488355328) :
  Calls Tryz.prog 6 #[sc.val,.int .u64 o,.string k] w fun e w'=>e = .returned (.bool true)∧Below w.heap.size w w':=by
 have kmd:=made_any w hT sc hsc hwf hsz
 obtain⟨ca,cc,cx⟩:=sc
 unfold Sli.val at *
 simp only at *
 have HK:Hid (k.size≤maxLen):=hk
 clear hsc hwf hsz hT hk
 go_enter Tryz.func6,Tryz.ntmps6
 go_wp2_with fail
 refine kmd.mono ?_
 rintro e w1 ⟨hb,H,S,⟨oa,ol,oc⟩,n,rfl,hn,hq1⟩
 have HL1:=(show Hid _ from hq1.box)
 have HN:Hid (n≤cx.length):=hn
 clear kmd hn hq1
 unfold stV
 rw[show(SV.mk oa ol oc).val = .slice oa ol oc from rfl,show SV.nil.val = .slice none 0 0 from rfl] at HL1 ⊢
 go_upto_region 2 with fail
 generalize w1.alloc (.cells #[.slice oa ol oc,.slice none 0 0] 33)=w2 at *
 generalize w1.heap.size=bs at *
 have kal:=palive_any w2 HL1.out.tbr.fp
 go_wp2_with fail
 refine kal.mono ?_
 rintro e w3 ⟨rfl,hb3⟩
 have HL:=(show Hid _ from HL1.out.below hb3)
 clear kal hb3 HL1
 have kl:=plook_e HL.out.two HL.out.ord o o0 o1 k HK.out
 have hab:abvL H k (lookF H k H.obs.length o) (S.length+1) o=true:=by
  have e:=look_ends (k:=k) H.obs.length (S.length+1) o (HL.out.ord.inv.acy o) (by rw[HL.out.ord.rel.len];omega)
  rw[e]
  exact abv_look _ _
 have hzl:=HL.out.len
 simp only at hzl
 obtain⟨hzl,hzs⟩:=hzl
 rw[←hzl] at hab hzs
 generalize lookF H k H.obs.length o=R at *
 obtain⟨rq,hrq⟩:∃rq,rq=(R.map Prod.fst).getD undW:=⟨_,rfl⟩
 obtain⟨d0,hd0⟩:∃d0,d0=(R.map Prod.snd).getD zDe:=⟨_,rfl⟩
 obtain⟨is,his⟩:∃is,is=R.isSome:=⟨_,rfl⟩
 rw[←hrq,←hd0,←his] at kl
 have HR:Hid ((R=none→is=false)∧(R.isSome=false→is=false)∧∀q d,R=some (q,d)→is=true∧rq=q∧d0=d):=⟨fun e=>by rw[his,e];rfl,fun e=>by rw[his,e],fun q d e=>by rw[his,hrq,hd0,e];exact⟨rfl,rfl,rfl⟩⟩
 have HAB:Hid (abvL H k R (ol+1) o=true):=hab
 have hol:(ol:Int)≤65536:=by omega
 unfold deV at kl
 clear hrq hd0 his hab hzl hzs
 have HOO:Hid (0≤o∧o<18446744073709551616):=⟨o0,o1⟩
 clear o0 o1
 go_wp2_with fail
 refine kl.mono ?_
 rintro e w4 ⟨rfl,hB4⟩
 have HL4:=(show Hid _ from (HL.out.below hB4).new (.cells #[.int .u64 d0.va,.int .u64 d0.se,.int .i64 d0.fl] 39))
 have HZ4:Hid (Bx3 (w4.alloc (.cells #[.int .u64 d0.va,.int .u64 d0.se,.int .i64 d0.fl] 39)) w4.heap.size d0):=Bx3.box w4 d0
 clear kl hB4 HL
 go_upto_region 5 with fail
 generalize w4.alloc (.cells #[.int .u64 d0.va,.int .u64 d0.se,.int .i64 d0.fl] 39)=w5 at *
 generalize w4.heap.size=b4 at *
 obtain⟨r0,r1⟩:=HL4.out.box.ce
 rw[show(SV.mk oa ol oc).val = .slice oa ol oc from rfl] at r0
 rw[show SV.nil.val = .slice none 0 0 from rfl] at r1
 go_wp2_with fail
 go_loopw [1,37] (fun ov jv wr=>∃(j:Nat) (c:Int),(j≤ol+1∧Hid (LawP w wr (fun b=>(fun b=>b=bs) b∨b=b4) hb bs H S ⟨oa,ol,oc⟩ n∧Bx3 wr b4 d0∧abvL H k R (ol+1 - j) c=true∧0≤c∧c<18446744073709551616))∧ov = .int .u64 c∧jv = .int .i64 j) (fun ov jv wr=>ol+1 - (intOf jv).toNat)
 case atStart=>exact⟨0,o,⟨Nat.zero_le _,HL4.out,HZ4.out,HAB.out,HOO.out.1,HOO.out.2⟩,rfl,rfl⟩
 case round =>
  clear HL4 HZ4 HAB r0 r1 HOO
  obtain⟨j,c,⟨plj,HW⟩,rfl,rfl⟩:=hrel
  rcases Nat.lt_or_ge j (ol+1) with cj | cj
  ·have cjl:(j:Int)<(ol:Int)+1:=by omega
   have HL:=(show Hid _ from HW.out.1)
   have HZ:Hid (Bx3 wr b4 d0):=HW.out.2.1
   have HA:Hid (abvL H k R (ol+1 - (j+1)+1) c=true):=by
    have e:=HW.out.2.2.1
    rw[show ol+1 - j=ol+1 - (j+1)+1 by omega] at e
    exact e
   have HCR:Hid (0≤c∧c<18446744073709551616):=HW.out.2.2.2
   have ko:=pown_b HL.out c HCR.out.1 HCR.out.2 k HK.out
   have HCJ:Hid (j<ol+1):=cj
   clear HW cj
   cases how:ownH H c k with
   | some e =>
     rw[how] at ko
     simp only[Option.getD_some,Option.isSome_some] at ko
     unfold deV at ko
     obtain⟨q,d,e1,e2,e3⟩:=abvL_own HA.out how
     obtain⟨rfl,e5,e6⟩:=HR.out.2.2 q d e1
     have hq:rq=c:=by rw[e5,e2]
     have hd:d0=e:=by rw[e6,e3]
     clear e1 e2 e3 e5 e6 how HA HR
     subst hq
     subst hd
     go_wp2_with fail
     refine ko.mono ?_
     rintro e w6 ⟨rfl,hB6⟩
     have HBX:Hid (Below w.heap.size w (w6.alloc (.cells #[.int .u64 d0.va,.int .u64 d0.se,.int .i64 d0.fl] 39))∧Bx3 (w6.alloc (.cells #[.int .u64 d0.va,.int .u64 d0.se,.int .i64 d0.fl] 39)) b4 d0∧Bx3 (w6.alloc (.cells #[.int .u64 d0.va,.int .u64 d0.se,.int .i64 d0.fl] 39)) w6.heap.size d0):=⟨bel_sm' (bel_sm' HL.out.two.bel hB6) ((Below.refl _ _).alloc (Nat.le_refl _) (.cells #[.int .u64 d0.va,.int .u64 d0.se,.int .i64 d0.fl] 39)),(HZ.out.below hB6).below ((Below.refl _ _).alloc (Nat.le_refl _) (.cells #[.int .u64 d0.va,.int .u64 d0.se,.int .i64 d0.fl] 39)),Bx3.box w6 d0⟩
     clear ko hB6 HL HZ HCJ HCR
     go_upto_region 8 with fail
     generalize w6.alloc (.cells #[.int .u64 d0.va,.int .u64 d0.se,.int .i64 d0.fl] 39)=w7 at *
     generalize w6.heap.size=b6 at *
     obtain⟨x0,x1,x2⟩:=HBX.out.2.1.ce
     obtain⟨y0,y1,y2⟩:=HBX.out.2.2.ce
     have f1:(d0.va == d0.va)=true:=beq_self_eq_true _
     have f2:(d0.se == d0.se)=true:=beq_self_eq_true _
     have f3:(d0.fl == d0.fl)=true:=beq_self_eq_true _
     have f4:(rq == rq)=true:=beq_self_eq_true _
     have HF:=(show Hid _ from HBX.out.1)
     clear HBX
     go_wp2_with fail
     go_ret
     exact⟨by first | rfl | (simp),HF.out⟩
   | none =>
     rw[how] at ko
     simp only[Option.getD_none,Option.isSome_none] at ko
     unfold deV zDe at ko
     have ka:=rat_b HL.out c HCR.out.1 HCR.out.2
     have HKA:Hid (∀W,Below wr.heap.size wr W→Calls Tryz.prog 9 #[stV ⟨oa,ol,oc⟩ .nil,.int .u64 c] W fun e w'=>e = .returned (.int .i64 (atI S c))∧Below W.heap.size W w'):=fun W r=>rat_b (HL.out.below r) c HCR.out.1 HCR.out.2
     rcases at_ob HL.out.ord HCR.out.1 HCR.out.2 with⟨q1,q2⟩ | ⟨ob,q1,q2⟩
     ·have hn:=HR.out.1 (abvL_end HA.out how q1)
      rw[q2] at HKA
      subst hn
      clear q1 q2 how HA HR ka
      go_wp2_with fail
      refine ko.mono ?_
      rintro e w6 ⟨rfl,hB6⟩
      have HL6:=(show Hid _ from (HL.out.below hB6).below ((Below.refl _ _).alloc (Nat.le_refl _) (.cells #[.int .u64 0,.int .u64 0,.int .i64 0] 39)))
      have ka:=HKA.out (w6.alloc (.cells #[.int .u64 0,.int .u64 0,.int .i64 0] 39)) (bel_sm' hB6 ((Below.refl _ _).alloc (Nat.le_refl _) (.cells #[.int .u64 0,.int .u64 0,.int .i64 0] 39)))
      clear ko hB6 HL HZ HCJ HKA
      go_upto_region 8 with fail
      generalize w6.alloc (.cells #[.int .u64 0,.int .u64 0,.int .i64 0] 39)=w7 at *
      generalize w6.heap.size=b6 at *
      obtain⟨r0,r1⟩:=HL6.out.box.ce
      rw[show(SV.mk oa ol oc).val = .slice oa ol oc from rfl] at r0
      rw[show SV.nil.val = .slice none 0 0 from rfl] at r1
      unfold stV at ka
      rw[show(SV.mk oa ol oc).val = .slice oa ol oc from rfl,show SV.nil.val = .slice none 0 0 from rfl] at ka
      go_wp2_with fail
      refine ka.mono ?_
      rintro e w8 ⟨rfl,hB8⟩
      have HF:=(show Hid _ from (HL6.out.below hB8).two.bel)
      clear ka hB8 HL6 r0 r1
      go_wp2_with fail
      go_ret
      exact⟨by first | rfl | (simp),HF.out⟩
     ·have HN:Hid (abvL H k R (ol+1 - (j+1)) (upH H c)=true):=abvL_up HA.out how q1
      obtain⟨ai,hai⟩:∃ai,ai=atI S c:=⟨_,rfl⟩
      rw[←hai] at q2 HKA
      have hni:¬(ai<0):=by omega
      have HUR:Hid (0≤upH H c∧upH H c<18446744073709551616):=upH_rng HL.out.two.wf c
      clear q1 how HA hai ka
      go_wp2_with fail
      refine ko.mono ?_
      rintro e w6 ⟨rfl,hB6⟩
      have HL6:=(show Hid _ from (HL.out.below hB6).below ((Below.refl _ _).alloc (Nat.le_refl _) (.cells #[.int .u64 0,.int .u64 0,.int .i64 0] 39)))
      have HZ6:Hid (Bx3 (w6.alloc (.cells #[.int .u64 0,.int .u64 0,.int .i64 0] 39)) b4 d0):=(HZ.out.below hB6).below ((Below.refl _ _).alloc (Nat.le_refl _) (.cells #[.int .u64 0,.int .u64 0,.int .i64 0] 39))
      have ka:=HKA.out (w6.alloc (.cells #[.int .u64 0,.int .u64 0,.int .i64 0] 39)) (bel_sm' hB6 ((Below.refl _ _).alloc (Nat.le_refl _) (.cells #[.int .u64 0,.int .u64 0,.int .i64 0] 39)))
      clear ko hB6 HL HZ HKA
      go_upto_region 8 with fail
      generalize w6.alloc (.cells #[.int .u64 0,.int .u64 0,.int .i64 0] 39)=w7 at *
      generalize w6.heap.size=b6 at *
      obtain⟨r0,r1⟩:=HL6.out.box.ce
      rw[show(SV.mk oa ol oc).val = .slice oa ol oc from rfl] at r0
      rw[show SV.nil.val = .slice none 0 0 from rfl] at r1
      unfold stV at ka
      rw[show(SV.mk oa ol oc).val = .slice oa ol oc from rfl,show SV.nil.val = .slice none 0 0 from rfl] at ka
      go_wp2_with fail
      refine ka.mono ?_
      rintro e w8 ⟨rfl,hB8⟩
      have HL8:=(show Hid _ from HL6.out.below hB8)
      have HZ8:Hid (Bx3 w8 b4 d0):=HZ6.out.below hB8
      have kp:=pproto_e HL8.out c HCR.out.1 HCR.out.2
      clear ka hB8 HL6 HZ6 r0 r1
      generalize upH H c=cv at *
      go_wp2_with fail
      refine kp.mono ?_
      rintro e w9 ⟨rfl,hw9⟩
      have hw':=hw9.symm
      subst hw'
      clear hw9 kp
      go_wp2_with fail
      refine⟨⟨j+1,cv,⟨HCJ.out,HL8.out,HZ8.out,HN.out,HUR.out.1,HUR.out.2⟩,rfl,by go_num⟩,?_⟩
      have:=HCJ.out
      simp[intOf]
      omega
  ·have cjl:¬((j:Int)<(ol:Int)+1):=by omega
   have hn:is=false:=by
    have e:=HW.out.2.2.1
    rw[show ol+1 - j=0 by omega] at e
    exact HR.out.2.1 (abvL_zero e)
   subst hn
   have HF:=(show Hid _ from HW.out.1.two.bel)
   clear HW cj HR
   go_wp2_with fail
   go_ret
   exact⟨by first | rfl | (simp),HF.out⟩
end Go.Proofs.YtahhionlbfhinabGreatDoor.Hp
