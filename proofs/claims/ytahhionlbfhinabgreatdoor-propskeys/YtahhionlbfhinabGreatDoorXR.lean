/- XR -/
import Derived.Test.YtahhionlbfhinabGreatDoorXQ
import Derived.Test.YtahhionlbfhinabGreatDoorB39
set_option linter.unusedVariables false
set_option linter.unusedSimpArgs false
set_option maxRecDepth 100000
set_option maxHeartbeats 40000000
namespace Go.Proofs.YtahhionlbfhinabGreatDoor.Hp
open Go.RowKit
theorem keys_sz {H:He}(hw:H.wf)(o:Int):∀k∈keysP H o,k.size≤maxLen:=fun k hk=>by
 unfold keysP at hk
 cases hq:obO H o with
 | none=>rw[hq] at hk;simp at hk
 | some ob =>
   rw[hq] at hk
   obtain⟨i,_,hi⟩:=obO_some hq
   have ho:=hw.ob ob (List.mem_of_getElem? hi)
   have hk:k∈keysO ob:=hk
   unfold keysO at hk
   rcases List.mem_append.1 hk with q | q
   ·obtain⟨m,_,rfl⟩:=List.mem_map.1 q
    show(dgF 4 m).toArray.size≤maxLen
    have:=dg_len 4 m
    simp only[List.size_toArray]
    unfold maxLen
    omega
   ·obtain⟨p,hp,rfl⟩:=List.mem_map.1 q
    exact ho.ks p (List.mem_filter.1 hp).1
theorem keys_walk14 (w:World)(hT:TbAt w)(sc:Sli OpP)(o:Int)(hsc:sc.ok opP 11 w)(hwf:∀a∈sc.xs,a.wf)(o0:0≤o)(o1:o<18446744073709551616)(hsz:96*sc.xs.length≤140737488355328) :
  Calls Tryz.prog 5 #[sc.val,.int .u64 o] w fun e w'=>e = .returned (.bool true)∧Below w.heap.size w w':=by
 have kmd:=made_any w hT sc hsc hwf hsz
 obtain⟨ca,cc,cx⟩:=sc
 unfold Sli.val at *
 simp only at *
 clear hsc hwf hsz hT
 go_enter Tryz.func5,Tryz.ntmps5
 go_wp2_with fail
 refine kmd.mono ?_
 rintro e w1 ⟨hb,H,S,⟨oa,ol,oc⟩,n,rfl,hn,hq1⟩
 have HL1:=(show Hid _ from hq1.box)
 have HN:Hid (n≤cx.length):=hn
 clear kmd hn hq1
 unfold stV
 rw[show(SV.mk oa ol oc).val = .slice oa ol oc from rfl,show SV.nil.val = .slice none 0 0 from rfl] at HL1 ⊢
 go_upto_region 2 with fail
 generalize w1.alloc (.cells #[.slice oa ol oc,.slice none 0 0] 33)=w2 at *
 generalize w1.heap.size=bs at *
 have kal:=palive_any w2 HL1.out.tbr.fp
 go_wp2_with fail
 refine kal.mono ?_
 rintro e w3 ⟨rfl,hb3⟩
 have HL:=(show Hid _ from HL1.out.below hb3)
 clear kal hb3 HL1
 have kk:=pkeys_e HL.out.two HL.out.ord HL.out.tbr.pw o o0 o1
 have HKO:Hid (∀k∈keysP H o,∃d,ownH H o k=some d∧(bits .and .i64 d.fl 2 == 0)=false):=HL.out.ord.keys_own HL.out.two.wf o
 have HKU:Hid ((keysP H o).Nodup∧∀k∈keysP H o,k.size≤maxLen):=⟨HL.out.ord.keys_unlike HL.out.two.wf o,keys_sz HL.out.two.wf o⟩
 generalize keysP H o=ks at *
 obtain⟨nk,hnk⟩:∃nk,nk=ks.length:=⟨_,rfl⟩
 have HNK:Hid (nk=ks.length):=hnk
 clear hnk
 go_wp2_with fail
 refine kk.mono ?_
 rintro e w4 ⟨s1,rfl,ho1,hB4⟩
 have HL4:=(show Hid _ from HL.out.below hB4)
 obtain⟨⟨a1,c1,x1⟩,hs1,hx1,hk1,_⟩:=OwnR.sl rtStr.len ho1
 simp only at hx1
 have hx1':=hx1.symm
 subst hx1'
 rw[hs1]
 unfold Sli.val
 simp only
 have HK1:Hid (Sli.ok strC 1 w4 ⟨a1,c1,ks⟩):=hk1
 have hnl:(nk:Int)≤9223372036854775807:=by
  have a:=hk1.1
  have b:=hk1.2
  have c:=HNK.out
  simp only at a b
  unfold maxLen at b
  omega
 clear kk ho1 hB4 hs1 hk1 HL
 simp only[←HNK.out]
 go_wp2_with fail
 go_loopw [28] (fun iv wr=>∃(i:Nat),(i≤nk∧Hid (LawP w wr (fun b=>b=bs) hb bs H S ⟨oa,ol,oc⟩ n∧Sli.ok strC 1 wr ⟨a1,c1,ks⟩))∧iv = .int .i64 i) (fun iv wr=>nk - (intOf iv).toNat)
 case atStart=>exact⟨0,⟨Nat.zero_le _,HL4.out,HK1.out⟩,rfl⟩
 case round =>
  clear HL4 HK1
  obtain⟨i,⟨ple,HW⟩,rfl⟩:=hrel
  rcases Nat.lt_or_ge i nk with c | c
  ·have cl:(i:Int)<nk:=by omega
   obtain⟨k,hk⟩:∃k,ks[i]?=some k:=⟨_,List.getElem?_eq_getElem (by rw[←HNK.out];exact c)⟩
   obtain⟨d,hd,hf⟩:=HKO.out k (List.mem_of_getElem? hk)
   have ko:=pown_b HW.out.1 o o0 o1 k (HKU.out.2 k (List.mem_of_getElem? hk))
   rw[hd] at ko
   simp only[Option.getD_some,Option.isSome_some] at ko
   unfold deV at ko
   obtain⟨g1,f1,e1,hc1⟩:=HW.out.2.cells (by intro e;have e:ks=[]:=e;rw[e] at hk;simp at hk)
   simp only at e1
   subst e1
   have d1:=hc1 i k hk 0 _ rfl
   try simp only[Nat.mul_one,Nat.add_zero] at d1
   have HKI:Hid (ks[i]?=some k):=hk
   have HC:Hid (i<nk):=c
   clear hc1 hk hd c
   go_wp2_with fail
   refine ko.mono ?_
   rintro e w5 ⟨rfl,hB5⟩
   have HW5:=(show Hid _ from And.intro ((HW.out.1.below hB5).below ((Below.refl _ _).alloc (Nat.le_refl _) (.cells #[.int .u64 d.va,.int .u64 d.se,.int .i64 d.fl] 39))) ((HW.out.2.kept (cells_below hB5)).kept (cells_below ((Below.refl _ _).alloc (Nat.le_refl _) (.cells #[.int .u64 d.va,.int .u64 d.se,.int .i64 d.fl] 39)))))
   obtain⟨x0,x1,x2⟩:=(Bx3.box w5 d).ce
   clear ko hB5 HW d1
   go_upto_region 9 with fail
   generalize w5.alloc (.cells #[.int .u64 d.va,.int .u64 d.se,.int .i64 d.fl] 39)=w6 at *
   generalize w5.heap.size=b5 at *
   go_wp2_with fail
   clear x0 x1 x2
   go_loopw [50] (fun jv wr=>∃(j:Nat),(j≤i∧Hid (LawP w wr (fun b=>b=bs) hb bs H S ⟨oa,ol,oc⟩ n∧Sli.ok strC 1 wr ⟨some ⟨g1,f1,none⟩,c1,ks⟩))∧jv = .int .i64 j) (fun jv wr=>i - (intOf jv).toNat)
   case atStart=>exact⟨0,⟨Nat.zero_le _,HW5.out⟩,rfl⟩
   case round =>
    clear HW5
    obtain⟨j,⟨plj,HW⟩,rfl⟩:=hrel
    rcases Nat.lt_or_ge j i with cj | cj
    ·have cjl:(j:Int)<i:=by omega
     have cjn:(j:Int)<nk:=by have:=HC.out;omega
     obtain⟨u,hu⟩:∃u,ks[j]?=some u:=⟨_,List.getElem?_eq_getElem (by rw[←HNK.out];have:=HC.out;omega)⟩
     have hne:u≠k:=fun e=>by
      have:=(List.getElem?_inj (List.getElem?_eq_some_iff.1 hu).1 HKU.out.1).1 (by rw[hu,HKI.out,e]:ks[j]?=ks[i]?)
      omega
     have hul:(u.toList == k.toList)=false:=Sp.bytes_no hne
     obtain⟨g2,f2,e2,hc2⟩:=HW.out.2.cells (by intro e;have e:ks=[]:=e;rw[e] at hu;simp at hu)
     simp only at e2
     injection e2 with e2
     injection e2 with q1 q2
     subst q1 q2
     have d1:=hc2 i k HKI.out 0 _ rfl
     have d2:=hc2 j u hu 0 _ rfl
     try simp only[Nat.mul_one,Nat.add_zero] at d1
     try simp only[Nat.mul_one,Nat.add_zero] at d2
     have HCJ:Hid (j<i):=cj
     clear hc2 hu hne cj
     go_wp2_with fail
     go_quiet (fail)
     go_wp2_with fail
     refine⟨⟨j+1,⟨HCJ.out,HW.out.1.below (below_drewN (Below.refl _ _) _),HW.out.2.kept (cells_below (below_drewN (Below.refl _ _) _))⟩,by go_num⟩,?_⟩
     have:=HCJ.out
     simp[intOf]
     omega
    ·have cjl:¬((j:Int)<i):=by omega
     have HWN:=(show Hid _ from HW.out)
     clear HW cj
     go_wp2_with fail
     refine⟨⟨i+1,⟨HC.out,HWN⟩,by go_num⟩,?_⟩
     have:=HC.out
     simp[intOf]
     omega
  ·have hil:¬((i:Int)<nk):=by omega
   have HF:=(show Hid _ from HW.out.1.two.bel)
   clear HW c
   go_wp2_with fail
   go_ret
   exact⟨rfl,HF.out⟩
end Go.Proofs.YtahhionlbfhinabGreatDoor.Hp
