/- XZ -/
import Derived.Test.YtahhionlbfhinaaGreatDoorOW
import Derived.Test.YtahhionlbfhinaaGreatDoorB40
import Derived.Deep.QuietTactic
set_option linter.unusedVariables false
set_option linter.unusedSimpArgs false
set_option maxRecDepth 100000
set_option maxHeartbeats 40000000
namespace Go.Proofs.YtahhionlbfhinaaGreatDoor.Hp
open Go.RowKit
section
variable {w wi w':World}{X:Nat→Prop}{hb bs:Nat}{H:He}{S:List So}{vo:SV}{n:Nat}
theorem whole_e (h:LawP w wi X hb bs H S vo n)(hn:n≤1000000)(mo:Sli OpP)(hmo:mo.ok opP 11 wi)(hwf:∀a∈mo.xs,a.wf) :
  Calls Tryz.prog 11 #[.pointer (some ⟨hb,0,none⟩),stV vo .nil,mo.val] wi fun e w'=>e = .returned (.bool true)∧Below wi.heap.size wi w':=by
 obtain⟨wb,hwb⟩:∃wb,wb=wi.alloc (.cells #[vo.val,SV.nil.val] 28):=⟨_,rfl⟩
 have hB:Below wi.heap.size wi wb:=by rw[hwb];exact(Below.refl _ _).alloc (Nat.le_refl _) _
 have hbs:BxS wb wi.heap.size vo .nil:=by rw[hwb];exact BxS.new wi vo .nil
 have HBW:Hid (Below wi.heap.size wi wb):=hB
 have HBS:Hid (∀W,Below wb.heap.size wb W→BxS W wi.heap.size vo .nil):=fun W r=>hbs.below r
 have HLB:Hid (LawP w wb X hb bs H S vo n):=h.below hB
 have HLW:Hid (∀W,Below wb.heap.size wb W→LawP w W X hb bs H S vo n):=fun W r=>HLB.out.below r
 have HMO:Hid (∀W,Below wb.heap.size wb W→mo.ok opP 11 W):=fun W r=>(hmo.kept (cells_below hB)).kept (cells_below r)
 have hzl:=h.len
 obtain⟨ca,cc,cx⟩:=mo
 have HWF:Hid (∀a∈cx,a.wf):=hwf
 have hcl:(cx.length:Int)≤9223372036854775807:=by
  have a:=hmo.len
  have b:=hmo.cap
  simp only at a b
  unfold maxLen at b
  omega
 have HNN:Hid (n≤1000000):=hn
 obtain⟨oa,ol,oc⟩:=vo
 simp only at hzl
 have hol:(ol:Int)≤65536:=by omega
 unfold Sli.val stV
 rw[show(SV.mk oa ol oc).val = .slice oa ol oc from rfl,show SV.nil.val = .slice none 0 0 from rfl] at hwb ⊢
 simp only
 clear h hmo hwf hB hbs hzl hn
 go_enter Tryz.func11,Tryz.ntmps11
 go_upto_region 1 with fail
 rw[←hwb]
 clear hwb
 obtain⟨r0,r1⟩:=(HBS.out wb (Below.refl _ _)).ce
 rw[show(SV.mk oa ol oc).val = .slice oa ol oc from rfl] at r0
 rw[show SV.nil.val = .slice none 0 0 from rfl] at r1
 go_wp2_with fail
 clear r0 r1
 go_loopw [18] (fun jv wr=>∃(j:Nat),(j≤ol∧Hid (Below wb.heap.size wb wr))∧jv = .int .i64 j) (fun jv wr=>ol - (intOf jv).toNat)
 case atStart=>exact⟨0,⟨Nat.zero_le _,Below.refl _ _⟩,rfl⟩
 case round =>
  obtain⟨j,⟨plj,HW⟩,rfl⟩:=hrel
  rcases Nat.lt_or_ge j ol with c | c
  ·have cl:(j:Int)<ol:=by omega
   have hwo:IntKind.u64.wrap (18445055223849287680+(j:Int))=objW (j:Int):=by rw[IntKind.wrap_u64];unfold objW;omega
   have HOR:Hid (0≤objW (j:Int)∧objW (j:Int)<18446744073709551616):=by show _∧_;unfold objW;omega
   generalize objW (j:Int)=o at *
   have HKK:Hid (∀W,Below wb.heap.size wb W→Calls Tryz.prog 40 #[.pointer (some ⟨hb,0,none⟩),.agg #[.slice oa ol oc,.slice none 0 0],.int .u64 o] W fun e w'=>e = .returned (.bool true)∧Below W.heap.size W w'):=fun W r=>lkeys_e (HLW.out W r).two (HLW.out W r).ord (HLW.out W r).tbr HNN.out o HOR.out.1 HOR.out.2
   have HKP:Hid (∀W,Below wb.heap.size wb W→Calls Tryz.prog 23 #[.pointer (some ⟨hb,0,none⟩),.int .u64 o] W fun e w'=>e = .returned (.int .u64 (upH H o))∧w'=W):=fun W r=>pproto_e (HLW.out W r) o HOR.out.1 HOR.out.2
   have HRP:Hid (∀W,Below wb.heap.size wb W→Calls Tryz.prog 41 #[.agg #[.slice oa ol oc,.slice none 0 0],.int .u64 o] W fun e w'=>e = .returned (.int .u64 (upH H o))∧Below W.heap.size W w'):=fun W r=>by
    rw[HLB.out.ord.up]
    exact rproto_b (HLW.out W r) o HOR.out.1 HOR.out.2
   have HKO:Hid (∀W,Below wb.heap.size wb W→Calls Tryz.prog 42 #[.pointer (some ⟨hb,0,none⟩),.int .u64 o] W fun e w'=>e = .returned (.bool (((obO H o).map (fun x => !x.shut)).getD false))∧w'=W):=fun W r=>popen_b (HLW.out W r) o HOR.out.1 HOR.out.2
   have HRO:Hid (∀W,Below wb.heap.size wb W→Calls Tryz.prog 43 #[.agg #[.slice oa ol oc,.slice none 0 0],.int .u64 o] W fun e w'=>e = .returned (.bool (((obO H o).map (fun x => !x.shut)).getD false))∧Below W.heap.size W w'):=fun W r=>by
    rw[HLB.out.ord.op]
    exact ropen_b (HLW.out W r) o HOR.out.1 HOR.out.2
   generalize upH H o=up at *
   generalize ((obO H o).map (fun x => !x.shut)).getD false=op at *
   have hup:(up != up)=false:=by simp
   have hoo:(op != op)=false:=by simp
   have HC:Hid (j<ol):=c
   have HD0:Hid (Below wb.heap.size wb wr.drew):=HW.out.trans ((Below.refl wr.heap.size wr).drew |>.mono HW.out.size)
   obtain⟨r0,r1⟩:=(HBS.out wr HW.out).ce
   rw[show(SV.mk oa ol oc).val = .slice oa ol oc from rfl] at r0
   rw[show SV.nil.val = .slice none 0 0 from rfl] at r1
   clear c
   go_upto_region 5 with fail
   first
   | (go_region_with (first
     | (go_at_call 40;refine(HKK.out _ HD0.out).mono ?_;rintro e wk ⟨rfl,hbk⟩;have HDk:=(show Hid (Below wb.heap.size wb wk) from bel_sm' HD0.out hbk);obtain⟨s0,s1⟩:=(HBS.out wk HDk.out).ce;rw[show(SV.mk oa ol oc).val = .slice oa ol oc from rfl] at s0;rw[show SV.nil.val = .slice none 0 0 from rfl] at s1;clear hbk)
     | (go_at_call 23;refine(HKP.out _ HDk.out).mono ?_;rintro e wp ⟨rfl,hbp⟩;have hw':=hbp.symm;subst hw';clear hbp)
     | (go_at_call 41;refine(HRP.out _ HDk.out).mono ?_;rintro e wp ⟨rfl,hbp⟩;have HDp:=(show Hid (Below wb.heap.size wb wp) from bel_sm' HDk.out hbp);obtain⟨u0,u1⟩:=(HBS.out wp HDp.out).ce;rw[show(SV.mk oa ol oc).val = .slice oa ol oc from rfl] at u0;rw[show SV.nil.val = .slice none 0 0 from rfl] at u1;clear hbp)
     | (go_at_call 42;refine(HKO.out _ HDp.out).mono ?_;rintro e wx ⟨rfl,hbx⟩;have hw':=hbx.symm;subst hw';clear hbx)
     | (go_at_call 43;refine(HRO.out _ HDp.out).mono ?_;rintro e wy ⟨rfl,hby⟩;have HDy:=(show Hid (Below wb.heap.size wb wy) from bel_sm' HDp.out hby);obtain⟨v0,v1⟩:=(HBS.out wy HDy.out).ce;rw[show(SV.mk oa ol oc).val = .slice oa ol oc from rfl] at v0;rw[show SV.nil.val = .slice none 0 0 from rfl] at v1;clear hby)))
   | fail
   all_goals
    have HJ:Hid (j<ol):=HC.out
    clear HKK HKP HRP HKO HRO HDk HDp HD0 HW HC hup hoo
    try clear r0 r1
    try clear s0 s1
    try clear u0 u1
    try clear v0 v1
    go_wp2_with fail
    go_loopw [49] (fun kv wr=>∃(i:Nat),(i≤cx.length∧Hid (Below wb.heap.size wb wr))∧kv = .int .i64 i) (fun kv wr=>cx.length - (intOf kv).toNat)
    case atStart=>exact⟨0,⟨Nat.zero_le _,HDy.out⟩,rfl⟩
    case round =>
     clear HDy
     obtain⟨i,⟨pli,HV⟩,rfl⟩:=hrel
     rcases Nat.lt_or_ge i cx.length with c | c
     ·have hex:∃a,cx[i]?=some a:=⟨_,List.getElem?_eq_getElem c⟩
      obtain⟨a,ha⟩:=hex
      obtain⟨b,off,e1,hc⟩:=(HMO.out wr HV.out).cells (by intro e;have e:cx=[]:=e;rw[e] at c;simp at c)
      simp only at e1
      subst e1
      have d0:=hc i a ha 0 _ rfl
      have d1:=hc i a ha 1 _ rfl
      have d2:=hc i a ha 2 _ rfl
      have d3:=hc i a ha 3 _ rfl
      have d4:=hc i a ha 4 _ rfl
      have d5:=hc i a ha 5 _ rfl
      have d6:=hc i a ha 6 _ rfl
      have d7:=hc i a ha 7 _ rfl
      have d8:=hc i a ha 8 _ rfl
      have d9:=hc i a ha 9 _ rfl
      have d10:=hc i a ha 10 _ rfl
      rw[Nat.add_zero] at d0
      have hmem:=HWF.out a (List.mem_of_getElem? ha)
      have cil:(i:Int)<cx.length:=by omega
      obtain⟨kd,oo,op',kk,⟨has,va,ge,se,fl⟩,vv,nn⟩:=a
      have hkl:kk.size≤maxLen:=hmem.kl
      simp only at d0 d1 d2 d3 d4 d5 d6 d7 d8 d9 d10
      have HP1:Hid (∀W,Below wb.heap.size wb W→Calls Tryz.prog 18 #[.pointer (some ⟨hb,0,none⟩),.int .u64 o,.string kk] W fun e w'=>e = .returned (.tuple #[deV ((ownH H o kk).getD zDe),.bool (ownH H o kk).isSome])∧Below W.heap.size W w'):=fun W r=>pown_b (HLW.out W r) o HOR.out.1 HOR.out.2 kk hkl
      have HP2:Hid (∀W,Below wb.heap.size wb W→Calls Tryz.prog 19 #[stV ⟨oa,ol,oc⟩ .nil,.int .u64 o,.string kk] W fun e w'=>e = .returned (.tuple #[deV ((ownH H o kk).getD zDe),.bool (ownH H o kk).isSome])∧Below W.heap.size W w'):=fun W r=>rown_b (HLW.out W r) o HOR.out.1 HOR.out.2 kk hkl
      generalize (ownH H o kk).getD zDe=dz at HP1 HP2
      generalize (ownH H o kk).isSome=had at HP1 HP2
      obtain⟨wq,hwq⟩:∃wq,wq=wr.alloc (.cells #[.int .i64 kd,.int .u64 oo,.int .u64 op',.string kk,.int .i64 has,.int .u64 va,.int .u64 ge,.int .u64 se,.int .i64 fl,.int .u64 vv,.int .i64 nn] 37):=⟨_,rfl⟩
      have hxq:wq.heap[wr.heap.size]?=some (.cells #[.int .i64 kd,.int .u64 oo,.int .u64 op',.string kk,.int .i64 has,.int .u64 va,.int .u64 ge,.int .u64 se,.int .i64 fl,.int .u64 vv,.int .i64 nn] 37 (0,0)):=by rw[hwq];exact at_new _ _
      have HQ:Hid (Below wb.heap.size wb wq):=by rw[hwq];exact HV.out.alloc HV.out.size _
      have HXQ:=(show Hid _ from hxq)
      have hcq:∀j,wq.cell? ⟨wr.heap.size,j,none⟩=_:=fun j=>cell_of_row wq wr.heap.size j _ _ (0,0) hxq
      have g3:=hcq 3
      have HCI:Hid (i<cx.length):=c
      clear hc ha hmem hxq hcq HV c pli hkl
      go_upto_region 10 with fail
      rw[←hwq]
      clear hwq d0 d1 d2 d3 d4 d5 d6 d7 d8 d9 d10
      generalize wr.heap.size=bq at *
      simp only[List.getElem?_toArray,List.getElem?_cons_zero,List.getElem?_cons_succ] at g3
      have kw0:=HP1.out wq HQ.out
      unfold deV at kw0
      go_wp2_with fail
      refine kw0.mono ?_
      rintro e w5 ⟨rfl,hB5⟩
      have HQ5:=(show Hid (Below wb.heap.size wb (w5.alloc (.cells #[.int .u64 dz.va,.int .u64 dz.se,.int .i64 dz.fl] 41))) from (bel_sm' HQ.out hB5).alloc (bel_sm' HQ.out hB5).size _)
      have hx5:(w5.alloc (.cells #[.int .u64 dz.va,.int .u64 dz.se,.int .i64 dz.fl] 41)).heap[bq]?=some (.cells #[.int .i64 kd,.int .u64 oo,.int .u64 op',.string kk,.int .i64 has,.int .u64 va,.int .u64 ge,.int .u64 se,.int .i64 fl,.int .u64 vv,.int .i64 nn] 37 (0,0)):=by
       have z:=Below.block hB5 bq (Array.getElem?_eq_some_iff.1 HXQ.out).1
       have z2:=Below.block ((Below.refl w5.heap.size w5).alloc (Nat.le_refl _) (.cells #[.int .u64 dz.va,.int .u64 dz.se,.int .i64 dz.fl] 41)) bq (by have:=(Array.getElem?_eq_some_iff.1 (z.trans HXQ.out)).1;exact this)
       exact z2.trans (z.trans HXQ.out)
      have HX5:=(show Hid _ from hx5)
      have HE5:Hid ((w5.alloc (.cells #[.int .u64 dz.va,.int .u64 dz.se,.int .i64 dz.fl] 41)).heap[w5.heap.size]?=some (.cells #[.int .u64 dz.va,.int .u64 dz.se,.int .i64 dz.fl] 41 (0,0))):=at_new _ _
      clear hx5 hB5 kw0 HQ HXQ g3 HP1
      go_upto_region 11 with fail
      generalize w5.alloc (.cells #[.int .u64 dz.va,.int .u64 dz.se,.int .i64 dz.fl] 41)=w5a at *
      generalize w5.heap.size=b1 at *
      obtain⟨r0,r1⟩:=(HBS.out w5a HQ5.out).ce
      rw[show(SV.mk oa ol oc).val = .slice oa ol oc from rfl] at r0
      rw[show SV.nil.val = .slice none 0 0 from rfl] at r1
      have g3:=cell_of_row w5a bq 3 _ _ (0,0) HX5.out
      simp only[List.getElem?_toArray,List.getElem?_cons_zero,List.getElem?_cons_succ] at g3
      have kw1:=HP2.out w5a HQ5.out
      unfold deV stV at kw1
      rw[show(SV.mk oa ol oc).val = .slice oa ol oc from rfl,show SV.nil.val = .slice none 0 0 from rfl] at kw1
      go_wp2_with fail
      refine kw1.mono ?_
      rintro e w6 ⟨rfl,hB6⟩
      have HQ6:=(show Hid (Below wb.heap.size wb (w6.alloc (.cells #[.int .u64 dz.va,.int .u64 dz.se,.int .i64 dz.fl] 41))) from (bel_sm' HQ5.out hB6).alloc (bel_sm' HQ5.out hB6).size _)
      have hx6:(w6.alloc (.cells #[.int .u64 dz.va,.int .u64 dz.se,.int .i64 dz.fl] 41)).heap[b1]?=some (.cells #[.int .u64 dz.va,.int .u64 dz.se,.int .i64 dz.fl] 41 (0,0)):=by
       have z:=Below.block hB6 b1 (Array.getElem?_eq_some_iff.1 HE5.out).1
       have z2:=Below.block ((Below.refl w6.heap.size w6).alloc (Nat.le_refl _) (.cells #[.int .u64 dz.va,.int .u64 dz.se,.int .i64 dz.fl] 41)) b1 (by have:=(Array.getElem?_eq_some_iff.1 (z.trans HE5.out)).1;exact this)
       exact z2.trans (z.trans HE5.out)
      have HX6:=(show Hid _ from hx6)
      have HE6:Hid ((w6.alloc (.cells #[.int .u64 dz.va,.int .u64 dz.se,.int .i64 dz.fl] 41)).heap[w6.heap.size]?=some (.cells #[.int .u64 dz.va,.int .u64 dz.se,.int .i64 dz.fl] 41 (0,0))):=at_new _ _
      clear hx6 hB6 kw1 HQ5 HX5 HE5 g3 HP2 r0 r1
      go_upto_region 12 with fail
      generalize w6.alloc (.cells #[.int .u64 dz.va,.int .u64 dz.se,.int .i64 dz.fl] 41)=w6a at *
      generalize w6.heap.size=b2 at *
      have p0:=cell_of_row w6a b1 0 _ _ (0,0) HX6.out
      have p1:=cell_of_row w6a b1 1 _ _ (0,0) HX6.out
      have p2:=cell_of_row w6a b1 2 _ _ (0,0) HX6.out
      have q0:=cell_of_row w6a b2 0 _ _ (0,0) HE6.out
      have q1:=cell_of_row w6a b2 1 _ _ (0,0) HE6.out
      have q2:=cell_of_row w6a b2 2 _ _ (0,0) HE6.out
      simp only[List.getElem?_toArray,List.getElem?_cons_zero,List.getElem?_cons_succ] at p0 p1 p2 q0 q1 q2
      have hd1:(dz.va == dz.va)=true:=beq_self_eq_true _
      have hd2:(dz.se == dz.se)=true:=beq_self_eq_true _
      have hd3:(dz.fl == dz.fl)=true:=beq_self_eq_true _
      have hdh:(had != had)=false:=by simp
      clear HX6 HE6
      go_wp2_with fail
      refine⟨⟨i+1,⟨HCI.out,HQ6⟩,by go_num⟩,?_⟩
      have:=HCI.out
      simp[intOf]
      omega
     ·have hil:¬((i:Int)<cx.length):=by omega
      clear c
      go_wp2_with fail
      refine⟨⟨j+1,⟨HJ.out,HV⟩,by go_num⟩,?_⟩
      have:=HJ.out
      simp[intOf]
      omega
  ·have hjl:¬((j:Int)<ol):=by omega
   have HF:Hid (Below wi.heap.size wi wr):=HBW.out.trans (HW.out.mono HBW.out.size)
   clear c HW
   go_wp2_with fail
   go_ret
   exact⟨rfl,HF.out⟩
end
end Go.Proofs.YtahhionlbfhinaaGreatDoor.Hp
