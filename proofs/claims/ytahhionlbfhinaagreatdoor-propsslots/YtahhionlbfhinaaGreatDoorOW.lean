/- HM, VB, XO, YK2 -/
import Derived.Test.YtahhionlbfhinaaGreatDoorB9
import Derived.Laws.Bits128
import Derived.Test.YtahhionlbfhinaaGreatDoorB23
import Derived.Test.YtahhionlbfhinaaGreatDoorB11
import Derived.Test.YtahhionlbfhinaaGreatDoorB25
import Derived.Test.YtahhionlbfhinaaGreatDoorB40
import Derived.Test.YtahhionlbfhinaaGreatDoorB38
set_option linter.unusedVariables false
set_option linter.unusedSimpArgs false
set_option maxRecDepth 100000
set_option maxHeartbeats 40000000
namespace Go.Proofs.YtahhionlbfhinaaGreatDoor.Hp
open Go.RowKit
section
variable {w w' w1:World}{B hb:Nat}{O S:Nat→Prop}{H H':He}{M M':HV}{tg:Nat→Nat}
theorem shape_at (h:HeapAt w B hb tg H M)(o:Int)(o0:0≤o)(o1:o<18446744073709551616){i:Nat}{ob:Ob}(ho:obI H o=some i)(hi:H.obs[i]?=some ob) :
  Calls Tryz.prog 25 #[.pointer (some ⟨hb,0,none⟩),.int .u64 o] w fun e w'=>e = .returned (.tuple #[.int .i64 ob.shape,.bool ob.shaped])∧Below w.heap.size w w':=by
 obtain⟨g,cap,ov,hvo,hov,t4,hne,hgl,hcell,hfz,hl1,hl2,hrow⟩:=h.obj hi
 have ka:=at_hit h o o0 o1 i g cap ho hvo
 have d9:=hcell 9 _ rfl
 have d10:=hcell 10 _ rfl
 simp only at d9 d10
 generalize ob.shape=sh at *
 generalize ob.shaped=ok at *
 clear h hi ho hvo hov t4 hne hgl hcell hfz hl1 hl2 hrow
 go_enter Tryz.func25,Tryz.ntmps25
 go_wp2_with fail
 refine ka.mono ?_
 rintro e w2 ⟨rfl,rfl⟩
 clear ka
 go_wp2_with fail
 go_region
 all_goals
  go_wp2_with fail
  go_ret2
  exact⟨rfl,(Below.refl _ _).drew⟩
theorem findS_at (h:HeapAt w B hb tg H M)(n:Int)(k:ByteArray) :
  Calls Tryz.prog 26 #[.pointer (some ⟨hb,0,none⟩),.int .i64 n,.string k] w fun e w'=>e = .returned (.tuple #[.int .i64 (Sp.slotI (Sp.findR H.L n k)),.int .i64 (Sp.flagI (Sp.findR H.L n k)),.bool (Sp.findR H.L n k).isSome])∧Below w.heap.size w w':=by
 have km:=made_at h
 obtain⟨c0,c1,c2,c3,c4,c5,fz⟩:=h.box
 obtain⟨Ot,ht,hO⟩:=h.prt 5
 have kf:=Sp.find_any w B M.tb Ot H.most H.L ht n k
 generalize Sp.slotI (Sp.findR H.L n k)=a at *
 generalize Sp.flagI (Sp.findR H.L n k)=b at *
 generalize (Sp.findR H.L n k).isSome=c at *
 clear h c0 c1 c2 c4 c5 fz hO ht
 go_enter Tryz.func26,Tryz.ntmps26
 go_wp2_with fail
 refine km.mono ?_
 rintro e w2 ⟨rfl,rfl⟩
 clear km
 go_wp2_with fail
 refine kf.mono ?_
 rintro e w3 ⟨rfl,h3⟩
 clear kf
 go_wp2_with fail
 refine bodyPost_ret (v := .tuple #[.int .i64 a,.int .i64 b,.bool c]) (by simp[results,Tryz.results26,go_sem]) rfl ?_
 exact⟨rfl,h3⟩
end
end Go.Proofs.YtahhionlbfhinaaGreatDoor.Hp
namespace Go.Proofs.YtahhionlbfhinaaGreatDoor.Hp
open Go.RowKit
section
variable {w w' w1:World}{B hb:Nat}{O S:Nat→Prop}{H H':He}{M M':HV}{tg:Nat→Nat}
theorem has_at (h:HeapAt w B hb tg H M){i g cap:Nat}{ob:Ob}(hi:H.obs[i]?=some ob)(hvo:M.vo=⟨some ⟨g,0,none⟩,H.obs.length,cap⟩)(n:Int) :
  Calls Tryz.prog 78 #[.pointer (some ⟨g,i*12+4,none⟩),.int .i64 n] w fun e w'=>e = .returned (.bool (decide (0≤n) && decide (n<(ob.ps.length:Int))))∧w'=w:=by
 obtain⟨g',cap',ov,hvo',hov,t4,hne,hgl,hcell,hfz,hl1,hl2,hrow⟩:=h.obj hi
 rw[hvo] at hvo'
 injection hvo' with e1 e2 e3
 injection e1 with e1
 injection e1 with e1
 subst e1
 have d4:=hcell 4 _ rfl
 have hr:RowIn prC 5 _ B w _ ov.vl ob.ps:=h.part hi hov 0 (by omega)
 obtain⟨q1,q2,q3,q4⟩:=hr.open rtPr.len
 unfold SV.val at d4
 simp only at d4
 rw[q1] at d4
 generalize ob.ps.length=len at *
 generalize ov.vl.ad=ad at *
 generalize ov.vl.cap=cp at *
 clear h hi hvo hov t4 hne hgl hcell hfz hl1 hl2 hrow e2 e3 hr q1 q2 q3 q4
 by_cases c:0≤n
 ·by_cases c2:n<(len:Int)
  ·rw[decide_eq_true c,decide_eq_true c2]
   have k2:decide (n<(len:Int))=true:=decide_eq_true c2
   go_enter Tryz.func78,Tryz.ntmps78
   go_wp2_with fail
   go_ret
   exact⟨rfl,rfl⟩
  ·rw[decide_eq_true c,decide_eq_false c2]
   have k2:decide (n<(len:Int))=false:=decide_eq_false c2
   go_enter Tryz.func78,Tryz.ntmps78
   go_wp2_with fail
   go_ret
   exact⟨rfl,rfl⟩
 ·rw[decide_eq_false c]
  have k1:decide (0≤n)=false:=decide_eq_false c
  simp only[Bool.false_and]
  go_enter Tryz.func78,Tryz.ntmps78
  go_wp2_with fail
  go_ret
  exact⟨rfl,rfl⟩
def slotO (H:He)(o n:Int):Option Pr:=(obO H o).bind (fun ob=>if 0≤n then ob.ps[n.toNat]? else none)
theorem slot_any (h:HeapAt w B hb tg H M)(o:Int)(o0:0≤o)(o1:o<18446744073709551616)(n:Int)(hn:n≤9223372036854775807) :
  Calls Tryz.prog 28 #[.pointer (some ⟨hb,0,none⟩),.int .u64 o,.int .i64 n] w fun e w'=>e = .returned (.tuple #[deV (((slotO H o n).map Pr.de).getD zDe),.bool (slotO H o n).isSome])∧Below w.heap.size w w':=by
 obtain⟨wb,hwb⟩:∃wb,wb=w.alloc (.cells #[.int .u64 0,.int .u64 0,.int .i64 0] 41):=⟨_,rfl⟩
 have hB:Below w.heap.size w wb:=by rw[hwb];exact(Below.refl _ _).alloc (Nat.le_refl _) _
 have hbx:wb.heap[w.heap.size]?=some (.cells #[.int .u64 0,.int .u64 0,.int .i64 0] 41 (0,0)):=by rw[hwb];exact at_new _ _
 have h2:=h.below hB
 cases hq:obO H o with
 | none =>
   have ka:=at_miss h2 o o0 o1 (obO_none hq)
   have e:slotO H o n=none:=by unfold slotO;rw[hq];rfl
   rw[e]
   simp only[Option.map_none,Option.getD_none,Option.isSome_none]
   have HBX:Hid (wb.heap[w.heap.size]?=some (.cells #[.int .u64 0,.int .u64 0,.int .i64 0] 41 (0,0))):=hbx
   have HBL:Hid (Below w.heap.size w wb):=hB
   have b0:=cell_of_row wb w.heap.size 0 _ _ (0,0) hbx
   have b1:=cell_of_row wb w.heap.size 1 _ _ (0,0) hbx
   have b2:=cell_of_row wb w.heap.size 2 _ _ (0,0) hbx
   have f0:=frozen_of_row wb w.heap.size 0 _ _ hbx
   have f1:=frozen_of_row wb w.heap.size 1 _ _ hbx
   have f2:=frozen_of_row wb w.heap.size 2 _ _ hbx
   have s0:=heap_setCell_same wb w.heap.size 0 _ _ (.int .u64 0) hbx
   have s1:=heap_setCell_same _ w.heap.size 1 _ _ (.int .u64 0) s0
   have s2:=heap_setCell_same _ w.heap.size 2 _ _ (.int .i64 0) s1
   have HS:=(show Hid _ from s2)
   have HBS:Hid (Below w.heap.size w (((wb.setCell ⟨w.heap.size,0,none⟩ (.int .u64 0)).setCell ⟨w.heap.size,1,none⟩ (.int .u64 0)).setCell ⟨w.heap.size,2,none⟩ (.int .i64 0))):=((hB.setCell (by simp) _).setCell (by simp) _).setCell (by simp) _
   clear h h2 hq hB hbx e s0 s1 s2
   unfold deV zDe
   go_enter Tryz.func28,Tryz.ntmps28
   go_upto_region 1 with fail
   rw[←hwb]
   clear hwb
   go_wp2_with fail
   refine ka.mono ?_
   rintro e w2 ⟨rfl,rfl⟩
   clear ka
   go_wp2_with fail
   refine bodyPost_ret (res2 rfl _ _ w.heap.size 41 _ (0,0) _ rfl HS.out Tryz.underlying41 rfl (by kernel_rfl)) rfl ?_
   exact⟨rfl,HBS.out⟩
 | some ob =>
   obtain⟨i,ho,hi⟩:=obO_some hq
   obtain⟨g,cap,ov,hvo,hov,t4,hne,hgl,hcell,hfz,hl1,hl2,hrow⟩:=h2.obj hi
   have ka:=at_hit h2 o o0 o1 i g cap ho hvo
   have kh:=has_at h2 hi hvo n
   have hr:RowIn prC 5 _ B wb _ ov.vl ob.ps:=h2.part hi hov 0 (by omega)
   obtain⟨q1,q2,q3,q4⟩:=hr.open rtPr.len
   by_cases c:0≤n∧n<(ob.ps.length:Int)
   ·obtain⟨m,hm⟩:∃m:Nat,n=(m:Int):=⟨n.toNat,by omega⟩
    subst hm
    have hml:m<ob.ps.length:=by omega
    obtain⟨p,hp⟩:∃p,ob.ps[m]?=some p:=⟨_,List.getElem?_eq_getElem hml⟩
    have e:slotO H o (m:Int)=some p:=by unfold slotO;rw[hq];simp only[Option.bind_some,if_pos c.1,Int.toNat_natCast];exact hp
    rw[e]
    simp only[Option.map_some,Option.getD_some,Option.isSome_some]
    rw[decide_eq_true c.1,decide_eq_true c.2] at kh
    simp only[Bool.and_self] at kh
    obtain⟨gl,e1,_,_,_,hc,_⟩:=q4 (by intro e;rw[e] at hml;simp at hml)
    have hnl2:(m:Int)<(ob.ps.length:Int):=c.2
    have hlim:(ob.ps.length:Int)≤9223372036854775807:=by unfold maxLen at q3;omega
    have d4:=hcell 4 _ rfl
    unfold SV.val at d4
    simp only at d4
    rw[q1,e1] at d4
    have m2:=hc m p hp 2 _ rfl
    have m3:=hc m p hp 3 _ rfl
    have m4:=hc m p hp 4 _ rfl
    have b0:=cell_of_row wb w.heap.size 0 _ _ (0,0) hbx
    have b1:=cell_of_row wb w.heap.size 1 _ _ (0,0) hbx
    have b2:=cell_of_row wb w.heap.size 2 _ _ (0,0) hbx
    have f0:=frozen_of_row wb w.heap.size 0 _ _ hbx
    have f1:=frozen_of_row wb w.heap.size 1 _ _ hbx
    have f2:=frozen_of_row wb w.heap.size 2 _ _ hbx
    have s0:=heap_setCell_same wb w.heap.size 0 _ _ (.int .u64 p.de.va) hbx
    have s1:=heap_setCell_same _ w.heap.size 1 _ _ (.int .u64 p.de.se) s0
    have s2:=heap_setCell_same _ w.heap.size 2 _ _ (.int .i64 p.de.fl) s1
    have HS:=(show Hid _ from s2)
    have HBS:Hid (Below w.heap.size w (((wb.setCell ⟨w.heap.size,0,none⟩ (.int .u64 p.de.va)).setCell ⟨w.heap.size,1,none⟩ (.int .u64 p.de.se)).setCell ⟨w.heap.size,2,none⟩ (.int .i64 p.de.fl))):=((hB.setCell (by simp) _).setCell (by simp) _).setCell (by simp) _
    unfold deV
    obtain⟨pk,pc,pv,ps',pf⟩:=p
    simp only at *
    generalize ob.ps.length=len at *
    generalize ov.vl.cap=cp at *
    clear h h2 hq hB hbx e s0 s1 s2 ho hi hvo hov t4 hne hgl hcell hfz hl1 hl2 hrow hr q1 q2 q3 q4 hc hml hp e1 c
    go_enter Tryz.func28,Tryz.ntmps28
    go_upto_region 1 with fail
    rw[←hwb]
    clear hwb
    go_wp2_with fail
    refine ka.mono ?_
    rintro e w2 ⟨rfl,rfl⟩
    clear ka
    go_wp2_with fail
    refine kh.mono ?_
    rintro e w2 ⟨rfl,rfl⟩
    clear kh
    go_wp2_with fail
    refine bodyPost_ret (res2 rfl _ _ w.heap.size 41 _ (0,0) _ rfl HS.out Tryz.underlying41 rfl (by kernel_rfl)) rfl ?_
    exact⟨rfl,HBS.out⟩
   ·have e:slotO H o n=none:=by
     unfold slotO
     rw[hq]
     simp only[Option.bind_some]
     split
     ·exact List.getElem?_eq_none (by omega)
     ·rfl
    rw[e]
    simp only[Option.map_none,Option.getD_none,Option.isSome_none]
    have hf:(decide (0≤n) && decide (n<(ob.ps.length:Int)))=false:=by
     rw[Bool.and_eq_false_iff,decide_eq_false_iff_not,decide_eq_false_iff_not]
     omega
    rw[hf] at kh
    have b0:=cell_of_row wb w.heap.size 0 _ _ (0,0) hbx
    have b1:=cell_of_row wb w.heap.size 1 _ _ (0,0) hbx
    have b2:=cell_of_row wb w.heap.size 2 _ _ (0,0) hbx
    have f0:=frozen_of_row wb w.heap.size 0 _ _ hbx
    have f1:=frozen_of_row wb w.heap.size 1 _ _ hbx
    have f2:=frozen_of_row wb w.heap.size 2 _ _ hbx
    have s0:=heap_setCell_same wb w.heap.size 0 _ _ (.int .u64 0) hbx
    have s1:=heap_setCell_same _ w.heap.size 1 _ _ (.int .u64 0) s0
    have s2:=heap_setCell_same _ w.heap.size 2 _ _ (.int .i64 0) s1
    have HS:=(show Hid _ from s2)
    have HBS:Hid (Below w.heap.size w (((wb.setCell ⟨w.heap.size,0,none⟩ (.int .u64 0)).setCell ⟨w.heap.size,1,none⟩ (.int .u64 0)).setCell ⟨w.heap.size,2,none⟩ (.int .i64 0))):=((hB.setCell (by simp) _).setCell (by simp) _).setCell (by simp) _
    clear h h2 hq hB hbx e s0 s1 s2 ho hi hvo hov t4 hne hgl hcell hfz hl1 hl2 hrow hr q1 q2 q3 q4 c hf
    unfold deV zDe
    go_enter Tryz.func28,Tryz.ntmps28
    go_upto_region 1 with fail
    rw[←hwb]
    clear hwb
    go_wp2_with fail
    refine ka.mono ?_
    rintro e w2 ⟨rfl,rfl⟩
    clear ka
    go_wp2_with fail
    refine kh.mono ?_
    rintro e w2 ⟨rfl,rfl⟩
    clear kh
    go_wp2_with fail
    refine bodyPost_ret (res2 rfl _ _ w.heap.size 41 _ (0,0) _ rfl HS.out Tryz.underlying41 rfl (by kernel_rfl)) rfl ?_
    exact⟨rfl,HBS.out⟩
end
end Go.Proofs.YtahhionlbfhinaaGreatDoor.Hp
namespace Go.Proofs.YtahhionlbfhinaaGreatDoor.Hp
open Go.RowKit
section
variable {w wr w':World}{X Y:Nat→Prop}{hb bs:Nat}{H:He}{S:List So}{vo:SV}{n:Nat}
theorem rarray_b (h:LawP w wr X hb bs H S vo n)(o:Int)(o0:0≤o)(o1:o<18446744073709551616) :
  Calls Tryz.prog 24 #[stV vo .nil,.int .u64 o] wr fun e w'=>e = .returned (.bool (((soO S o).map (fun x=>x.kind == 1)).getD false))∧Below wr.heap.size wr w':=by
 obtain⟨tgH,tgS,M,qs,h⟩:=h.two
 exact rarray_o h.st .nil o o0 o1
theorem pown_b (h:LawP w wr X hb bs H S vo n)(o:Int)(o0:0≤o)(o1:o<18446744073709551616)(k:ByteArray)(hk:k.size≤maxLen) :
  Calls Tryz.prog 18 #[.pointer (some ⟨hb,0,none⟩),.int .u64 o,.string k] wr fun e w'=>e = .returned (.tuple #[deV ((ownH H o k).getD zDe),.bool (ownH H o k).isSome])∧Below wr.heap.size wr w':=pown_e h.two h.ord o o0 o1 k hk
end
end Go.Proofs.YtahhionlbfhinaaGreatDoor.Hp
namespace Go.Proofs.YtahhionlbfhinaaGreatDoor.Hp
open Go.RowKit
section
variable {H H':He}{S S':List So}{ts:List ByteArray}{o o2:Int}{k k2:ByteArray}{i:Nat}{ob:Ob}{x y:So}{d:De}{n:Nat}
theorem shape_slot (hs:ShO H.L ob)(hsd:ob.shaped=true)(k:ByteArray) :
  ∃s,Sp.shOf H.L ob.shape=some s∧Sp.idx s.ks k=plc ob.ps k∧∀m,plc ob.ps k=some m→∃p,ob.ps[m]?=some p∧s.fs[m]?=some p.de.fl∧getO ob k=some p.de:=by
 obtain⟨s,a,b,c,e⟩:=hs hsd
 refine⟨s,a,by rw[c];exact plc_idx,fun m hm => ?_⟩
 obtain⟨⟨p,h1,h2⟩,_⟩:=plc_some hm
 refine⟨p,h1,by rw[e,List.getElem?_map,h1];rfl,?_⟩
 unfold getO
 rw[hm]
 simp only[Option.bind_some,h1,Option.map_some]
end
end Go.Proofs.YtahhionlbfhinaaGreatDoor.Hp
