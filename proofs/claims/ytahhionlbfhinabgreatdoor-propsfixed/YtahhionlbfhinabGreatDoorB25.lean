/- HZ, HS, HT, HQ, IB, IC, IP, IQ, IR, IS, IT, IU -/
import Derived.Test.YtahhionlbfhinabGreatDoorHY
import Derived.Test.YtahhionlbfhinabGreatDoorB9
import Derived.Test.YtahhionlbfhinabGreatDoorB8
import Derived.Test.YtahhionlbfhinabGreatDoorB16
import Derived.Test.YtahhionlbfhinabGreatDoorB6
import Derived.Laws.CopyOwn
import Derived.OwnWalk
import Derived.Deep.RegionLaw
import Derived.Laws.IdiomCopy
import Derived.Deep.Upon
import Derived.Lib.SliceRun
import Derived.Test.YtahhionlbfhinabGreatDoorB20
import Derived.ChangeMaps5
import Derived.Test.YtahhionlbfhinabGreatDoorB21
set_option linter.unusedVariables false
set_option linter.unusedSimpArgs false
set_option maxRecDepth 100000
set_option maxHeartbeats 40000000
namespace Go.Proofs.YtahhionlbfhinabGreatDoor.Hp
open Go.RowKit
section
variable {w w' w1 w5:World}{B hb:Nat}{O S:Nat→Prop}{H H':He}{M M':HV}{tg:Nat→Nat}
def elH (H:He)(i:Nat)(ob:Ob)(el:List Int):He:={ touchH H ob.cell with obs:=H.obs.set i { ob with el:=el } }
theorem setLen_no (h:HeapAt w B hb tg H M)(o:Int)(o0:0≤o)(o1:o<18446744073709551616){i:Nat}{ob:Ob}(ho:obI H o=some i)(hi:H.obs[i]?=some ob)(n:Int)(hn:n<0∨4096<n) :
  Calls Tryz.prog 93 #[.pointer (some ⟨hb,0,none⟩),.int .u64 o,.int .i64 n] w fun e w'=>e = .returned (.bool false)∧w'=w:=by
 obtain⟨g,cap,ov,hvo,_⟩:=h.obj hi
 have ka:=at_hit h o o0 o1 i g cap ho hvo
 clear h hi ho hvo
 rcases hn with c | c
 ·have c1:decide (n<0)=true:=decide_eq_true c
  go_enter Tryz.func93,Tryz.ntmps93
  go_wp2_with fail
  refine ka.mono ?_
  rintro e w2 ⟨rfl,rfl⟩
  clear ka
  go_wp2_with fail
  go_ret
  exact⟨rfl,rfl⟩
 ·have c1:decide (n<0)=false:=decide_eq_false (by omega)
  have c2:decide (4096<n)=true:=decide_eq_true c
  go_enter Tryz.func93,Tryz.ntmps93
  go_wp2_with fail
  refine ka.mono ?_
  rintro e w2 ⟨rfl,rfl⟩
  clear ka
  go_wp2_with fail
  go_ret
  exact⟨rfl,rfl⟩
theorem setLen_at (h:HeapAt w B hb tg H M)(o:Int)(o0:0≤o)(o1:o<18446744073709551616){i:Nat}{ob:Ob}(ho:obI H o=some i)(hi:H.obs[i]?=some ob)(n:Nat)(hn:n≤4096) :
  Calls Tryz.prog 93 #[.pointer (some ⟨hb,0,none⟩),.int .u64 o,.int .i64 (n:Int)] w fun e w'=>e = .returned (.bool true)∧∃M',WentM w B hb tg (elH H i ob (resL ob.el n)) M' w':=by
 obtain⟨g,cap,ov,hvo,hov,_⟩:=h.obj hi
 have ka:=at_hit h o o0 o1 i g cap ho hvo
 have kt:=touch_at h hi hvo
 have HA:Hid (∀w2,WentM w B hb tg (touchH H ob.cell) M w2→Calls Tryz.prog 99 #[.pointer (some ⟨g,i*12,none⟩),.int .i64 (n:Int)] w2 fun e w'=>e = .returned (.tuple #[])∧∃M',WentM w B hb tg (elH H i ob (resL ob.el n)) M' w'):=fun w2 q=>by
  obtain⟨tg2,p1,p2,p3⟩:=q
  refine(resize_at p1 hi hov hvo n hn).mono ?_
  rintro e w' ⟨rfl,ve,hq⟩
  exact⟨rfl,_,WentM.next p2 p3 hq⟩
 have c1:decide ((n:Int)<0)=false:=decide_eq_false (by omega)
 have c2:decide (4096<(n:Int))=false:=decide_eq_false (by omega)
 generalize elH H i ob (resL ob.el n)=HL at *
 generalize touchH H ob.cell=HT at *
 clear h hi ho hvo hov hn
 go_enter Tryz.func93,Tryz.ntmps93
 go_wp2_with fail
 refine ka.mono ?_
 rintro e w2 ⟨rfl,rfl⟩
 clear ka
 go_wp2_with fail
 refine kt.mono ?_
 rintro e w3 ⟨rfl,hw3⟩
 have kr:=HA.out w3 hw3
 clear kt hw3 HA
 go_wp2_with fail
 refine kr.mono ?_
 rintro e w4 ⟨rfl,M',hq⟩
 have HQ:=(show Hid _ from hq)
 clear kr hq
 go_wp2_with fail
 go_ret
 exact⟨rfl,M',HQ.out⟩
theorem setElem_no (h:HeapAt w B hb tg H M)(o:Int)(o0:0≤o)(o1:o<18446744073709551616){i:Nat}{ob:Ob}(ho:obI H o=some i)(hi:H.obs[i]?=some ob)(n v:Int)(hn:n<0∨4096≤n) :
  Calls Tryz.prog 72 #[.pointer (some ⟨hb,0,none⟩),.int .u64 o,.int .i64 n,.int .u64 v] w fun e w'=>e = .returned (.bool false)∧w'=w:=by
 obtain⟨g,cap,ov,hvo,_⟩:=h.obj hi
 have ka:=at_hit h o o0 o1 i g cap ho hvo
 clear h hi ho hvo
 rcases hn with c | c
 ·have c1:decide (n<0)=true:=decide_eq_true c
  go_enter Tryz.func72,Tryz.ntmps72
  go_wp2_with fail
  refine ka.mono ?_
  rintro e w2 ⟨rfl,rfl⟩
  clear ka
  go_wp2_with fail
  go_ret
  exact⟨rfl,rfl⟩
 ·have c1:decide (n<0)=false:=decide_eq_false (by omega)
  have c2:decide (4096≤n)=true:=decide_eq_true c
  go_enter Tryz.func72,Tryz.ntmps72
  go_wp2_with fail
  refine ka.mono ?_
  rintro e w2 ⟨rfl,rfl⟩
  clear ka
  go_wp2_with fail
  go_ret
  exact⟨rfl,rfl⟩
def setL (el:List Int)(n:Nat)(v:Int):List Int:=(if n<el.length then el else resL el (n+1)).set n v
theorem HeapAt.elput (h:HeapAt w B hb tg H M){i g cap n:Nat}{ob:Ob}(hi:H.obs[i]?=some ob)(hvo:M.vo=⟨some ⟨g,0,none⟩,H.obs.length,cap⟩)(hn:n<ob.el.length)(v:Int) :
  ∃ge ec u,w.cell? ⟨g,i*12+7,none⟩=some (.slice (some ⟨ge,0,none⟩) ob.el.length ec)∧w.cell? ⟨ge,n,none⟩=some (.int .u64 u)∧w.frozen? ⟨ge,n,none⟩=false∧(ob.el.length:Int)≤9223372036854775807∧WentM w B hb tg { H with obs:=H.obs.set i { ob with el:=ob.el.set n v } } M (w.setCell ⟨ge,n,none⟩ (.int .u64 v)):=by
 obtain⟨g',cap',ov,hvo',hov,t4,hne,hgl,hcell,hfz,_⟩:=h.obj hi
 have hvv:=hvo'
 rw[hvo] at hvv
 injection hvv with x1 x2 x3
 injection x1 with x1
 injection x1 with x1
 subst x1
 have d7:=hcell 7 _ rfl
 simp only at d7
 have hr:RowIn wC 1 24 B w _ ov.ve ob.el:=h.part hi hov 2 (by omega)
 obtain⟨q1,q2,q3,q4⟩:=hr.open rtW.len
 obtain⟨ge,e1,_,_,_,hc,hf⟩:=q4 (by intro e;rw[e] at hn;simp at hn)
 rcases hve:ov.ve with⟨ad,len,ec⟩
 rw[hve] at q1 q2 q3 e1 d7
 simp only at q1 q2 q3 e1
 subst q1 e1
 unfold SV.val at d7
 simp only at d7
 have dv:=hc n _ (List.getElem?_eq_getElem hn) 0 _ rfl
 simp only[Nat.mul_one,Nat.add_zero] at dv
 exact⟨ge,ec,_,d7,dv,hf n,by unfold maxLen at q3;omega,h.elst hi hov hve hn v⟩
theorem setElem_at (h:HeapAt w B hb tg H M)(o:Int)(o0:0≤o)(o1:o<18446744073709551616){i:Nat}{ob:Ob}(ho:obI H o=some i)(hi:H.obs[i]?=some ob)(n:Nat)(hn:n<4096)(v:Int) :
  Calls Tryz.prog 72 #[.pointer (some ⟨hb,0,none⟩),.int .u64 o,.int .i64 (n:Int),.int .u64 v] w fun e w'=>e = .returned (.bool true)∧∃M',WentM w B hb tg (elH H i ob (setL ob.el n v)) M' w':=by
 obtain⟨g,cap,ov,hvo,hov,_⟩:=h.obj hi
 have ka:=at_hit h o o0 o1 i g cap ho hvo
 have kt:=touch_at h hi hvo
 have hil:i<H.obs.length:=(List.getElem?_eq_some_iff.1 hi).1
 have c1:decide ((n:Int)<0)=false:=decide_eq_false (by omega)
 have c2:decide (4096≤(n:Int))=false:=decide_eq_false (by omega)
 have HLEN:Hid (∀w2,WentM w B hb tg (touchH H ob.cell) M w2→∃ad ec,w2.cell? ⟨g,i*12+7,none⟩=some (.slice ad ob.el.length ec)):=fun w2 q=>by
  obtain⟨tg2,p1,p2,p3⟩:=q
  obtain⟨g',cap',ov',hvo',hov',t4,hne,hgl,hcell,hfz,_⟩:=p1.obj (ob:=ob) hi
  have hvv:=hvo'
  rw[hvo] at hvv
  injection hvv with x1 x2 x3
  injection x1 with x1
  injection x1 with x1
  subst x1
  have d7:=hcell 7 _ rfl
  have hr:RowIn wC 1 24 B w2 _ ov'.ve ob.el:=p1.part (ob:=ob) hi hov' 2 (by omega)
  obtain⟨q1,_⟩:=hr.open rtW.len
  unfold SV.val at d7
  simp only at d7
  rw[q1] at d7
  exact⟨_,_,d7⟩
 by_cases c:n<ob.el.length
 ·have HA:Hid (∀w2,WentM w B hb tg (touchH H ob.cell) M w2→∃ge ec u,w2.cell? ⟨g,i*12+7,none⟩=some (.slice (some ⟨ge,0,none⟩) ob.el.length ec)∧w2.cell? ⟨ge,n,none⟩=some (.int .u64 u)∧w2.frozen? ⟨ge,n,none⟩=false∧(ob.el.length:Int)≤9223372036854775807∧∃M',WentM w B hb tg (elH H i ob (setL ob.el n v)) M' (w2.setCell ⟨ge,n,none⟩ (.int .u64 v))):=fun w2 q=>by
   obtain⟨tg2,p1,p2,p3⟩:=q
   obtain⟨ge,ec,u,a1,a2,a3,a4,a5⟩:=p1.elput (ob:=ob) hi hvo c v
   have e:elH H i ob (setL ob.el n v)={ touchH H ob.cell with obs:=(touchH H ob.cell).obs.set i { ob with el:=ob.el.set n v } }:=by
    unfold elH setL
    rw[if_pos c]
    rfl
   rw[e]
   exact⟨ge,ec,u,a1,a2,a3,a4,M,WentM.next p2 p3 a5⟩
  have c3:decide ((ob.el.length:Int)≤(n:Int))=false:=decide_eq_false (by omega)
  have c4:(n:Int)<(ob.el.length:Int):=by omega
  generalize elH H i ob (setL ob.el n v)=HL at *
  generalize touchH H ob.cell=HT at *
  generalize ob.el.length=len at *
  clear h hi ho hvo hov hn hil c HLEN
  go_enter Tryz.func72,Tryz.ntmps72
  go_wp2_with fail
  refine ka.mono ?_
  rintro e w2 ⟨rfl,rfl⟩
  clear ka
  go_wp2_with fail
  refine kt.mono ?_
  rintro e w3 ⟨rfl,hw3⟩
  obtain⟨ge,ec,u,a1,a2,a3,a4,a5⟩:=HA.out w3 hw3
  have HA5:=(show Hid _ from a5)
  clear kt hw3 HA a5
  go_wp2_with fail
  go_ret
  obtain⟨M',hq⟩:=HA5.out
  exact⟨rfl,M',hq⟩
 ·have HA:Hid (∀w2,WentM w B hb tg (touchH H ob.cell) M w2→Calls Tryz.prog 99 #[.pointer (some ⟨g,i*12,none⟩),.int .i64 ((n+1:Nat):Int)] w2 fun e w'=>e = .returned (.tuple #[])∧∃ge ec u,w'.cell? ⟨g,i*12+7,none⟩=some (.slice (some ⟨ge,0,none⟩) (n+1) ec)∧w'.cell? ⟨ge,n,none⟩=some (.int .u64 u)∧w'.frozen? ⟨ge,n,none⟩=false∧∃M',WentM w B hb tg (elH H i ob (setL ob.el n v)) M' (w'.setCell ⟨ge,n,none⟩ (.int .u64 v))):=fun w2 q=>by
   obtain⟨tg2,p1,p2,p3⟩:=q
   refine(resize_at p1 hi hov hvo (n+1) (by omega)).mono ?_
   rintro e w' ⟨rfl,ve,tg3,r1,r2,r3⟩
   have hi1:({ touchH H ob.cell with obs:=(touchH H ob.cell).obs.set i { ob with el:=resL ob.el (n+1) } }:He).obs[i]?=some { ob with el:=resL ob.el (n+1) }:=List.getElem?_set_self hil
   have hvo1:({ M with ovs:=M.ovs.set i { ov with ve:=ve } }:HV).vo=⟨some ⟨g,0,none⟩,({ touchH H ob.cell with obs:=(touchH H ob.cell).obs.set i { ob with el:=resL ob.el (n+1) } }:He).obs.length,cap⟩:=by
    simp only[List.length_set]
    exact hvo
   obtain⟨ge,ec,u,a1,a2,a3,a4,a5⟩:=r1.elput (n:=n) hi1 hvo1 (by rw[show({ ob with el:=resL ob.el (n+1) }:Ob).el=resL ob.el (n+1) from rfl,resL_len];omega) v
   simp only[resL_len,List.set_set] at a1 a5
   have e:elH H i ob (setL ob.el n v)={ touchH H ob.cell with obs:=(touchH H ob.cell).obs.set i { ob with el:=(resL ob.el (n+1)).set n v } }:=by
    unfold elH setL
    rw[if_neg c]
    rfl
   rw[e]
   exact⟨rfl,ge,ec,u,a1,a2,a3,_,WentM.next p2 p3 (WentM.next r2 r3 a5)⟩
  have c3:decide ((ob.el.length:Int)≤(n:Int))=true:=decide_eq_true (by omega)
  have c4:(ob.el.length:Int)≤(n:Int):=by omega
  have hw1:IntKind.i64.wrap ((n:Int)+1)=((n+1:Nat):Int):=by rw[IntKind.wrap_i64];omega
  have hn1:(n:Int)<((n+1:Nat):Int):=by omega
  have hn2:((n+1:Nat):Int)≤9223372036854775807:=by omega
  generalize elH H i ob (setL ob.el n v)=HL at *
  generalize touchH H ob.cell=HT at *
  generalize ob.el.length=len at *
  clear h hi ho hvo hov hn hil c
  generalize hnn:n+1=n1 at *
  clear hnn
  go_enter Tryz.func72,Tryz.ntmps72
  go_wp2_with fail
  refine ka.mono ?_
  rintro e w2 ⟨rfl,rfl⟩
  clear ka
  go_wp2_with fail
  refine kt.mono ?_
  rintro e w3 ⟨rfl,hw3⟩
  obtain⟨ad,ec0,a0⟩:=HLEN.out w3 hw3
  have kr:=HA.out w3 hw3
  clear kt hw3 HA HLEN
  go_wp2_with fail
  refine kr.mono ?_
  rintro e w4 ⟨rfl,ge,ec,u,a1,a2,a3,a5⟩
  have HA5:=(show Hid _ from a5)
  clear kr a5 a0
  go_wp2_with fail
  go_ret
  obtain⟨M',hq⟩:=HA5.out
  exact⟨rfl,M',hq⟩
end
section
variable {w w' w1:World}{B hb:Nat}{O S:Nat→Prop}{H H':He}{M M':HV}{tg:Nat→Nat}
end
section
variable {w w' w1:World}{B hb:Nat}{O S:Nat→Prop}{H H':He}{M M':HV}{tg:Nat→Nat}
end
end Go.Proofs.YtahhionlbfhinabGreatDoor.Hp
namespace Go.Proofs.YtahhionlbfhinabGreatDoor.Hp
open Go.RowKit
section
variable {w w' w1 w5:World}{B hb:Nat}{O S:Nat→Prop}{H H':He}{M M':HV}{tg:Nat→Nat}
end
def setAll:Array Value→Nat→List Value→Array Value
 | cur,_,[]=>cur
 | cur,o,v :: vs=>setAll (cur.setIfInBounds o v) (o+1) vs
theorem setAll_size:∀(vs:List Value)(cur:Array Value)(o:Nat),(setAll cur o vs).size=cur.size
 | [],cur,o=>rfl
 | v :: vs,cur,o=>by
   rw[setAll,setAll_size vs,Array.size_setIfInBounds]
theorem setAll_take:∀(vs:List Value)(cur:Array Value)(o:Nat),o+vs.length≤cur.size→(setAll cur o vs).toList.take (o+vs.length)=cur.toList.take o++vs
 | [],cur,o,h=>by simp[setAll]
 | v :: vs,cur,o,h=>by
   rw[List.length_cons] at h
   rw[setAll,List.length_cons,show o+(vs.length+1)=(o+1)+vs.length by omega,setAll_take vs _ (o+1) (by rw[Array.size_setIfInBounds];omega),Array.toList_setIfInBounds]
   have hl:o<cur.toList.length:=by rw[Array.length_toList];omega
   rw[List.take_add_one,List.getElem?_set_self hl,List.take_set_of_le (Nat.le_refl _)]
   simp
theorem setAll_before:∀(vs:List Value)(cur:Array Value)(o n:Nat),n≤o→(setAll cur o vs).toList.take n=cur.toList.take n
 | [],cur,o,n,h=>rfl
 | v :: vs,cur,o,n,h=>by
   rw[setAll,setAll_before vs _ (o+1) n (by omega),Array.toList_setIfInBounds,List.take_set_of_le h]
theorem heap_setCells (b:Nat)(t:TypeId):∀(vs:List Value)(o:Nat)(w:World)(cur:Array Value),w.heap[b]?=some (.cells cur t (0,0))→(w.setCells b o vs).heap[b]?=some (.cells (setAll cur o vs) t (0,0))
 | [],o,w,cur,h=>h
 | v :: vs,o,w,cur,h=>heap_setCells b t vs (o+1) _ _ (heap_setCell_same w b o cur t v h)
theorem chg_setCells (b:Nat):∀(vs:List Value)(o:Nat)(w:World),Chg (fun k=>k=b) w (w.setCells b o vs)
 | [],o,w=>Chg.refl _ _
 | v :: vs,o,w=>(Chg.set (S:=fun k=>k=b) w ⟨b,o,none⟩ v rfl).trans (chg_setCells b vs (o+1) _) (fun _ _ q=>q)
theorem erase_flat {ps:List Pr}{a:Nat}(ha:a<ps.length):(ps.eraseIdx a).flatMap prC=(ps.take a).flatMap prC++(ps.drop (a+1)).flatMap prC:=by
 rw[List.eraseIdx_eq_take_drop_succ,List.flatMap_append]
theorem del_row {B:Nat}{w:World}{gl cap a:Nat}{ps:List Pr}(h:OwnR prC 5 116 B w (.slice (some ⟨gl,0,none⟩) ps.length cap) ps)(ha:a<ps.length)(zs:List Value)(hz:zs.length=5) :
  OwnR prC 5 116 B ((w.setCells gl (a*5) ((ps.drop (a+1)).flatMap prC)).setCells gl ((ps.length - 1)*5) zs) (.slice (some ⟨gl,0,none⟩) (ps.length - 1) cap) (ps.eraseIdx a):=by
 rcases h.2 with⟨h1,_⟩ | ⟨g',cap',cur,h1,hb,hg,hn,hc,hs,ht⟩
 ·cases h1
 ·cases h1
  have hnl:((ps.drop (a+1)).flatMap prC).length=(ps.length - (a+1))*5:=by rw[flat_len rtPr.len,List.length_drop]
  have hfit:a*5+((ps.drop (a+1)).flatMap prC).length≤cur.size:=by
   rw[hnl,hs]
   have:a*5+(ps.length - (a+1))*5=(ps.length - 1)*5:=by rw[←Nat.add_mul];congr 1;omega
   rw[this]
   exact Nat.mul_le_mul_right _ (by omega)
  have h1:=heap_setCells gl _ ((ps.drop (a+1)).flatMap prC) (a*5) w cur hg
  have h2:=heap_setCells gl _ zs ((ps.length - 1)*5) _ _ h1
  have hel:(ps.eraseIdx a).length=ps.length - 1:=List.length_eraseIdx_of_lt ha
  refine⟨by rw[flat_len rtPr.len],Or.inr ⟨gl,cap,_,by rw[hel],hb,h2,by rw[hel];omega,hc,by rw[setAll_size,setAll_size];exact hs,?_⟩⟩
  rw[hel,setAll_before _ _ _ _ (Nat.le_refl _)]
  have e:(ps.length - 1)*5=a*5+((ps.drop (a+1)).flatMap prC).length:=by
   rw[hnl,←Nat.add_mul]
   congr 1
   omega
  rw[e,setAll_take _ _ _ hfit,erase_flat ha]
  congr 1
  have h3:cur.toList.take (a*5)=(cur.toList.take (ps.length*5)).take (a*5):=by
   rw[List.take_take,Nat.min_eq_left (Nat.mul_le_mul_right _ (by omega))]
  rw[h3,ht]
  have h4:ps.flatMap prC=(ps.take a).flatMap prC++(ps.drop a).flatMap prC:=by rw[←List.flatMap_append,List.take_append_drop]
  rw[h4,List.take_append_of_le_length (by rw[flat_len rtPr.len,List.length_take];omega),List.take_of_length_le (by rw[flat_len rtPr.len,List.length_take];omega)]
def zPr:List Value:=[.string ⟨#[]⟩,.int .i64 0,.int .u64 0,.int .u64 0,.int .i64 0]
theorem run_clear_pr (w:World)(ty:TypeId)(b o c:Nat)(hc:∀j,j<5→(w.cell? ⟨b,o+j,none⟩).isSome=true)(hf:∀j,j<5→w.frozen? ⟨b,o+j,none⟩=false) :
  (Builtin.clear_ #[91] ty #[.slice (some ⟨b,o,none⟩) 1 c]).run Tryz.prog w = .ok (.tuple #[]) (w.setCells b o zPr):=by
 have hst:=run_storeCells_cells (P:=Tryz.prog) b o zPr 0 w (fun j hj=>by simpa using hc j hj) (fun j hj=>by simpa using hf j hj) (by decide)
 simp only[Nat.add_zero] at hst
 have hv:∀w,(zeroValue 116).run Tryz.prog w = .ok (.agg #[.string ⟨#[]⟩,.int .i64 0,.int .u64 0,.int .u64 0,.int .i64 0]) w:=by
  intro w
  have hz:Tryz.t116.zero=some (.agg #[.string ⟨#[]⟩,.int .i64 0,.int .u64 0,.int .u64 0,.int .i64 0]):=by kernel_rfl
  simp[zeroValue,hz]
 have hzc:(Builtin.zeroCells (Value.agg #[.string ⟨#[]⟩,.int .i64 0,.int .u64 0,.int .u64 0,.int .i64 0]).cells 1).toList=zPr:=by kernel_rfl
 simp[Builtin.clear_,run_underlying rtPr.und,hv,hzc,hst]
theorem flat_get {ps:List Pr}{j:Nat}{u:Value}(h:(ps.flatMap prC)[j]?=some u):∃p,ps[j / 5]?=some p∧(prC p)[j % 5]?=some u:=by
 induction ps generalizing j with
 | nil=>simp at h
 | cons p ps ih =>
   rw[List.flatMap_cons] at h
   by_cases hj:j<5
   ·rw[List.getElem?_append_left (by rw[rtPr.len];exact hj)] at h
    exact⟨p,by rw[Nat.div_eq_of_lt hj];rfl,by rw[Nat.mod_eq_of_lt hj];exact h⟩
   ·rw[List.getElem?_append_right (by rw[rtPr.len];omega),rtPr.len] at h
    obtain⟨q,h1,h2⟩:=ih h
    refine⟨q,?_,?_⟩
    ·rw[show j / 5=(j - 5) / 5+1 by omega,List.getElem?_cons_succ]
     exact h1
    ·rw[show j % 5=(j - 5) % 5 by omega]
     exact h2
theorem delete_at {B:Nat}{w:World}{gl cap a:Nat}{ps:List Pr}(h:OwnR prC 5 116 B w (.slice (some ⟨gl,0,none⟩) ps.length cap) ps)(ha:a<ps.length) :
  Calls Tryz.prog 115 #[.slice (some ⟨gl,0,none⟩) ps.length cap,.int .i64 a,.int .i64 ((a:Int)+1)] w fun e w'=>e = .returned (.slice (some ⟨gl,0,none⟩) (ps.length - 1) cap)∧w'=(w.drew.setCells gl (a*5) ((ps.drop (a+1)).flatMap prC)).setCells gl ((ps.length - 1)*5) zPr:=by
 have hcl:∀i y,ps[i]?=some y→∀(j:Nat) (u:Value),(prC y)[j]?=some u→w.cell? ⟨gl,i*5+j,none⟩=some u:=fun i y hi j u hj=>OwnR.at' rtPr.len h hi hj
 have hfz:∀n,w.frozen? ⟨gl,n,none⟩=false:=fun n=>h.fz n
 have hsome:∀n,n<ps.length*5→(w.cell? ⟨gl,n,none⟩).isSome=true:=by
  intro n hn
  have h1:n / 5<ps.length:=by omega
  have h2:n % 5<5:=Nat.mod_lt _ (by decide)
  rw[show n=n / 5*5+n % 5 by omega,hcl (n / 5) ps[n / 5] (List.getElem?_eq_getElem h1) (n % 5) ((prC ps[n / 5])[n % 5]'(by rw[rtPr.len];exact h2)) (List.getElem?_eq_getElem _)]
  rfl
 obtain⟨i0,hi0,hz0,hz1,hz2⟩:=info_parts (P:=Tryz.prog) (t:=116) (z := .agg #[.string ⟨#[]⟩,.int .i64 0,.int .u64 0,.int .u64 0,.int .i64 0]) (s:=5) (b:=48) (by kernel_rfl)
 obtain⟨hnl,hcap⟩:ps.length≤cap∧cap≤maxLen:=by
  rcases h.2 with⟨h1,_⟩ | ⟨g',cap',cur,h1,hb,hg,hn,hc,hs,ht⟩
  ·cases h1
  ·cases h1
   exact⟨hn,hc⟩
 obtain⟨news,hnews⟩:∃news,news=(ps.drop (a+1)).flatMap prC:=⟨_,rfl⟩
 have hlen:news.length=(ps.length - (a+1))*5:=by rw[hnews,flat_len rtPr.len,List.length_drop]
 have hm:(cap:Int)≤9223372036854775807:=by unfold maxLen at hcap;omega
 obtain⟨A,hA,hsrc⟩:∃A:Addr,(if cap=a+1 then some (⟨gl,0,none⟩:Addr) else some ⟨gl,(a+1)*5,none⟩)=some A∧Hid (∀t u,news[t]?=some u→w.drew.cell? (A.add t)=some u):=by
  by_cases hh:cap=a+1
  ·refine⟨⟨gl,0,none⟩,by simp[hh],fun t u hu => ?_⟩
   have h0:news.length=0:=by rw[hlen,show ps.length - (a+1)=0 by omega]
   rw[List.length_eq_zero_iff.1 h0] at hu
   simp at hu
  ·refine⟨⟨gl,(a+1)*5,none⟩,by simp[hh],fun t u hu => ?_⟩
   rw[hnews] at hu
   obtain⟨p,h1,h2⟩:=flat_get hu
   rw[List.getElem?_drop] at h1
   have h3:=hcl _ _ h1 _ _ h2
   rw[Addr.add_lit]
   show w.cell? _=_
   rw[show(a+1)*5+t=(a+1+t / 5)*5+t % 5 by omega]
   exact h3
 have s1:Hid (news.length=(ps.length - (a+1))*5):=hlen
 have s2:Hid (∀u∈news,u.oneCell'=true):=by
  intro u hu
  rw[hnews] at hu
  obtain⟨x,_,hx⟩:=List.mem_flatMap.1 hu
  exact rtPr.one x u hx
 have s3:Hid (∀t,t<news.length→(w.drew.cell? ⟨gl,0+a*5+t,none⟩).isSome=true∧w.drew.frozen? ⟨gl,0+a*5+t,none⟩=false):=by
  intro t ht
  rw[hlen] at ht
  exact⟨hsome _ (by omega),hfz _⟩
 obtain⟨W1,hW1⟩:∃W1,W1=w.drew.setCells gl (0+a*5) news:=⟨_,rfl⟩
 have hclr:∀ty,(Builtin.clear_ #[91] ty #[.slice (some ⟨gl,(ps.length - 1)*5,none⟩) 1 (cap - (ps.length - 1))]).run Tryz.prog W1 = .ok (.tuple #[]) (W1.setCells gl ((ps.length - 1)*5) zPr):=by
  intro ty
  refine run_clear_pr W1 ty gl _ _ (fun j hj => ?_) (fun j hj => ?_)
  ·rw[hW1,World.cell?_setCells_out gl _ _ _ _ (fun hb _=>Or.inr (by show 0+a*5+news.length≤(ps.length - 1)*5+j;rw[hlen];omega))]
   exact hsome _ (by omega)
  ·rw[hW1,World.frozen?_setCells]
   exact hfz _
 have hW:Hid (W1=w.drew.setCells gl (0+a*5) news):=hW1
 have hN:Hid (news=(ps.drop (a+1)).flatMap prC):=hnews
 have hac:a≤cap:=by omega
 have hjc:a+1≤cap:=by omega
 have hp0:(0:Int)≤(a:Int)+1:=by omega
 have hp1:(a:Int)+1≤(ps.length:Int):=by omega
 have hp2:((a:Int)+1).toNat=a+1:=by omega
 have hne:¬((a:Int)=(a:Int)+1):=by omega
 clear hW1 hnews hlen hcl hfz hsome h
 generalize ps.length=L at *
 obtain⟨n,rfl⟩:∃n,L=n+1:=⟨L - 1,by omega⟩
 have han:a≤n:=by omega
 have s1':Hid (news.length=(n - a)*5):=(show news.length=(n - a)*5 by rw[s1.out,Nat.add_sub_add_right])
 have hll:Hid (a+(n - a)=n):=(show a+(n - a)=n by omega)
 simp only[Nat.add_sub_cancel] at hclr ⊢
 have hcn:¬cap=n:=by omega
 have hcn2:¬cap - n=0:=by omega
 have hnc:n≤cap:=by omega
 go_enter Tryz.func115,Tryz.ntmps115
 go_wp2_with fail
 go_region_law (refine step_append_room rfl (.tmp 22) (.tmp 25) 91 rfl 116 i0 5 Tryz.underlying91 hi0 hz1 gl 0 a cap (by simp[Act.eval,Act.put]) A (n - a) (cap - (a+1)) news (by simp[Act.eval,Act.put]) s1'.out hsrc.out s2.out (by omega) s3.out ?_;rw[←hW.out,hll.out])
 go_wp2
 all_goals go_ret
 all_goals (refine⟨rfl,?_⟩)
 all_goals (rw[hW.out,hN.out,Nat.zero_add])
theorem era_map {α β:Type}(f:α→β):∀(l:List α)(j:Nat),(l.eraseIdx j).map f=(l.map f).eraseIdx j
 | [],_=>rfl
 | _ :: _,0=>rfl
 | x :: l,j+1=>by simp[era_map f l j]
theorem MpIs.del {w:World}{mb:Nat}{k:IntKind}{b:List (ByteArray×Int)}{mt et:TypeId}(h:MpIs w mb k b)(hw:BkOk b)(hu:Tryz.prog.underlying mt=some (.map 9 et)){nm:ByteArray}{c:Int}{a:Nat}(hn:nm.size≤maxLen)(ha:b[a]?=some (nm,c)) :
  ∃w',(∀ty,(Builtin.delete_ #[mt,9] ty #[.map (some mb),.string nm]).run Tryz.prog w = .ok (.tuple #[]) w')∧MpIs w' mb k (b.eraseIdx a)∧w.grownBy w' (some mb)∧w'.heap.size=w.heap.size:=by
 obtain⟨es,clock,hb,he⟩:=h
 have hz:=key_of hn
 rcases key_law.find w hz es.toList (ent_keys hw he) with⟨f1,f2⟩ | ⟨j,e,f1,f2,f3⟩
 ·have h1:=congrArg (·[a]?) he
  simp only[List.getElem?_map,ha,Option.map_some] at h1
  cases hq:es.toList[a]? with
  | none=>rw[hq] at h1;simp at h1
  | some e =>
    rw[hq] at h1
    simp at h1
    exact absurd h1.1 (f2 e (List.mem_of_getElem? hq))
 ·obtain⟨x,h1,h1j,h2,h3⟩:=ent_at he j e f2
  have hx:x.1=nm:=by rw[h2] at f3;simpa using f3
  have hja:j=a:=by
   have hjl:j<(b.map Prod.fst).length:=by
    have:=(List.getElem?_eq_some_iff.1 h1j).1
    simpa using this
   refine(List.getElem?_inj hjl hw.nd).1 ?_
   rw[List.getElem?_map,List.getElem?_map,h1j,ha]
   simp[hx]
  subst hja
  have hjs:j<es.size:=by
   have:=(List.getElem?_eq_some_iff.1 f2).1
   simpa using this
  refine⟨ChangeMaps.setBlock w mb (.map (es.eraseIdxIfInBounds j) clock),fun ty => ?_,⟨_,_,ChangeMaps.heap_setBlock_same hb _,?_⟩,⟨rfl,rfl,rfl,by simp[ChangeMaps.setBlock],fun i _ hi=>ChangeMaps.heap_setBlock_other hb _ (fun e=>hi (by rw[e]))⟩,by simp[ChangeMaps.setBlock]⟩
  ·simp[Builtin.delete_,run_underlying hu,MapKept.run_getObj_map hb,key_law.check w _ hz,f1,MapKept.run_setObj_map _ hb,Result.andThen,ChangeMaps.setBlock]
  ·unfold Array.eraseIdxIfInBounds
   rw[dif_pos hjs,Array.toList_eraseIdx,era_map,he,era_map]
section
variable {w w' w1:World}{B hb:Nat}{O S:Nat→Prop}{H H':He}{M M':HV}{tg:Nat→Nat}
theorem HeapAt.mdel (h:HeapAt w B hb tg H M){i mb:Nat}{ob:Ob}{ov:OV}(hi:H.obs[i]?=some ob)(hv:M.ovs[i]?=some ov)(hvm:ov.vm=some mb)(hok:BkOk ob.mp){a:Nat}{k:ByteArray}{c:Int}(hk:k.size≤maxLen)(ha:ob.mp[a]?=some (k,c)) :
  ∃w',(∀ty,(Builtin.delete_ #[92,9] ty #[.map (some mb),.string k]).run Tryz.prog w = .ok (.tuple #[]) w')∧Chg (fun b=>b=mb) w w'∧WentM w B hb tg { H with obs:=H.obs.set i { ob with mp:=ob.mp.eraseIdx a } } M w':=by
 have hwf:=h.wf.ob ob (List.mem_of_getElem? hi)
 have hp:=h.part hi hv 1 (by omega)
 obtain⟨ht,hmp⟩:=hp.2 mb hvm
 have ht:tg mb=7+4*i+1:=ht
 obtain⟨w',r1,r2,r3,r4⟩:=hmp.del hok Tryz.underlying92 hk ha
 have hil:i<H.obs.length:=(List.getElem?_eq_some_iff.1 hi).1
 have hc:Chg (fun b=>tg b=7+4*i+1) w w':=Chg.of_grown r3 (fun k q=>by cases q;exact ht)
 refine⟨w',r1,Chg.of_grown r3 (fun k q=>by cases q;rfl),h.wentM (k0:=7+4*i+1) hc (fun b _ q=>by omega) ?_⟩
 refine h.up (H':={ H with obs:=H.obs.set i { ob with mp:=ob.mp.eraseIdx a } }) (M':=M) hc (fun kj=>kj=7+4*i+1) (7+4*i+1) (fun b _ q=>⟨q,by omega⟩) (fun kj q => ?_) (fun kj O q hk => ?_) (by simp only[List.length_set];exact h.len) ⟨?_,by simp only[List.length_set];exact h.wf.ol,h.wf.tn,h.wf.ts,h.wf.tl,h.wf.mo,h.wf.br⟩
 ·subst q
  rw[show 7+4*i+1=(4*i+1)+7 by omega]
  intro ob1 ov1 e1 e2
  rw[show(4*i+1) / 4=i by omega] at e1 e2
  rw[show(4*i+1) % 4=1 by omega]
  have e1':(H.obs.set i { ob with mp:=ob.mp.eraseIdx a })[i]?=some ob1:=e1
  rw[List.getElem?_set_self hil] at e1'
  have e2':M.ovs[i]?=some ov1:=e2
  rw[hv] at e2'
  cases e1'
  cases e2'
  refine⟨hp.1,fun mb' e => ?_⟩
  rw[hvm] at e
  cases e
  refine⟨?_,r2⟩
  show rtg _ _ _ _ _=_
  rw[rtg_old (h.lt mb (by omega)).2]
  omega
 ·match kj,hk,q with
  | 0,hk,q=>trivial
  | 1,hk,q=>exact hk
  | 2,hk,q=>exact hk
  | 3,hk,q=>exact hk
  | 4,hk,q =>
    refine⟨?_,hk.2⟩
    show OwnR obC 12 _ B _ M.vo.val ((H.obs.set i { ob with mp:=ob.mp.eraseIdx a }).zip M.ovs)
    have hz:(H.obs.set i { ob with mp:=ob.mp.eraseIdx a }).zip M.ovs=(H.obs.zip M.ovs).set i ({ ob with mp:=ob.mp.eraseIdx a },ov):=by
     conv=>lhs;rw[←set_self hv]
     rw[zip_set]
    rw[hz]
    exact OwnR.congr hk.1 (by simp) (flat_same (enc:=obC) (y:=(ob,ov)) (y':=({ ob with mp:=ob.mp.eraseIdx a },ov)) rfl _ i (zip_at hi hv))
  | 5,hk,q=>exact hk
  | 6,hk,q=>exact hk
  | k'+7,hk,q =>
    intro ob1 ov1 e1 e2
    have e1':(H.obs.set i { ob with mp:=ob.mp.eraseIdx a })[k' / 4]?=some ob1:=e1
    by_cases c2:i=k' / 4
    ·rw[←c2,List.getElem?_set_self hil] at e1'
     cases e1'
     have e2':M.ovs[i]?=some ov1:=by rw[c2];exact e2
     rw[hv] at e2'
     cases e2'
     have hk2:=hk ob ov (by rw[←c2];exact hi) (by rw[←c2];exact hv)
     have hne:k' % 4≠1:=fun e=>q (by omega)
     generalize k' % 4=c4 at *
     match c4,hk2,hne with
     | 0,hk2,_=>exact hk2
     | 1,_,hne=>exact absurd rfl hne
     | 2,hk2,_=>exact hk2
     | _+3,hk2,_=>exact hk2
    ·rw[List.getElem?_set_ne c2] at e1'
     exact hk ob1 ov1 e1' e2
 ·intro o ho
  rcases List.mem_or_eq_of_mem_set ho with q | q
  ·exact h.wf.ob o q
  ·rw[q]
   exact⟨hwf.kd,hwf.pr,hwf.ks,hwf.fl,hwf.nx,hwf.el,hwf.inn⟩
end
theorem step_delete {P:Program}{ops:Array Oper}{o:Oper}{a:Act}{w w1:World}{K:Act→World→Prop}{Q:Exit→Act→World→Prop}{E:Prop}
  (hg:o.guard=none) (s x:Operand) (t k:TypeId) (hop:o.op=Op.call { callee:=Callee.builtin Builtin.delete,args:=#[s,x],argTypes:=#[t,k] })
  (vm vk:Value) (hs:a.eval s=vm) (hx:a.eval x=vk) (hrun:∀ty,(Builtin.delete_ #[t,k] ty #[vm,vk]).run P w = .ok (.tuple #[]) w1)
  (hK:K (a.put o.dst (.tuple #[])) w1):if Region.wanted o (yielded ops a.tmps)=true then Oper.wp P o a w K Q else E:=by
 have hw:Region.wanted o (yielded ops a.tmps)=true:=by simp[Region.wanted,hg]
 rw[if_pos hw]
 unfold Oper.wp
 simp[execOp,hop,resolve,invoke,builtin,hs,hx,hrun,Result.andThen]
 exact hK
theorem drop_walk (w w1 w2:World)(g off gl a n cap:Nat)(vm:Option Nat)(k:ByteArray)(ha:a<n)(hn:n≤2000000000001)
  (c0:w.cell? ⟨g,off,none⟩=some (.slice (some ⟨gl,0,none⟩) n cap)) (c1:w.cell? ⟨g,off+1,none⟩=some (.map vm)) (ck:w.cell? ⟨gl,a*5,none⟩=some (.string k))
  (hrun:∀ty,(Builtin.delete_ #[92,9] ty #[.map vm,.string k]).run Tryz.prog w.drew = .ok (.tuple #[]) w1)
  (d0:w1.cell? ⟨g,off,none⟩=some (.slice (some ⟨gl,0,none⟩) n cap))
  (kdel:Calls Tryz.prog 115 #[.slice (some ⟨gl,0,none⟩) n cap,.int .i64 a,.int .i64 ((a:Int)+1)] w1 (fun e w'=>e = .returned (.slice (some ⟨gl,0,none⟩) (n - 1) cap)∧w'=w2))
  (e0:w2.cell? ⟨g,off,none⟩=some (.slice (some ⟨gl,0,none⟩) n cap)) (f0:w2.frozen? ⟨g,off,none⟩=false) :
  Calls Tryz.prog 100 #[.pointer (some ⟨g,off,none⟩),.int .i64 a] w fun e w'=>e = .returned (.tuple #[])∧w'=w2.setCell ⟨g,off,none⟩ (.slice (some ⟨gl,0,none⟩) (n - 1) cap):=by
 have HR:Hid (∀ty,(Builtin.delete_ #[92,9] ty #[.map vm,.string k]).run Tryz.prog w.drew = .ok (.tuple #[]) w1):=hrun
 have hwr:IntKind.i64.wrap ((a:Int)+1)=(a:Int)+1:=by rw[IntKind.wrap_i64];omega
 have h1:(0:Int)≤(a:Int):=by omega
 have h2:(a:Int)<(n:Int):=by omega
 clear hrun
 go_enter Tryz.func100,Tryz.ntmps100
 go_wp2_with fail
 go_region_law (refine step_delete rfl (.tmp 7) (.tmp 15) 92 9 rfl (.map vm) (.string k) (by simp[Act.eval]) (by simp[Act.eval]) HR.out ?_)
 all_goals (go_wp2_with (go_at_call 115;refine kdel.mono ?_;rintro e w5 ⟨rfl,rfl⟩))
 all_goals go_end0
 all_goals exact⟨rfl,rfl⟩
section
variable {w w' w1:World}{B hb:Nat}{O S:Nat→Prop}{H H':He}{M M':HV}{tg:Nat→Nat}
theorem HeapAt.ldel (h:HeapAt w B hb tg H M){i g cap gl lcap a:Nat}{ob:Ob}{ov:OV}(hi:H.obs[i]?=some ob)(hv:M.ovs[i]?=some ov)(hvo:M.vo=⟨some ⟨g,0,none⟩,H.obs.length,cap⟩)(hvl:ov.vl=⟨some ⟨gl,0,none⟩,ob.ps.length,lcap⟩)(ha:a<ob.ps.length)
  {w2:World} (hw2:w2=(w.drew.setCells gl (a*5) ((ob.ps.drop (a+1)).flatMap prC)).setCells gl ((ob.ps.length - 1)*5) zPr) :
  w2.cell? ⟨g,i*12+4,none⟩=some (.slice (some ⟨gl,0,none⟩) ob.ps.length lcap)∧w2.frozen? ⟨g,i*12+4,none⟩=false ∧
  WentM w B hb tg { H with obs:=H.obs.set i { ob with ps:=ob.ps.eraseIdx a } } { M with ovs:=M.ovs.set i { ov with vl:=⟨some ⟨gl,0,none⟩,ob.ps.length - 1,lcap⟩ } } (w2.setCell ⟨g,i*12+4,none⟩ (.slice (some ⟨gl,0,none⟩) (ob.ps.length - 1) lcap)):=by
 have hwf:=h.wf.ob ob (List.mem_of_getElem? hi)
 obtain⟨c0,_,_,hfz,hgl,t4⟩:=h.tab hi hv hvo
 have hr:RowIn prC 5 _ B w _ ov.vl ob.ps:=h.part hi hv 0 (by omega)
 have hr1:=hr.1
 have ht:=hr.2
 rw[hvl] at hr1 ht c0
 unfold SV.val at hr1 ht
 simp only at hr1 ht c0
 have htg:tg gl=7+4*i+0:=ht gl rfl
 have hr2:=hr1.below ((Below.refl w.heap.size w).drew)
 have q1:=del_row hr2 ha zPr rfl
 rw[←hw2] at q1
 have hc1:Chg (fun k=>k=gl) w w2:=by
  rw[hw2]
  exact(((Chg.refl (fun k=>k=gl) w).drew).trans (chg_setCells gl _ _ _) (fun _ _ q=>q)).trans (chg_setCells gl _ _ _) (fun _ _ q=>q)
 have hc:Chg (fun b=>tg b=7+4*i+0) w w2:=hc1.mono (fun k q=>by rw[q];exact htg)
 have hng:¬g=gl:=fun q=>by rw[q] at t4;omega
 have hel:(ob.ps.eraseIdx a).length=ob.ps.length - 1:=List.length_eraseIdx_of_lt ha
 refine⟨hc1.cell c0 hng,by rw[World.frozen?_of_block (w:=w) (hc1.block g hgl hng)];exact hfz _,?_⟩
 obtain⟨p1,p2⟩:=h.put hi hv hvo 0 (by omega) hc { ob with ps:=ob.ps.eraseIdx a } { ov with vl:=⟨some ⟨gl,0,none⟩,ob.ps.length - 1,lcap⟩ } (j:=4) (u := .slice (some ⟨gl,0,none⟩) (ob.ps.length - 1) lcap) (by omega) rfl (fun O o1 o2=>by
  refine⟨q1,fun b q => ?_⟩
  have hbg:b=gl:=by simpa [SV.val,Value.ownBlock] using q.symm
  subst hbg
  exact o1 b (h.lt b (by omega)).2 htg) (fun c' W' O' c4 cn q=>by
  match c',q with
  | 0,q=>exact absurd rfl cn
  | 1,q=>exact q
  | 2,q=>exact q
  | _+3,q=>exact q) ⟨hwf.kd,hwf.pr,fun p hp=>hwf.ks p (List.mem_of_mem_eraseIdx hp),fun p hp=>hwf.fl p (List.mem_of_mem_eraseIdx hp),⟨hwf.nx.1,hwf.nx.2.1,by simp only[hel];have:=hwf.nx.2.2;omega⟩,hwf.el,hwf.inn⟩
 refine⟨_,p1,p2.mono (fun b q=>by show tg b≠0;omega),fun b q => ?_⟩
 by_cases c:b<w.heap.size
 ·rw[rtg_old c] at q
  exact Or.inl q
 ·exact Or.inr (by omega)
def Ob.less (o:Ob)(a:Nat):Ob:={ o with ps:=o.ps.eraseIdx a,mp:=if o.hm=true then o.mp.eraseIdx a else o.mp }
theorem drop_at (h:HeapAt w B hb tg H M){i g cap a:Nat}{ob:Ob}(hi:H.obs[i]?=some ob)(hvo:M.vo=⟨some ⟨g,0,none⟩,H.obs.length,cap⟩)(hnt:ob.neat)(ha:a<ob.ps.length) :
  Calls Tryz.prog 100 #[.pointer (some ⟨g,i*12+4,none⟩),.int .i64 a] w fun e w'=>e = .returned (.tuple #[])∧∃M',M'.vo=M.vo∧WentM w B hb tg { H with obs:=H.obs.set i (ob.less a) } M' w':=by
 obtain⟨_,_,ov,_,hov,_⟩:=h.obj hi
 have hwf:=h.wf.ob ob (List.mem_of_getElem? hi)
 have hil:i<H.obs.length:=(List.getElem?_eq_some_iff.1 hi).1
 obtain⟨c0,c1,_,hfz,hgl,t4⟩:=h.tab hi hov hvo
 have hr:RowIn prC 5 _ B w _ ov.vl ob.ps:=h.part hi hov 0 (by omega)
 obtain⟨q1,q2,q3,q4⟩:=hr.open rtPr.len
 obtain⟨gl,hgl2,_,_,_,hcl,_⟩:=q4 (fun e=>by rw[e] at ha;simp at ha)
 have hvl:ov.vl=⟨some ⟨gl,0,none⟩,ob.ps.length,ov.vl.cap⟩:=by rw[←hgl2,←q1]
 have hp:ob.ps[a]?=some ob.ps[a]:=List.getElem?_eq_getElem ha
 have ck:w.cell? ⟨gl,a*5,none⟩=some (.string ob.ps[a].key):=hcl a _ hp 0 _ rfl
 have hks:=hwf.ks _ (List.mem_of_getElem? hp)
 have hlen:ob.ps.length≤2000000000001:=by have:=hwf.nx.2.2;omega
 have hd:HeapAt w.drew B hb tg H M:=h.below ((Below.refl _ _).drew)
 obtain⟨w1,hrun,hW1⟩:∃w1,(∀ty,(Builtin.delete_ #[92,9] ty #[.map ov.vm,.string ob.ps[a].key]).run Tryz.prog w.drew = .ok (.tuple #[]) w1)∧WentM w.drew B hb tg { H with obs:=H.obs.set i { ob with mp:=if ob.hm=true then ob.mp.eraseIdx a else ob.mp } } M w1:=by
  have hpt:=h.part hi hov 1 (by omega)
  have hsm:ov.vm.isSome=ob.hm:=hpt.1
  cases hvm:ov.vm with
  | none =>
    rw[hvm] at hsm
    have hm:¬ob.hm=true:=by rw[←hsm];simp
    rw[if_neg hm]
    refine⟨w.drew,fun ty=>ChangeMaps.run_delete_nil Tryz.underlying92 Tryz.underlying9 _,tg,?_,Chg.refl _ _,fun b q=>Or.inl q⟩
    have e:H.obs.set i { ob with mp:=ob.mp }=H.obs:=set_self hi
    rw[e]
    exact hd
  | some mb =>
    rw[hvm] at hsm
    have hm:ob.hm=true:=by rw[←hsm];rfl
    rw[if_pos hm]
    have hmp:=hnt.mp hm
    obtain⟨w1,r1,_,r3⟩:=hd.mdel hi hov hvm (by rw[hmp];exact camd_ok hnt.kn hwf.ks) (a:=a) (k:=ob.ps[a].key) (c:=ob.ps[a].came) hks (by rw[hmp];unfold camd;rw[List.getElem?_map,hp];rfl)
    exact⟨w1,r1,r3⟩
 obtain⟨tg1,h1,p2,p3⟩:=hW1
 have hi1:({ H with obs:=H.obs.set i { ob with mp:=if ob.hm=true then ob.mp.eraseIdx a else ob.mp } }:He).obs[i]?=some { ob with mp:=if ob.hm=true then ob.mp.eraseIdx a else ob.mp }:=List.getElem?_set_self hil
 have hvo1:M.vo=⟨some ⟨g,0,none⟩,({ H with obs:=H.obs.set i { ob with mp:=if ob.hm=true then ob.mp.eraseIdx a else ob.mp } }:He).obs.length,cap⟩:=by simp only[List.length_set];exact hvo
 obtain⟨d0,_⟩:=h1.tab hi1 hov hvo1
 have hr1:RowIn prC 5 _ B w1 _ ov.vl ob.ps:=h1.part hi1 hov 0 (by omega)
 have hr2:=hr1.1
 rw[hvl] at hr2 d0
 rw[hvl] at c0
 obtain⟨e0,f0,hW2⟩:=h1.ldel hi1 hov hvo1 hvl ha rfl
 have kdel:=delete_at hr2 ha
 simp only at d0 e0 f0 hW2 c0
 refine(drop_walk w w1 _ g (i*12+4) gl a ob.ps.length ov.vl.cap ov.vm ob.ps[a].key ha hlen c0 c1 ck hrun d0 kdel e0 f0).mono ?_
 rintro e w' ⟨rfl,rfl⟩
 have hW3:=WentM.behind ((Below.refl w.heap.size w).drew) (WentM.next p2 p3 hW2)
 simp only[List.set_set] at hW3
 refine⟨rfl,_,?_,hW3⟩
 rfl
end
def dropH (H:He)(i:Nat)(ob:Ob)(n:Nat):He:={ touchH H ob.cell with obs:=H.obs.set i (ob.less n).lost }
section
variable {w w' w1:World}{B hb:Nat}{O S:Nat→Prop}{H H':He}{M M':HV}{tg:Nat→Nat}
theorem drop_miss (h:HeapAt w B hb tg H M)(o:Int)(o0:0≤o)(o1:o<18446744073709551616){i:Nat}{ob:Ob}(ho:obI H o=some i)(hi:H.obs[i]?=some ob)(hnt:ob.neat)(k:ByteArray)(hk:k.size≤maxLen)(hno:plc ob.ps k=none) :
  Calls Tryz.prog 73 #[.pointer (some ⟨hb,0,none⟩),.int .u64 o,.string k] w fun e w'=>e = .returned (.bool false)∧Below w.heap.size w w':=by
 obtain⟨g,cap,ov,hvo,hov,_⟩:=h.obj hi
 have ka:=at_hit h o o0 o1 i g cap ho hvo
 have kf:=(show FindB _ _ _ _ _ from find_any (ob:=ob) h hi hvo hnt k hk)
 rw[hno] at kf
 unfold FindB at kf
 rw[show nOf none=0 from rfl] at kf
 simp only[Option.isSome_none] at kf
 clear h ho hi hnt hk hno hvo hov
 go_enter Tryz.func73,Tryz.ntmps73
 go_wp2_with fail
 refine ka.mono ?_
 rintro e w2 ⟨rfl,rfl⟩
 clear ka
 go_wp2_with fail
 refine kf.mono ?_
 rintro e w3 ⟨rfl,hB⟩
 have HB:=(show Hid _ from hB)
 clear kf hB
 go_wp2_with fail
 go_ret
 exact⟨rfl,HB.out⟩
theorem drop_hit (h:HeapAt w B hb tg H M)(o:Int)(o0:0≤o)(o1:o<18446744073709551616){i:Nat}{ob:Ob}(ho:obI H o=some i)(hi:H.obs[i]?=some ob)(hnt:ob.neat)(k:ByteArray)(hk:k.size≤maxLen){n:Nat}(hn:plc ob.ps k=some n) :
  Calls Tryz.prog 73 #[.pointer (some ⟨hb,0,none⟩),.int .u64 o,.string k] w fun e w'=>e = .returned (.bool true)∧∃M',M'.vo=M.vo∧WentM w B hb tg (dropH H i ob n) M' w':=by
 obtain⟨g,cap,ov,hvo,hov,_⟩:=h.obj hi
 have hil:i<H.obs.length:=(List.getElem?_eq_some_iff.1 hi).1
 have ka:=at_hit h o o0 o1 i g cap ho hvo
 have kf:=(show FindB _ _ _ _ _ from find_any (ob:=ob) h hi hvo hnt k hk)
 obtain⟨⟨p,hp,_⟩,_⟩:=plc_some hn
 have hnl:n<ob.ps.length:=(List.getElem?_eq_some_iff.1 hp).1
 rw[hn] at kf
 unfold FindB at kf
 rw[show nOf (some n)=(n:Int) from rfl] at kf
 simp only[Option.isSome_some] at kf
 have HT:Hid (∀w2,Below w.heap.size w w2→Calls Tryz.prog 98 #[.pointer (some ⟨hb,0,none⟩),.pointer (some ⟨g,i*12,none⟩)] w2 (fun e w3=>e = .returned (.tuple #[]) ∧
   Calls Tryz.prog 100 #[.pointer (some ⟨g,i*12+4,none⟩),.int .i64 n] w3 (fun e w4=>e = .returned (.tuple #[]) ∧
   Calls Tryz.prog 101 #[.pointer (some ⟨g,i*12,none⟩)] w4 (fun e w5=>e = .returned (.tuple #[])∧∃M',M'.vo=M.vo∧WentM w B hb tg (dropH H i ob n) M' w5)))):=fun w2 hB=>by
  refine(touch_at (h.below hB) hi hvo).mono ?_
  rintro e w3 ⟨rfl,tg3,h3,s1,s2⟩
  refine⟨rfl,(drop_at (ob:=ob) h3 hi hvo hnt hnl).mono ?_⟩
  rintro e w4 ⟨rfl,M4,hM4,tg4,h4,s3,s4⟩
  have hi4:({ touchH H ob.cell with obs:=(touchH H ob.cell).obs.set i (ob.less n) }:He).obs[i]?=some (ob.less n):=List.getElem?_set_self hil
  refine⟨rfl,(lose_at h4 hi4 (g:=g) (cap:=cap) (by rw[hM4];simp only[List.length_set];exact hvo)).mono ?_⟩
  rintro e w5 ⟨rfl,hq⟩
  refine⟨rfl,M4,hM4,?_⟩
  simp only[List.set_set] at hq
  exact WentM.behind hB (WentM.next s1 s2 (WentM.next s3 s4 hq))
 generalize dropH H i ob n=HN at *
 clear h ho hi hnt hk hn hvo hov hil hp hnl
 go_enter Tryz.func73,Tryz.ntmps73
 go_wp2_with fail
 refine ka.mono ?_
 rintro e w2 ⟨rfl,rfl⟩
 clear ka
 go_wp2_with fail
 refine kf.mono ?_
 rintro e w3 ⟨rfl,hB⟩
 have kt:=HT.out w3 hB
 clear kf hB HT
 go_wp2_with fail
 refine kt.mono ?_
 rintro e w4 ⟨rfl,kd⟩
 clear kt
 go_wp2_with fail
 refine kd.mono ?_
 rintro e w5 ⟨rfl,kl⟩
 clear kd
 go_wp2_with fail
 refine kl.mono ?_
 rintro e w6 ⟨rfl,hq⟩
 have HQ:=(show Hid _ from hq)
 clear kl hq
 go_wp2_with fail
 go_ret
 exact⟨rfl,HQ.out⟩
end
end Go.Proofs.YtahhionlbfhinabGreatDoor.Hp
