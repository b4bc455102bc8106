/- HZ, HS, HT, HQ, IB, IC, IP, IQ -/
import Derived.Test.YtahhionlbfhinaaGreatDoorHY
import Derived.Test.YtahhionlbfhinaaGreatDoorB9
import Derived.Test.YtahhionlbfhinaaGreatDoorB8
import Derived.Test.YtahhionlbfhinaaGreatDoorB17
import Derived.Test.YtahhionlbfhinaaGreatDoorB6
import Derived.Laws.CopyOwn
import Derived.OwnWalk
import Derived.Deep.RegionLaw
import Derived.Laws.IdiomCopy
import Derived.Deep.Upon
import Derived.Lib.SliceRun
set_option linter.unusedVariables false
set_option linter.unusedSimpArgs false
set_option maxRecDepth 100000
set_option maxHeartbeats 40000000
namespace Go.Proofs.YtahhionlbfhinaaGreatDoor.Hp
open Go.RowKit
section
variable {w w' w1 w5:World}{B hb:Nat}{O S:Nat→Prop}{H H':He}{M M':HV}{tg:Nat→Nat}
def elH (H:He)(i:Nat)(ob:Ob)(el:List Int):He:={ touchH H ob.cell with obs:=H.obs.set i { ob with el:=el } }
theorem setLen_no (h:HeapAt w B hb tg H M)(o:Int)(o0:0≤o)(o1:o<18446744073709551616){i:Nat}{ob:Ob}(ho:obI H o=some i)(hi:H.obs[i]?=some ob)(n:Int)(hn:n<0∨4096<n) :
  Calls Tryz.prog 104 #[.pointer (some ⟨hb,0,none⟩),.int .u64 o,.int .i64 n] w fun e w'=>e = .returned (.bool false)∧w'=w:=by
 obtain⟨g,cap,ov,hvo,_⟩:=h.obj hi
 have ka:=at_hit h o o0 o1 i g cap ho hvo
 clear h hi ho hvo
 rcases hn with c | c
 ·have c1:decide (n<0)=true:=decide_eq_true c
  go_enter Tryz.func104,Tryz.ntmps104
  go_wp2_with fail
  refine ka.mono ?_
  rintro e w2 ⟨rfl,rfl⟩
  clear ka
  go_wp2_with fail
  go_ret
  exact⟨rfl,rfl⟩
 ·have c1:decide (n<0)=false:=decide_eq_false (by omega)
  have c2:decide (4096<n)=true:=decide_eq_true c
  go_enter Tryz.func104,Tryz.ntmps104
  go_wp2_with fail
  refine ka.mono ?_
  rintro e w2 ⟨rfl,rfl⟩
  clear ka
  go_wp2_with fail
  go_ret
  exact⟨rfl,rfl⟩
theorem setLen_at (h:HeapAt w B hb tg H M)(o:Int)(o0:0≤o)(o1:o<18446744073709551616){i:Nat}{ob:Ob}(ho:obI H o=some i)(hi:H.obs[i]?=some ob)(n:Nat)(hn:n≤4096) :
  Calls Tryz.prog 104 #[.pointer (some ⟨hb,0,none⟩),.int .u64 o,.int .i64 (n:Int)] w fun e w'=>e = .returned (.bool true)∧∃M',WentM w B hb tg (elH H i ob (resL ob.el n)) M' w':=by
 obtain⟨g,cap,ov,hvo,hov,_⟩:=h.obj hi
 have ka:=at_hit h o o0 o1 i g cap ho hvo
 have kt:=touch_at h hi hvo
 have HA:Hid (∀w2,WentM w B hb tg (touchH H ob.cell) M w2→Calls Tryz.prog 110 #[.pointer (some ⟨g,i*12,none⟩),.int .i64 (n:Int)] w2 fun e w'=>e = .returned (.tuple #[])∧∃M',WentM w B hb tg (elH H i ob (resL ob.el n)) M' w'):=fun w2 q=>by
  obtain⟨tg2,p1,p2,p3⟩:=q
  refine(resize_at p1 hi hov hvo n hn).mono ?_
  rintro e w' ⟨rfl,ve,hq⟩
  exact⟨rfl,_,WentM.next p2 p3 hq⟩
 have c1:decide ((n:Int)<0)=false:=decide_eq_false (by omega)
 have c2:decide (4096<(n:Int))=false:=decide_eq_false (by omega)
 generalize elH H i ob (resL ob.el n)=HL at *
 generalize touchH H ob.cell=HT at *
 clear h hi ho hvo hov hn
 go_enter Tryz.func104,Tryz.ntmps104
 go_wp2_with fail
 refine ka.mono ?_
 rintro e w2 ⟨rfl,rfl⟩
 clear ka
 go_wp2_with fail
 refine kt.mono ?_
 rintro e w3 ⟨rfl,hw3⟩
 have kr:=HA.out w3 hw3
 clear kt hw3 HA
 go_wp2_with fail
 refine kr.mono ?_
 rintro e w4 ⟨rfl,M',hq⟩
 have HQ:=(show Hid _ from hq)
 clear kr hq
 go_wp2_with fail
 go_ret
 exact⟨rfl,M',HQ.out⟩
theorem setElem_no (h:HeapAt w B hb tg H M)(o:Int)(o0:0≤o)(o1:o<18446744073709551616){i:Nat}{ob:Ob}(ho:obI H o=some i)(hi:H.obs[i]?=some ob)(n v:Int)(hn:n<0∨4096≤n) :
  Calls Tryz.prog 83 #[.pointer (some ⟨hb,0,none⟩),.int .u64 o,.int .i64 n,.int .u64 v] w fun e w'=>e = .returned (.bool false)∧w'=w:=by
 obtain⟨g,cap,ov,hvo,_⟩:=h.obj hi
 have ka:=at_hit h o o0 o1 i g cap ho hvo
 clear h hi ho hvo
 rcases hn with c | c
 ·have c1:decide (n<0)=true:=decide_eq_true c
  go_enter Tryz.func83,Tryz.ntmps83
  go_wp2_with fail
  refine ka.mono ?_
  rintro e w2 ⟨rfl,rfl⟩
  clear ka
  go_wp2_with fail
  go_ret
  exact⟨rfl,rfl⟩
 ·have c1:decide (n<0)=false:=decide_eq_false (by omega)
  have c2:decide (4096≤n)=true:=decide_eq_true c
  go_enter Tryz.func83,Tryz.ntmps83
  go_wp2_with fail
  refine ka.mono ?_
  rintro e w2 ⟨rfl,rfl⟩
  clear ka
  go_wp2_with fail
  go_ret
  exact⟨rfl,rfl⟩
def setL (el:List Int)(n:Nat)(v:Int):List Int:=(if n<el.length then el else resL el (n+1)).set n v
theorem HeapAt.elput (h:HeapAt w B hb tg H M){i g cap n:Nat}{ob:Ob}(hi:H.obs[i]?=some ob)(hvo:M.vo=⟨some ⟨g,0,none⟩,H.obs.length,cap⟩)(hn:n<ob.el.length)(v:Int) :
  ∃ge ec u,w.cell? ⟨g,i*12+7,none⟩=some (.slice (some ⟨ge,0,none⟩) ob.el.length ec)∧w.cell? ⟨ge,n,none⟩=some (.int .u64 u)∧w.frozen? ⟨ge,n,none⟩=false∧(ob.el.length:Int)≤9223372036854775807∧WentM w B hb tg { H with obs:=H.obs.set i { ob with el:=ob.el.set n v } } M (w.setCell ⟨ge,n,none⟩ (.int .u64 v)):=by
 obtain⟨g',cap',ov,hvo',hov,t4,hne,hgl,hcell,hfz,_⟩:=h.obj hi
 have hvv:=hvo'
 rw[hvo] at hvv
 injection hvv with x1 x2 x3
 injection x1 with x1
 injection x1 with x1
 subst x1
 have d7:=hcell 7 _ rfl
 simp only at d7
 have hr:RowIn wC 1 33 B w _ ov.ve ob.el:=h.part hi hov 2 (by omega)
 obtain⟨q1,q2,q3,q4⟩:=hr.open rtW.len
 obtain⟨ge,e1,_,_,_,hc,hf⟩:=q4 (by intro e;rw[e] at hn;simp at hn)
 rcases hve:ov.ve with⟨ad,len,ec⟩
 rw[hve] at q1 q2 q3 e1 d7
 simp only at q1 q2 q3 e1
 subst q1 e1
 unfold SV.val at d7
 simp only at d7
 have dv:=hc n _ (List.getElem?_eq_getElem hn) 0 _ rfl
 simp only[Nat.mul_one,Nat.add_zero] at dv
 exact⟨ge,ec,_,d7,dv,hf n,by unfold maxLen at q3;omega,h.elst hi hov hve hn v⟩
theorem setElem_at (h:HeapAt w B hb tg H M)(o:Int)(o0:0≤o)(o1:o<18446744073709551616){i:Nat}{ob:Ob}(ho:obI H o=some i)(hi:H.obs[i]?=some ob)(n:Nat)(hn:n<4096)(v:Int) :
  Calls Tryz.prog 83 #[.pointer (some ⟨hb,0,none⟩),.int .u64 o,.int .i64 (n:Int),.int .u64 v] w fun e w'=>e = .returned (.bool true)∧∃M',WentM w B hb tg (elH H i ob (setL ob.el n v)) M' w':=by
 obtain⟨g,cap,ov,hvo,hov,_⟩:=h.obj hi
 have ka:=at_hit h o o0 o1 i g cap ho hvo
 have kt:=touch_at h hi hvo
 have hil:i<H.obs.length:=(List.getElem?_eq_some_iff.1 hi).1
 have c1:decide ((n:Int)<0)=false:=decide_eq_false (by omega)
 have c2:decide (4096≤(n:Int))=false:=decide_eq_false (by omega)
 have HLEN:Hid (∀w2,WentM w B hb tg (touchH H ob.cell) M w2→∃ad ec,w2.cell? ⟨g,i*12+7,none⟩=some (.slice ad ob.el.length ec)):=fun w2 q=>by
  obtain⟨tg2,p1,p2,p3⟩:=q
  obtain⟨g',cap',ov',hvo',hov',t4,hne,hgl,hcell,hfz,_⟩:=p1.obj (ob:=ob) hi
  have hvv:=hvo'
  rw[hvo] at hvv
  injection hvv with x1 x2 x3
  injection x1 with x1
  injection x1 with x1
  subst x1
  have d7:=hcell 7 _ rfl
  have hr:RowIn wC 1 33 B w2 _ ov'.ve ob.el:=p1.part (ob:=ob) hi hov' 2 (by omega)
  obtain⟨q1,_⟩:=hr.open rtW.len
  unfold SV.val at d7
  simp only at d7
  rw[q1] at d7
  exact⟨_,_,d7⟩
 by_cases c:n<ob.el.length
 ·have HA:Hid (∀w2,WentM w B hb tg (touchH H ob.cell) M w2→∃ge ec u,w2.cell? ⟨g,i*12+7,none⟩=some (.slice (some ⟨ge,0,none⟩) ob.el.length ec)∧w2.cell? ⟨ge,n,none⟩=some (.int .u64 u)∧w2.frozen? ⟨ge,n,none⟩=false∧(ob.el.length:Int)≤9223372036854775807∧∃M',WentM w B hb tg (elH H i ob (setL ob.el n v)) M' (w2.setCell ⟨ge,n,none⟩ (.int .u64 v))):=fun w2 q=>by
   obtain⟨tg2,p1,p2,p3⟩:=q
   obtain⟨ge,ec,u,a1,a2,a3,a4,a5⟩:=p1.elput (ob:=ob) hi hvo c v
   have e:elH H i ob (setL ob.el n v)={ touchH H ob.cell with obs:=(touchH H ob.cell).obs.set i { ob with el:=ob.el.set n v } }:=by
    unfold elH setL
    rw[if_pos c]
    rfl
   rw[e]
   exact⟨ge,ec,u,a1,a2,a3,a4,M,WentM.next p2 p3 a5⟩
  have c3:decide ((ob.el.length:Int)≤(n:Int))=false:=decide_eq_false (by omega)
  have c4:(n:Int)<(ob.el.length:Int):=by omega
  generalize elH H i ob (setL ob.el n v)=HL at *
  generalize touchH H ob.cell=HT at *
  generalize ob.el.length=len at *
  clear h hi ho hvo hov hn hil c HLEN
  go_enter Tryz.func83,Tryz.ntmps83
  go_wp2_with fail
  refine ka.mono ?_
  rintro e w2 ⟨rfl,rfl⟩
  clear ka
  go_wp2_with fail
  refine kt.mono ?_
  rintro e w3 ⟨rfl,hw3⟩
  obtain⟨ge,ec,u,a1,a2,a3,a4,a5⟩:=HA.out w3 hw3
  have HA5:=(show Hid _ from a5)
  clear kt hw3 HA a5
  go_wp2_with fail
  go_ret
  obtain⟨M',hq⟩:=HA5.out
  exact⟨rfl,M',hq⟩
 ·have HA:Hid (∀w2,WentM w B hb tg (touchH H ob.cell) M w2→Calls Tryz.prog 110 #[.pointer (some ⟨g,i*12,none⟩),.int .i64 ((n+1:Nat):Int)] w2 fun e w'=>e = .returned (.tuple #[])∧∃ge ec u,w'.cell? ⟨g,i*12+7,none⟩=some (.slice (some ⟨ge,0,none⟩) (n+1) ec)∧w'.cell? ⟨ge,n,none⟩=some (.int .u64 u)∧w'.frozen? ⟨ge,n,none⟩=false∧∃M',WentM w B hb tg (elH H i ob (setL ob.el n v)) M' (w'.setCell ⟨ge,n,none⟩ (.int .u64 v))):=fun w2 q=>by
   obtain⟨tg2,p1,p2,p3⟩:=q
   refine(resize_at p1 hi hov hvo (n+1) (by omega)).mono ?_
   rintro e w' ⟨rfl,ve,tg3,r1,r2,r3⟩
   have hi1:({ touchH H ob.cell with obs:=(touchH H ob.cell).obs.set i { ob with el:=resL ob.el (n+1) } }:He).obs[i]?=some { ob with el:=resL ob.el (n+1) }:=List.getElem?_set_self hil
   have hvo1:({ M with ovs:=M.ovs.set i { ov with ve:=ve } }:HV).vo=⟨some ⟨g,0,none⟩,({ touchH H ob.cell with obs:=(touchH H ob.cell).obs.set i { ob with el:=resL ob.el (n+1) } }:He).obs.length,cap⟩:=by
    simp only[List.length_set]
    exact hvo
   obtain⟨ge,ec,u,a1,a2,a3,a4,a5⟩:=r1.elput (n:=n) hi1 hvo1 (by rw[show({ ob with el:=resL ob.el (n+1) }:Ob).el=resL ob.el (n+1) from rfl,resL_len];omega) v
   simp only[resL_len,List.set_set] at a1 a5
   have e:elH H i ob (setL ob.el n v)={ touchH H ob.cell with obs:=(touchH H ob.cell).obs.set i { ob with el:=(resL ob.el (n+1)).set n v } }:=by
    unfold elH setL
    rw[if_neg c]
    rfl
   rw[e]
   exact⟨rfl,ge,ec,u,a1,a2,a3,_,WentM.next p2 p3 (WentM.next r2 r3 a5)⟩
  have c3:decide ((ob.el.length:Int)≤(n:Int))=true:=decide_eq_true (by omega)
  have c4:(ob.el.length:Int)≤(n:Int):=by omega
  have hw1:IntKind.i64.wrap ((n:Int)+1)=((n+1:Nat):Int):=by rw[IntKind.wrap_i64];omega
  have hn1:(n:Int)<((n+1:Nat):Int):=by omega
  have hn2:((n+1:Nat):Int)≤9223372036854775807:=by omega
  generalize elH H i ob (setL ob.el n v)=HL at *
  generalize touchH H ob.cell=HT at *
  generalize ob.el.length=len at *
  clear h hi ho hvo hov hn hil c
  generalize hnn:n+1=n1 at *
  clear hnn
  go_enter Tryz.func83,Tryz.ntmps83
  go_wp2_with fail
  refine ka.mono ?_
  rintro e w2 ⟨rfl,rfl⟩
  clear ka
  go_wp2_with fail
  refine kt.mono ?_
  rintro e w3 ⟨rfl,hw3⟩
  obtain⟨ad,ec0,a0⟩:=HLEN.out w3 hw3
  have kr:=HA.out w3 hw3
  clear kt hw3 HA HLEN
  go_wp2_with fail
  refine kr.mono ?_
  rintro e w4 ⟨rfl,ge,ec,u,a1,a2,a3,a5⟩
  have HA5:=(show Hid _ from a5)
  clear kr a5 a0
  go_wp2_with fail
  go_ret
  obtain⟨M',hq⟩:=HA5.out
  exact⟨rfl,M',hq⟩
end
section
variable {w w' w1:World}{B hb:Nat}{O S:Nat→Prop}{H H':He}{M M':HV}{tg:Nat→Nat}
end
section
variable {w w' w1:World}{B hb:Nat}{O S:Nat→Prop}{H H':He}{M M':HV}{tg:Nat→Nat}
end
end Go.Proofs.YtahhionlbfhinaaGreatDoor.Hp
namespace Go.Proofs.YtahhionlbfhinaaGreatDoor.Hp
open Go.RowKit
section
variable {w w' w1 w5:World}{B hb:Nat}{O S:Nat→Prop}{H H':He}{M M':HV}{tg:Nat→Nat}
end
def setAll:Array Value→Nat→List Value→Array Value
 | cur,_,[]=>cur
 | cur,o,v :: vs=>setAll (cur.setIfInBounds o v) (o+1) vs
theorem setAll_size:∀(vs:List Value)(cur:Array Value)(o:Nat),(setAll cur o vs).size=cur.size
 | [],cur,o=>rfl
 | v :: vs,cur,o=>by
   rw[setAll,setAll_size vs,Array.size_setIfInBounds]
theorem setAll_take:∀(vs:List Value)(cur:Array Value)(o:Nat),o+vs.length≤cur.size→(setAll cur o vs).toList.take (o+vs.length)=cur.toList.take o++vs
 | [],cur,o,h=>by simp[setAll]
 | v :: vs,cur,o,h=>by
   rw[List.length_cons] at h
   rw[setAll,List.length_cons,show o+(vs.length+1)=(o+1)+vs.length by omega,setAll_take vs _ (o+1) (by rw[Array.size_setIfInBounds];omega),Array.toList_setIfInBounds]
   have hl:o<cur.toList.length:=by rw[Array.length_toList];omega
   rw[List.take_add_one,List.getElem?_set_self hl,List.take_set_of_le (Nat.le_refl _)]
   simp
theorem setAll_before:∀(vs:List Value)(cur:Array Value)(o n:Nat),n≤o→(setAll cur o vs).toList.take n=cur.toList.take n
 | [],cur,o,n,h=>rfl
 | v :: vs,cur,o,n,h=>by
   rw[setAll,setAll_before vs _ (o+1) n (by omega),Array.toList_setIfInBounds,List.take_set_of_le h]
theorem heap_setCells (b:Nat)(t:TypeId):∀(vs:List Value)(o:Nat)(w:World)(cur:Array Value),w.heap[b]?=some (.cells cur t (0,0))→(w.setCells b o vs).heap[b]?=some (.cells (setAll cur o vs) t (0,0))
 | [],o,w,cur,h=>h
 | v :: vs,o,w,cur,h=>heap_setCells b t vs (o+1) _ _ (heap_setCell_same w b o cur t v h)
theorem chg_setCells (b:Nat):∀(vs:List Value)(o:Nat)(w:World),Chg (fun k=>k=b) w (w.setCells b o vs)
 | [],o,w=>Chg.refl _ _
 | v :: vs,o,w=>(Chg.set (S:=fun k=>k=b) w ⟨b,o,none⟩ v rfl).trans (chg_setCells b vs (o+1) _) (fun _ _ q=>q)
theorem erase_flat {ps:List Pr}{a:Nat}(ha:a<ps.length):(ps.eraseIdx a).flatMap prC=(ps.take a).flatMap prC++(ps.drop (a+1)).flatMap prC:=by
 rw[List.eraseIdx_eq_take_drop_succ,List.flatMap_append]
theorem del_row {B:Nat}{w:World}{gl cap a:Nat}{ps:List Pr}(h:OwnR prC 5 129 B w (.slice (some ⟨gl,0,none⟩) ps.length cap) ps)(ha:a<ps.length)(zs:List Value)(hz:zs.length=5) :
  OwnR prC 5 129 B ((w.setCells gl (a*5) ((ps.drop (a+1)).flatMap prC)).setCells gl ((ps.length - 1)*5) zs) (.slice (some ⟨gl,0,none⟩) (ps.length - 1) cap) (ps.eraseIdx a):=by
 rcases h.2 with⟨h1,_⟩ | ⟨g',cap',cur,h1,hb,hg,hn,hc,hs,ht⟩
 ·cases h1
 ·cases h1
  have hnl:((ps.drop (a+1)).flatMap prC).length=(ps.length - (a+1))*5:=by rw[flat_len rtPr.len,List.length_drop]
  have hfit:a*5+((ps.drop (a+1)).flatMap prC).length≤cur.size:=by
   rw[hnl,hs]
   have:a*5+(ps.length - (a+1))*5=(ps.length - 1)*5:=by rw[←Nat.add_mul];congr 1;omega
   rw[this]
   exact Nat.mul_le_mul_right _ (by omega)
  have h1:=heap_setCells gl _ ((ps.drop (a+1)).flatMap prC) (a*5) w cur hg
  have h2:=heap_setCells gl _ zs ((ps.length - 1)*5) _ _ h1
  have hel:(ps.eraseIdx a).length=ps.length - 1:=List.length_eraseIdx_of_lt ha
  refine⟨by rw[flat_len rtPr.len],Or.inr ⟨gl,cap,_,by rw[hel],hb,h2,by rw[hel];omega,hc,by rw[setAll_size,setAll_size];exact hs,?_⟩⟩
  rw[hel,setAll_before _ _ _ _ (Nat.le_refl _)]
  have e:(ps.length - 1)*5=a*5+((ps.drop (a+1)).flatMap prC).length:=by
   rw[hnl,←Nat.add_mul]
   congr 1
   omega
  rw[e,setAll_take _ _ _ hfit,erase_flat ha]
  congr 1
  have h3:cur.toList.take (a*5)=(cur.toList.take (ps.length*5)).take (a*5):=by
   rw[List.take_take,Nat.min_eq_left (Nat.mul_le_mul_right _ (by omega))]
  rw[h3,ht]
  have h4:ps.flatMap prC=(ps.take a).flatMap prC++(ps.drop a).flatMap prC:=by rw[←List.flatMap_append,List.take_append_drop]
  rw[h4,List.take_append_of_le_length (by rw[flat_len rtPr.len,List.length_take];omega),List.take_of_length_le (by rw[flat_len rtPr.len,List.length_take];omega)]
def zPr:List Value:=[.string ⟨#[]⟩,.int .i64 0,.int .u64 0,.int .u64 0,.int .i64 0]
theorem run_clear_pr (w:World)(ty:TypeId)(b o c:Nat)(hc:∀j,j<5→(w.cell? ⟨b,o+j,none⟩).isSome=true)(hf:∀j,j<5→w.frozen? ⟨b,o+j,none⟩=false) :
  (Builtin.clear_ #[91] ty #[.slice (some ⟨b,o,none⟩) 1 c]).run Tryz.prog w = .ok (.tuple #[]) (w.setCells b o zPr):=by
 have hst:=run_storeCells_cells (P:=Tryz.prog) b o zPr 0 w (fun j hj=>by simpa using hc j hj) (fun j hj=>by simpa using hf j hj) (by decide)
 simp only[Nat.add_zero] at hst
 have hv:∀w,(zeroValue 129).run Tryz.prog w = .ok (.agg #[.string ⟨#[]⟩,.int .i64 0,.int .u64 0,.int .u64 0,.int .i64 0]) w:=by
  intro w
  have hz:Tryz.t129.zero=some (.agg #[.string ⟨#[]⟩,.int .i64 0,.int .u64 0,.int .u64 0,.int .i64 0]):=by kernel_rfl
  simp[zeroValue,hz]
 have hzc:(Builtin.zeroCells (Value.agg #[.string ⟨#[]⟩,.int .i64 0,.int .u64 0,.int .u64 0,.int .i64 0]).cells 1).toList=zPr:=by kernel_rfl
 simp[Builtin.clear_,run_underlying rtPr.und,hv,hzc,hst]
theorem flat_get {ps:List Pr}{j:Nat}{u:Value}(h:(ps.flatMap prC)[j]?=some u):∃p,ps[j / 5]?=some p∧(prC p)[j % 5]?=some u:=by
 induction ps generalizing j with
 | nil=>simp at h
 | cons p ps ih =>
   rw[List.flatMap_cons] at h
   by_cases hj:j<5
   ·rw[List.getElem?_append_left (by rw[rtPr.len];exact hj)] at h
    exact⟨p,by rw[Nat.div_eq_of_lt hj];rfl,by rw[Nat.mod_eq_of_lt hj];exact h⟩
   ·rw[List.getElem?_append_right (by rw[rtPr.len];omega),rtPr.len] at h
    obtain⟨q,h1,h2⟩:=ih h
    refine⟨q,?_,?_⟩
    ·rw[show j / 5=(j - 5) / 5+1 by omega,List.getElem?_cons_succ]
     exact h1
    ·rw[show j % 5=(j - 5) % 5 by omega]
     exact h2
theorem delete_at {B:Nat}{w:World}{gl cap a:Nat}{ps:List Pr}(h:OwnR prC 5 129 B w (.slice (some ⟨gl,0,none⟩) ps.length cap) ps)(ha:a<ps.length) :
  Calls Tryz.prog 126 #[.slice (some ⟨gl,0,none⟩) ps.length cap,.int .i64 a,.int .i64 ((a:Int)+1)] w fun e w'=>e = .returned (.slice (some ⟨gl,0,none⟩) (ps.length - 1) cap)∧w'=(w.drew.setCells gl (a*5) ((ps.drop (a+1)).flatMap prC)).setCells gl ((ps.length - 1)*5) zPr:=by
 have hcl:∀i y,ps[i]?=some y→∀(j:Nat) (u:Value),(prC y)[j]?=some u→w.cell? ⟨gl,i*5+j,none⟩=some u:=fun i y hi j u hj=>OwnR.at' rtPr.len h hi hj
 have hfz:∀n,w.frozen? ⟨gl,n,none⟩=false:=fun n=>h.fz n
 have hsome:∀n,n<ps.length*5→(w.cell? ⟨gl,n,none⟩).isSome=true:=by
  intro n hn
  have h1:n / 5<ps.length:=by omega
  have h2:n % 5<5:=Nat.mod_lt _ (by decide)
  rw[show n=n / 5*5+n % 5 by omega,hcl (n / 5) ps[n / 5] (List.getElem?_eq_getElem h1) (n % 5) ((prC ps[n / 5])[n % 5]'(by rw[rtPr.len];exact h2)) (List.getElem?_eq_getElem _)]
  rfl
 obtain⟨i0,hi0,hz0,hz1,hz2⟩:=info_parts (P:=Tryz.prog) (t:=129) (z := .agg #[.string ⟨#[]⟩,.int .i64 0,.int .u64 0,.int .u64 0,.int .i64 0]) (s:=5) (b:=48) (by kernel_rfl)
 obtain⟨hnl,hcap⟩:ps.length≤cap∧cap≤maxLen:=by
  rcases h.2 with⟨h1,_⟩ | ⟨g',cap',cur,h1,hb,hg,hn,hc,hs,ht⟩
  ·cases h1
  ·cases h1
   exact⟨hn,hc⟩
 obtain⟨news,hnews⟩:∃news,news=(ps.drop (a+1)).flatMap prC:=⟨_,rfl⟩
 have hlen:news.length=(ps.length - (a+1))*5:=by rw[hnews,flat_len rtPr.len,List.length_drop]
 have hm:(cap:Int)≤9223372036854775807:=by unfold maxLen at hcap;omega
 obtain⟨A,hA,hsrc⟩:∃A:Addr,(if cap=a+1 then some (⟨gl,0,none⟩:Addr) else some ⟨gl,(a+1)*5,none⟩)=some A∧Hid (∀t u,news[t]?=some u→w.drew.cell? (A.add t)=some u):=by
  by_cases hh:cap=a+1
  ·refine⟨⟨gl,0,none⟩,by simp[hh],fun t u hu => ?_⟩
   have h0:news.length=0:=by rw[hlen,show ps.length - (a+1)=0 by omega]
   rw[List.length_eq_zero_iff.1 h0] at hu
   simp at hu
  ·refine⟨⟨gl,(a+1)*5,none⟩,by simp[hh],fun t u hu => ?_⟩
   rw[hnews] at hu
   obtain⟨p,h1,h2⟩:=flat_get hu
   rw[List.getElem?_drop] at h1
   have h3:=hcl _ _ h1 _ _ h2
   rw[Addr.add_lit]
   show w.cell? _=_
   rw[show(a+1)*5+t=(a+1+t / 5)*5+t % 5 by omega]
   exact h3
 have s1:Hid (news.length=(ps.length - (a+1))*5):=hlen
 have s2:Hid (∀u∈news,u.oneCell'=true):=by
  intro u hu
  rw[hnews] at hu
  obtain⟨x,_,hx⟩:=List.mem_flatMap.1 hu
  exact rtPr.one x u hx
 have s3:Hid (∀t,t<news.length→(w.drew.cell? ⟨gl,0+a*5+t,none⟩).isSome=true∧w.drew.frozen? ⟨gl,0+a*5+t,none⟩=false):=by
  intro t ht
  rw[hlen] at ht
  exact⟨hsome _ (by omega),hfz _⟩
 obtain⟨W1,hW1⟩:∃W1,W1=w.drew.setCells gl (0+a*5) news:=⟨_,rfl⟩
 have hclr:∀ty,(Builtin.clear_ #[91] ty #[.slice (some ⟨gl,(ps.length - 1)*5,none⟩) 1 (cap - (ps.length - 1))]).run Tryz.prog W1 = .ok (.tuple #[]) (W1.setCells gl ((ps.length - 1)*5) zPr):=by
  intro ty
  refine run_clear_pr W1 ty gl _ _ (fun j hj => ?_) (fun j hj => ?_)
  ·rw[hW1,World.cell?_setCells_out gl _ _ _ _ (fun hb _=>Or.inr (by show 0+a*5+news.length≤(ps.length - 1)*5+j;rw[hlen];omega))]
   exact hsome _ (by omega)
  ·rw[hW1,World.frozen?_setCells]
   exact hfz _
 have hW:Hid (W1=w.drew.setCells gl (0+a*5) news):=hW1
 have hN:Hid (news=(ps.drop (a+1)).flatMap prC):=hnews
 have hac:a≤cap:=by omega
 have hjc:a+1≤cap:=by omega
 have hp0:(0:Int)≤(a:Int)+1:=by omega
 have hp1:(a:Int)+1≤(ps.length:Int):=by omega
 have hp2:((a:Int)+1).toNat=a+1:=by omega
 have hne:¬((a:Int)=(a:Int)+1):=by omega
 clear hW1 hnews hlen hcl hfz hsome h
 generalize ps.length=L at *
 obtain⟨n,rfl⟩:∃n,L=n+1:=⟨L - 1,by omega⟩
 have han:a≤n:=by omega
 have s1':Hid (news.length=(n - a)*5):=(show news.length=(n - a)*5 by rw[s1.out,Nat.add_sub_add_right])
 have hll:Hid (a+(n - a)=n):=(show a+(n - a)=n by omega)
 simp only[Nat.add_sub_cancel] at hclr ⊢
 have hcn:¬cap=n:=by omega
 have hcn2:¬cap - n=0:=by omega
 have hnc:n≤cap:=by omega
 go_enter Tryz.func126,Tryz.ntmps126
 go_wp2_with fail
 go_region_law (refine step_append_room rfl (.tmp 22) (.tmp 25) 91 rfl 129 i0 5 Tryz.underlying91 hi0 hz1 gl 0 a cap (by simp[Act.eval,Act.put]) A (n - a) (cap - (a+1)) news (by simp[Act.eval,Act.put]) s1'.out hsrc.out s2.out (by omega) s3.out ?_;rw[←hW.out,hll.out])
 go_wp2
 all_goals go_ret
 all_goals (refine⟨rfl,?_⟩)
 all_goals (rw[hW.out,hN.out,Nat.zero_add])
end Go.Proofs.YtahhionlbfhinaaGreatDoor.Hp
