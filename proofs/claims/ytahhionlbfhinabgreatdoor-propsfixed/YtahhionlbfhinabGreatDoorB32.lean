/- YA, YI, YB -/
import Derived.Test.YtahhionlbfhinabGreatDoorB31
import Derived.Test.YtahhionlbfhinabGreatDoorB22
import Derived.Test.YtahhionlbfhinabGreatDoorB26
set_option linter.unusedVariables false
set_option linter.unusedSimpArgs false
set_option maxRecDepth 100000
set_option maxHeartbeats 40000000
namespace Go.Proofs.YtahhionlbfhinabGreatDoor.Hp
open Go.RowKit
def IxOk (H:He):Prop:=∀ob∈H.obs,ob.kind=1→∀p∈ob.ps,p.key≠lenS∧ixI p.key=none
def DsOk (S:List So):Prop:=∀x∈S,∀d∈x.ds,d.ok
def layG (S:List So)(o:Int)(x:So)(k:ByteArray)(d:De):List So×Bool :=
 if x.kind=1 then
  if k=lenS then (if isT d.va 65529=true∧d.fl=1 then lenG S o (payZ d.va) else (S,false))
  else match rxI k with
   | some n=>if d.fl=7 then elemG S o (n:Int) d.va else (S,false)
   | none=>(putG S o k d,true)
 else (putG S o k d,true)
def dfG (S:List So)(o:Int)(k:ByteArray)(u:Ws):List So×Bool:=match soO S o with
 | none=>(S,false)
 | some x=>if rnoB u=true then (S,false) else match ownS x k with
   | none=>if x.shut=true then (S,false) else layG S o x k (rWishD newE u)
   | some old=>if rmayD old (rWishD old u)=true then layG S o x k (rWishD old u) else (S,false)
def delG' (S:List So)(o:Int)(k:ByteArray):List So×Bool:=match (soO S o).bind (fun x=>ownS x k) with
 | none=>(S,true)
 | some d=>if (bits .and .i64 d.fl 4 == 0)=true then (S,false) else
   if ((soO S o).map (fun x=>x.kind == 1)).getD false=true then match rxI k with
    | some n=>elemG S o (n:Int) holW
    | none=>dropG S o k
   else dropG S o k
def asgD (r:List So×Bool):Int×Int×List So:=(undW,if r.2=true then 0 else 1,r.1)
def asgG (S:List So)(o:Int)(k:ByteArray)(v:Int):Int×Int×List So :=
 match lookS S k (S.length+1) o with
 | none=>asgD (dfG S o k (wsAll v))
 | some (p,d) =>
   if accB d=true then (if d.se=undW then (undW,1,S) else (d.se,2,S))
   else if (bits .and .i64 d.fl 1 == 0)=true then (undW,1,S)
   else if p=o then asgD (dfG S o k (wsVal v)) else asgD (dfG S o k (wsAll v))
def delP (H:He)(o:Int)(k:ByteArray):Bool×He:=match ownH H o k with
 | none=>(true,H)
 | some d=>if (bits .and .i64 d.fl 4 == 0)=true then (false,H) else
   match (ixI k),((obO H o).map (fun ob=>decide (ob.kind=1) && (elemI ob.el (((ixI k).getD 0:Nat):Int)).isSome)).getD false with
    | some n,true=>((elemF H o (n:Int) holW).2,(elemF H o (n:Int) holW).1)
    | _,_=>((dropF H o k).2,(dropF H o k).1)
section
variable {H H':He}{S:List So}{ts:List ByteArray}{o:Int}{k:ByteArray}{i:Nat}{ob:Ob}{x:So}{d:De}
theorem IxOk.set (h:IxOk H){ob':Ob}(ho:H'.obs=H.obs.set i ob')(h2:ob'.kind=1→∀p∈ob'.ps,p.key≠lenS∧ixI p.key=none):IxOk H':=fun y hy=>by
 rw[ho] at hy
 rcases List.mem_or_eq_of_mem_set hy with q | q
 ·exact h y q
 ·rw[q];exact h2
theorem IxOk.obs (h:IxOk H)(ho:H'.obs=H.obs):IxOk H':=fun y hy=>h y (by rw[←ho];exact hy)
theorem IxOk.rel (h:IxOk H)(hb:RelB ob x)(hi:H.obs[i]?=some ob):RelO ob x:=⟨hb.kd,hb.pr,hb.sh,hb.nm,hb.ds,hb.el,hb.inn,h ob (List.mem_of_getElem? hi)⟩
theorem IxOk.el (h:IxOk H)(hi:H.obs[i]?=some ob)(el:List Int):IxOk (elH H i ob el):=h.set (ob':={ ob with el:=el }) rfl (h ob (List.mem_of_getElem? hi))
theorem DsOk.on {f:So→So}(h:DsOk S)(hf:∀x∈S,∀d∈(f x).ds,d.ok)(o:Int):DsOk (onS S o f):=by
 unfold onS
 split
 ·exact h
 ·split
  ·exact h
  ·rename_i i _ x hi
   intro y hy
   rcases List.mem_or_eq_of_mem_set hy with q | q
   ·exact h y q
   ·rw[q]
    exact hf _ (List.mem_of_getElem? (by assumption))
theorem DsOk.put (h:DsOk S)(o:Int)(k:ByteArray)(d:De):DsOk (putG S o k d):=by
 refine h.on (fun x hx e he => ?_) o
 unfold putS at he
 split at he
 ·rcases List.mem_or_eq_of_mem_set he with q | q
  ·exact h x hx e q
  ·rw[q];exact kept_ok d
 ·rcases List.mem_append.1 he with q | q
  ·exact h x hx e q
  ·rw[List.mem_singleton.1 q];exact kept_ok d
theorem DsOk.len (h:DsOk S)(o n:Int):DsOk (lenG S o n).1:=by
 unfold lenG
 split
 ·exact h
 ·exact h.on (f:=fun x=>{ x with el:=resL x.el n.toNat }) (fun x hx=>h x hx) o
theorem DsOk.elem (h:DsOk S)(o n v:Int):DsOk (elemG S o n v).1:=by
 unfold elemG
 split
 ·exact h
 ·exact h.on (f:=fun x=>{ x with el:=(padE x.el n.toNat).set n.toNat v }) (fun x hx=>h x hx) o
theorem DsOk.drop (h:DsOk S)(o:Int)(k:ByteArray):DsOk (dropG S o k).1:=by
 refine h.on (f:=fun x=>delS x k) (fun x hx e he => ?_) o
 unfold delS at he
 split at he
 ·exact h x hx e he
 ·exact h x hx e (List.mem_of_mem_eraseIdx he)
theorem own_ok (h:DsOk S)(hx:x∈S){d:De}(hd:ownS x k=some d):d.ok:=by
 have hget:∀e,getS x k=some e→e.ok:=fun e he=>by
  unfold getS at he
  cases hp:plS x.nm k with
  | none=>rw[hp] at he;cases he
  | some n=>rw[hp] at he;exact h x hx e (List.mem_of_getElem? he)
 unfold ownS at hd
 split at hd
 ·split at hd
  ·rw[←Option.some.inj hd]
   exact⟨by show(0:Int)≤1;omega,by show(1:Int)≤15;omega,Or.inl (by show(1:Int)<8;omega)⟩
  ·split at hd
   ·cases he:elS x.el _ with
    | none=>rw[he] at hd;cases hd
    | some v =>
      rw[he] at hd
      rw[←Option.some.inj hd]
      exact⟨by show(0:Int)≤7;omega,by show(7:Int)≤15;omega,Or.inl (by show(7:Int)<8;omega)⟩
   ·exact hget d hd
 ·exact hget d hd
theorem RelG.lay (h:RelG H S ts)(hx:IxOk H)(hd:DsOk S)(e1:obI H o=some i)(e2:obS S o=some i)(e3:H.obs[i]?=some ob)(e4:S[i]?=some x)(e5:RelB ob x)(k:ByteArray)(d:De) :
  RelG (layP H i ob k d).2 (layG S o x k d).1 ts∧(layP H i ob k d).1=(layG S o x k d).2∧IxOk (layP H i ob k d).2∧DsOk (layG S o x k d).1:=by
 have hO:=hx.rel e5 e3
 have putOk:(ob.kind=1→k≠lenS∧ixI k=none)→RelG (putH H i ob k d) (putG S o k d) ts∧IxOk (putH H i ob k d):=fun hk=>by
  have hp:=h.put o k d
  rw[putF_at e1 e3] at hp
  obtain⟨ob',q1,q2⟩:=hO.putH (H:=H) i hk d
  exact⟨hp,hx.set q1 q2.ix⟩
 unfold layP layG
 rw[←e5.kd]
 by_cases c:ob.kind=1
 ·rw[if_pos c,if_pos c]
  by_cases hl:k=lenS
  ·rw[if_pos hl,if_pos hl]
   by_cases hf:isT d.va 65529=true∧d.fl=1
   ·rw[if_pos hf]
    have hn:=h.lens o (payZ d.va)
    rw[lenF_at e1 e3] at hn
    by_cases c2:payZ d.va<0∨4096<payZ d.va
    ·rw[if_pos c2] at hn
     rw[if_neg (by rintro⟨_,_,a,b⟩;rcases c2 with q | q <;> omega)]
     exact⟨hn.1,hn.2,hx,hd.len _ _⟩
    ·rw[if_neg c2] at hn
     rw[if_pos ⟨hf.1,hf.2,by omega,by omega⟩]
     exact⟨hn.1,hn.2,hx.el e3 _,hd.len _ _⟩
   ·rw[if_neg hf,if_neg (by rintro⟨a,b,_⟩;exact hf ⟨a,b⟩)]
    exact⟨h,rfl,hx,hd⟩
  ·rw[if_neg hl,if_neg hl,←ix_same]
   cases hi:ixI k with
   | some n =>
     simp only
     by_cases hf:d.fl=7
     ·rw[if_pos hf,if_pos hf]
      have hlt:=ix_lt hi
      have hn:=h.elem o (n:Int) d.va
      rw[elemF_at e1 e3,if_neg (by omega),Int.toNat_natCast] at hn
      exact⟨hn.1,hn.2,hx.el e3 _,hd.elem _ _ _⟩
     ·rw[if_neg hf,if_neg hf]
      exact⟨h,rfl,hx,hd⟩
   | none =>
     simp only
     obtain⟨a,b⟩:=putOk (fun _=>⟨hl,hi⟩)
     exact⟨a,by trivial,b,hd.put _ _ _⟩
 ·rw[if_neg c,if_neg c]
  obtain⟨a,b⟩:=putOk (fun q=>absurd q c)
  exact⟨a,rfl,b,hd.put _ _ _⟩
theorem no_same (u:Ws):((bits .and .i64 u.has 48 != 0)=true∧(bits .and .i64 u.has 3 != 0)=true)↔rnoB u=true:=by
 rw[has48,has3]
 unfold rnoB
 rw[Bool.and_eq_true]
theorem RelG.define (h:RelG H S ts)(hx:IxOk H)(hd:DsOk S)(o:Int)(k:ByteArray)(u:Ws) :
  RelG (defP H o k u).2 (dfG S o k u).1 ts∧(defP H o k u).1=(dfG S o k u).2∧IxOk (defP H o k u).2∧DsOk (dfG S o k u).1:=by
 unfold defP dfG
 rcases h.io o with⟨e1,e2⟩ | ⟨i,ob,x,e1,e2,e3,e4,e5⟩
 ·have es:soO S o=none:=by unfold soO;rw[e2];rfl
  rw[e1,es]
  exact⟨h,rfl,hx,hd⟩
 ·have es:soO S o=some x:=by unfold soO;rw[e2];exact e4
  rw[e1,es]
  simp only[e3]
  by_cases c:rnoB u=true
  ·rw[if_pos c,if_pos ((no_same u).2 c)]
   exact⟨h,rfl,hx,hd⟩
  ·rw[if_neg c,if_neg (fun q=>c ((no_same u).1 q))]
   have cn:rnoB u=false:=by simpa using c
   have ho:=(hx.rel e5 e3).own k
   rw[ho]
   cases hq:ownS x k with
   | none =>
     simp only
     rw[←e5.sh]
     by_cases c2:ob.shut=true
     ·rw[if_pos c2,if_pos c2]
      exact⟨h,rfl,hx,hd⟩
     ·rw[if_neg c2,if_neg c2,show newE=newD from rfl,←wish_same newD u new_ok cn]
      exact h.lay hx hd e1 e2 e3 e4 e5 k _
   | some old =>
     simp only
     have hok:=own_ok hd (List.mem_of_getElem? e4) hq
     have hw:=wish_same old u hok cn
     have hfl:=(wish_fl old u hok cn).2
     rw[←hw,←may_same old (wishD old u) hok hfl.1 hfl.2]
     by_cases c2:mayD old (wishD old u)=true
     ·rw[if_pos c2,if_pos c2]
      exact h.lay hx hd e1 e2 e3 e4 e5 k _
     ·rw[if_neg c2,if_neg c2]
      exact⟨h,rfl,hx,hd⟩
end
theorem delP_at {H:He}{o:Int}{k:ByteArray}{d:De}{ob:Ob}(hq:ownH H o k=some d)(ho:obO H o=some ob)(hc:(bits .and .i64 d.fl 4 == 0)=false) :
  delP H o k=if ((elemI ob.el (((ixI k).getD 0:Nat):Int)).isSome && ((ixI k).isSome && arrB H o))=true then ((elemF H o (((ixI k).getD 0:Nat):Int) holW).2,(elemF H o (((ixI k).getD 0:Nat):Int) holW).1) else ((dropF H o k).2,(dropF H o k).1):=by
 unfold delP arrB
 rw[hq,ho]
 simp only[hc,Bool.false_eq_true,if_false,Option.map_some,Option.getD_some]
 cases hi:ixI k with
 | none=>simp
 | some n =>
   simp only[Option.getD_some,Option.isSome_some,Bool.true_and]
   by_cases ck:ob.kind=1
   ·rw[decide_eq_true ck,ck]
    cases he:(elemI ob.el (n:Int)).isSome with
    | true=>rfl
    | false=>rfl
   ·rw[decide_eq_false ck]
    have:(ob.kind == 1)=false:=by simpa using ck
    rw[this,Bool.and_false,Bool.false_and]
    rfl
section
variable {w w' w1:World}{B hb:Nat}{O S:Nat→Prop}{H H':He}{M M':HV}{tg:Nat→Nat}
theorem pdelete_at (h:HeapAt w B hb tg H M)(hn:H.neat)(o:Int)(o0:0≤o)(o1:o<18446744073709551616)(k:ByteArray)(hk:k.size≤maxLen) :
  Calls Tryz.prog 31 #[.pointer (some ⟨hb,0,none⟩),.int .u64 o,.string k] w fun e w'=>e = .returned (.bool (delP H o k).1)∧WentH w B hb tg (delP H o k).2 w':=by
 have ko:=own_at h hn o o0 o1 k hk
 have HS:Hid (∀W,Below w.heap.size w W→WentH w B hb tg H W):=fun W q=>WentH.same h q
 cases hq:ownH H o k with
 | none =>
   have e0:delP H o k=(true,H):=by unfold delP;rw[hq]
   rw[e0]
   rw[hq] at ko
   simp only[Option.getD_none,Option.isSome_none] at ko
   unfold zDe deV at ko
   clear h hn hq hk e0
   go_enter Tryz.func31,Tryz.ntmps31
   go_wp2_with fail
   refine ko.mono ?_
   rintro e w2 ⟨rfl,hB2⟩
   have hB3:=hB2.alloc hB2.size (.cells #[.int .u64 0,.int .u64 0,.int .i64 0] 39)
   have HR:=(show Hid _ from HS.out _ hB3)
   clear ko hB2 hB3 HS
   go_wp2_with fail
   go_ret
   exact⟨rfl,HR.out⟩
 | some d =>
   obtain⟨ob,hob⟩:∃ob,obO H o=some ob:=by
    unfold ownH at hq
    cases ho:obO H o with
    | none=>rw[ho] at hq;cases hq
    | some ob=>exact⟨ob,rfl⟩
   obtain⟨i,ho,hi⟩:=obO_some hob
   rw[hq] at ko
   simp only[Option.getD_some,Option.isSome_some] at ko
   unfold deV at ko
   cases hc:(bits .and .i64 d.fl 4 == 0) with
   | true =>
     have e0:delP H o k=(false,H):=by unfold delP;rw[hq];simp only[hc,if_true]
     rw[e0]
     clear h hn hq hk e0 hob ho hi
     go_enter Tryz.func31,Tryz.ntmps31
     go_wp2_with fail
     refine ko.mono ?_
     rintro e w2 ⟨rfl,hB2⟩
     have hB3:=hB2.alloc hB2.size (.cells #[.int .u64 d.va,.int .u64 d.se,.int .i64 d.fl] 39)
     have hx:=Bx3.box w2 d
     obtain⟨x0,x1,x2⟩:=hx.ce
     have HR:=(show Hid _ from HS.out _ hB3)
     clear ko hB2 hB3 HS hx
     go_wp2_with fail
     go_ret
     exact⟨rfl,HR.out⟩
   | false =>
     rw[delP_at hq hob hc]
     have kx:=fun W=>index_any k W hk
     have KE:Hid (∀W,Below w.heap.size w W→Calls Tryz.prog 41 #[.pointer (some ⟨hb,0,none⟩),.int .u64 o,.int .i64 (((ixI k).getD 0:Nat):Int)] W fun e w'=>e = .returned (.tuple #[.int .u64 ((elemI ob.el (((ixI k).getD 0:Nat):Int)).getD undW),.bool (elemI ob.el (((ixI k).getD 0:Nat):Int)).isSome])∧w'=W):=fun W q=>elem_at (h.below q) o o0 o1 ho hi _
     have KA:Hid (∀W,Below w.heap.size w W→Calls Tryz.prog 21 #[.pointer (some ⟨hb,0,none⟩),.int .u64 o] W fun e w'=>e = .returned (.bool (arrB H o))∧w'=W):=fun W q=>isArray_at (h.below q) o o0 o1
     have KS:Hid (∀W,Below w.heap.size w W→Calls Tryz.prog 72 #[.pointer (some ⟨hb,0,none⟩),.int .u64 o,.int .i64 (((ixI k).getD 0:Nat):Int),.int .u64 18445336698825998340] W fun e w'=>e = .returned (.bool (elemF H o (((ixI k).getD 0:Nat):Int) holW).2)∧WentH w B hb tg (elemF H o (((ixI k).getD 0:Nat):Int) holW).1 w'):=fun W q=>(setElem_full (h.below q) o o0 o1 _ holW).mono fun e w' ⟨e1,M',e2⟩=>⟨e1,M',e2.behind q⟩
     have KD:Hid (∀W,Below w.heap.size w W→Calls Tryz.prog 73 #[.pointer (some ⟨hb,0,none⟩),.int .u64 o,.string k] W fun e w'=>e = .returned (.bool (dropF H o k).2)∧WentH w B hb tg (dropF H o k).1 w'):=fun W q=>(drop_full (h.below q) hn o o0 o1 k hk).mono fun e w' ⟨e1,M',e2⟩=>⟨e1,M',e2.behind q⟩
     generalize (elemF H o (((ixI k).getD 0:Nat):Int) holW).2=r1 at *
     generalize (elemF H o (((ixI k).getD 0:Nat):Int) holW).1=r2 at *
     generalize (dropF H o k).2=r3 at *
     generalize (dropF H o k).1=r4 at *
     generalize (elemI ob.el (((ixI k).getD 0:Nat):Int)).getD undW=ev at *
     generalize (elemI ob.el (((ixI k).getD 0:Nat):Int)).isSome=et at *
     generalize (((ixI k).getD 0:Nat):Int)=xn at *
     generalize (ixI k).isSome=xt at *
     generalize arrB H o=at' at *
     clear h hn hq hk hob ho hi HS
     rcases (show(et=false∨et=true∧xt=false)∨(et=true∧xt=true∧at'=false)∨(et=true∧xt=true∧at'=true) by cases et <;> cases xt <;> cases at' <;> simp) with(rfl | ⟨rfl,rfl⟩) | ⟨rfl,rfl,rfl⟩ | ⟨rfl,rfl,rfl⟩
     ·simp only[Bool.false_and,Bool.false_eq_true,if_false]
      go_enter Tryz.func31,Tryz.ntmps31
      go_wp2_with fail
      refine ko.mono ?_
      rintro e w2 ⟨rfl,hB2⟩
      have hB3:=hB2.alloc hB2.size (.cells #[.int .u64 d.va,.int .u64 d.se,.int .i64 d.fl] 39)
      have hx:=Bx3.box w2 d
      obtain⟨x0,x1,x2⟩:=hx.ce
      have ke:=KE.out _ hB3
      have kd:=KD.out _ hB3
      clear ko hB2 hB3 hx KE KD KA KS
      go_wp2_with fail
      refine(kx _).mono ?_
      rintro e w4 ⟨rfl,rfl⟩
      go_wp2_with fail
      refine ke.mono ?_
      rintro e w5 ⟨rfl,rfl⟩
      go_wp2_with fail
      refine kd.mono ?_
      rintro e w6 ⟨rfl,hw6⟩
      have HR:=(show Hid _ from hw6)
      clear hw6 ke kd
      go_wp2_with fail
      go_ret
      exact⟨rfl,HR.out⟩
     ·simp only[Bool.true_and,Bool.false_and,Bool.false_eq_true,if_false]
      go_enter Tryz.func31,Tryz.ntmps31
      go_wp2_with fail
      refine ko.mono ?_
      rintro e w2 ⟨rfl,hB2⟩
      have hB3:=hB2.alloc hB2.size (.cells #[.int .u64 d.va,.int .u64 d.se,.int .i64 d.fl] 39)
      have hx:=Bx3.box w2 d
      obtain⟨x0,x1,x2⟩:=hx.ce
      have ke:=KE.out _ hB3
      have kd:=KD.out _ hB3
      clear ko hB2 hB3 hx KE KD KA KS
      go_wp2_with fail
      refine(kx _).mono ?_
      rintro e w4 ⟨rfl,rfl⟩
      go_wp2_with fail
      refine ke.mono ?_
      rintro e w5 ⟨rfl,rfl⟩
      go_wp2_with fail
      refine kd.mono ?_
      rintro e w6 ⟨rfl,hw6⟩
      have HR:=(show Hid _ from hw6)
      clear hw6 ke kd
      go_wp2_with fail
      go_ret
      exact⟨rfl,HR.out⟩
     ·simp only[Bool.true_and,Bool.and_false,Bool.false_eq_true,if_false]
      go_enter Tryz.func31,Tryz.ntmps31
      go_wp2_with fail
      refine ko.mono ?_
      rintro e w2 ⟨rfl,hB2⟩
      have hB3:=hB2.alloc hB2.size (.cells #[.int .u64 d.va,.int .u64 d.se,.int .i64 d.fl] 39)
      have hx:=Bx3.box w2 d
      obtain⟨x0,x1,x2⟩:=hx.ce
      have ke:=KE.out _ hB3
      have kd:=KD.out _ hB3
      have kz:=KA.out _ hB3
      clear ko hB2 hB3 hx KE KD KA KS
      go_wp2_with fail
      refine(kx _).mono ?_
      rintro e w4 ⟨rfl,rfl⟩
      go_wp2_with fail
      refine ke.mono ?_
      rintro e w5 ⟨rfl,rfl⟩
      go_wp2_with fail
      refine kz.mono ?_
      rintro e w7 ⟨rfl,rfl⟩
      go_wp2_with fail
      refine kd.mono ?_
      rintro e w6 ⟨rfl,hw6⟩
      have HR:=(show Hid _ from hw6)
      clear hw6 ke kd kz
      go_wp2_with fail
      go_ret
      exact⟨rfl,HR.out⟩
     ·simp only[Bool.true_and,if_true]
      go_enter Tryz.func31,Tryz.ntmps31
      go_wp2_with fail
      refine ko.mono ?_
      rintro e w2 ⟨rfl,hB2⟩
      have hB3:=hB2.alloc hB2.size (.cells #[.int .u64 d.va,.int .u64 d.se,.int .i64 d.fl] 39)
      have hx:=Bx3.box w2 d
      obtain⟨x0,x1,x2⟩:=hx.ce
      have ke:=KE.out _ hB3
      have ks:=KS.out _ hB3
      have kz:=KA.out _ hB3
      clear ko hB2 hB3 hx KE KD KA KS
      go_wp2_with fail
      refine(kx _).mono ?_
      rintro e w4 ⟨rfl,rfl⟩
      go_wp2_with fail
      refine ke.mono ?_
      rintro e w5 ⟨rfl,rfl⟩
      go_wp2_with fail
      refine kz.mono ?_
      rintro e w7 ⟨rfl,rfl⟩
      go_wp2_with fail
      refine ks.mono ?_
      rintro e w6 ⟨rfl,hw6⟩
      have HR:=(show Hid _ from hw6)
      clear hw6 ke ks kz
      go_wp2_with fail
      go_ret
      exact⟨rfl,HR.out⟩
end
def spP (H:He)(o p:Int):Bool×He:=match obO H o with
 | none=>(false,H)
 | some ob=>if mayB H p=false then (false,H) else if ob.proto=p then (true,H) else if ob.shut=true then (false,H) else
   if saB H o p=true then (false,H) else (true,setPF H o p)
def spG (S:List So)(o p:Int):List So×Bool:=match soO S o with
 | none=>(S,false)
 | some x=>if ((p == nulW) || (obS S p).isSome)=false then (S,false) else if x.proto=p then (S,true) else if x.shut=true then (S,false) else
   if repB S o (S.length+1) p=true then (S,false) else (protoG S o p,true)
section
variable {H H':He}{S:List So}{ts:List ByteArray}{o:Int}{k:ByteArray}{i:Nat}{ob:Ob}{x:So}{d:De}
theorem RelG.toH (h:RelG H S ts)(hx:IxOk H):RelH H S:=⟨h.len,fun i ob x a b=>hx.rel (h.ob i ob x a b) a⟩
theorem IxOk.drop (hx:IxOk H)(o:Int)(k:ByteArray):IxOk (dropF H o k).1:=by
 cases e1:obI H o with
 | none=>unfold dropF;rw[e1];exact hx
 | some i =>
   cases e3:H.obs[i]? with
   | none=>unfold dropF;rw[e1];simp only[e3];exact hx
   | some ob =>
     rw[dropF_at e1 e3]
     cases hp:plc ob.ps k with
     | none=>exact hx
     | some m =>
       refine hx.set (i:=i) (ob':=(ob.less m).lost) rfl (fun hk p hp2 => ?_)
       exact hx ob (List.mem_of_getElem? e3) hk p (List.mem_of_mem_eraseIdx hp2)
theorem IxOk.elem (hx:IxOk H)(o n v:Int):IxOk (elemF H o n v).1:=by
 cases e1:obI H o with
 | none=>unfold elemF;rw[e1];exact hx
 | some i =>
   cases e3:H.obs[i]? with
   | none=>unfold elemF;rw[e1];simp only[e3];exact hx
   | some ob =>
     rw[elemF_at e1 e3]
     split
     ·exact hx
     ·exact hx.el e3 _
theorem RelG.delete (h:RelG H S ts)(hx:IxOk H)(hd:DsOk S)(o:Int)(k:ByteArray) :
  RelG (delP H o k).2 (delG' S o k).1 ts∧(delP H o k).1=(delG' S o k).2∧IxOk (delP H o k).2∧DsOk (delG' S o k).1:=by
 have how:=(h.toH hx).own o k
 have kd:=h.drop o k
 unfold delP delG'
 rw[how]
 rcases h.io o with⟨e1,e2⟩ | ⟨i,ob,x,e1,e2,e3,e4,e5⟩
 ·have es:soO S o=none:=by unfold soO;rw[e2];rfl
  rw[es]
  exact⟨h,rfl,hx,hd⟩
 ·have es:soO S o=some x:=by unfold soO;rw[e2];exact e4
  have eo:obO H o=some ob:=by unfold obO;rw[e1];exact e3
  rw[es,eo]
  simp only[Option.bind_some,Option.map_some,Option.getD_some]
  cases hq:ownS x k with
  | none=>exact⟨h,rfl,hx,hd⟩
  | some d =>
    simp only
    by_cases c:(bits .and .i64 d.fl 4 == 0)=true
    ·rw[if_pos c,if_pos c]
     exact⟨h,rfl,hx,hd⟩
    ·rw[if_neg c,if_neg c]
     by_cases ck:ob.kind=1
     ·have cx:(x.kind == 1)=true:=by rw[←e5.kd,ck];rfl
      rw[if_pos cx,←ix_same,decide_eq_true ck,Bool.true_and]
      have cl:k≠lenS:=fun e=>c (by
       unfold ownS at hq
       rw[if_pos (by rw[←e5.kd];exact ck),if_pos e] at hq
       rw[←Option.some.inj hq]
       show(bits .and .i64 1 4 == 0)=true
       decide)
      cases hi:ixI k with
      | none =>
        simp only
        exact⟨kd.1,kd.2,hx.drop o k,hd.drop o k⟩
      | some n =>
        have ke:=h.elem o (n:Int) holW
        have ht:(elemI ob.el (n:Int)).isSome=true:=by
         unfold ownS at hq
         rw[if_pos (by rw[←e5.kd];exact ck),if_neg cl,←ix_same,hi] at hq
         simp only at hq
         rw[elS_I,←e5.el] at hq
         cases he:elemI ob.el (n:Int) with
         | none=>rw[he] at hq;cases hq
         | some v=>rfl
        simp only[Option.getD_some,ht]
        exact⟨ke.1,ke.2,hx.elem _ _ _,hd.elem _ _ _⟩
     ·have cx:¬(x.kind == 1)=true:=by
       rw[←e5.kd]
       simpa using ck
      rw[if_neg cx,decide_eq_false ck,Bool.false_and]
      cases hi:ixI k with
      | none =>
        simp only
        exact⟨kd.1,kd.2,hx.drop o k,hd.drop o k⟩
      | some n =>
        simp only
        exact⟨kd.1,kd.2,hx.drop o k,hd.drop o k⟩
theorem RelG.assign (h:RelG H S ts)(hx:IxOk H)(hd:DsOk S)(o:Int)(k:ByteArray)(v:Int)(he:EndsH H H.obs.length o) :
  RelG (asgP H o k v H.obs.length).2.2 (asgG S o k v).2.2 ts∧(asgP H o k v H.obs.length).1=(asgG S o k v).1∧(asgP H o k v H.obs.length).2.1=(asgG S o k v).2.1∧IxOk (asgP H o k v H.obs.length).2.2∧DsOk (asgG S o k v).2.2:=by
 have hl:lookF H k H.obs.length o=lookS S k (S.length+1) o:=by
  rw[look_ends (k:=k) H.obs.length (S.length+1) o he (by rw[h.len];omega)]
  exact(h.toH hx).look k _ o
 have kdf:=fun u=>h.define hx hd o k u
 have he':∀u,RelG (asgE (defP H o k u)).2.2 (asgD (dfG S o k u)).2.2 ts∧(asgE (defP H o k u)).1=(asgD (dfG S o k u)).1∧(asgE (defP H o k u)).2.1=(asgD (dfG S o k u)).2.1∧IxOk (asgE (defP H o k u)).2.2∧DsOk (asgD (dfG S o k u)).2.2:=fun u=>by
  obtain⟨a,b,c,e⟩:=kdf u
  unfold asgE asgD
  rw[b]
  exact⟨a,rfl,rfl,c,e⟩
 unfold asgP asgG
 rw[hl]
 cases lookS S k (S.length+1) o with
 | none=>exact he' _
 | some q =>
   obtain⟨p,d⟩:=q
   simp only
   by_cases c1:accB d=true
   ·rw[if_pos c1,if_pos c1]
    by_cases c2:d.se=undW
    ·rw[if_pos c2,if_pos c2];exact⟨h,rfl,rfl,hx,hd⟩
    ·rw[if_neg c2,if_neg c2];exact⟨h,rfl,rfl,hx,hd⟩
   ·rw[if_neg c1,if_neg c1]
    by_cases c2:(bits .and .i64 d.fl 1 == 0)=true
    ·rw[if_pos c2,if_pos c2];exact⟨h,rfl,rfl,hx,hd⟩
    ·rw[if_neg c2,if_neg c2]
     by_cases c3:p=o
     ·rw[if_pos c3,if_pos c3];exact he' _
     ·rw[if_neg c3,if_neg c3];exact he' _
theorem IxOk.raise (hx:IxOk H)(p:Int):IxOk (raiseH H p):=by
 unfold raiseH
 split
 ·exact hx
 ·split
  ·exact hx
  ·rename_i j _ _ ob e3
   exact hx.set (i:=j) (ob':={ ob with above:=true }) rfl (hx ob (List.mem_of_getElem? e3))
theorem IxOk.proto (hx:IxOk H)(o p:Int):IxOk (setPF H o p):=by
 unfold setPF
 split
 ·exact hx
 ·split
  ·exact hx
  ·rename_i i _ _ ob e3
   split
   ·exact hx
   ·have h0:=hx ob (List.mem_of_getElem? e3)
    have hr:IxOk (raiseH (touchH H ob.cell) p):=IxOk.raise (H:=touchH H ob.cell) (IxOk.obs (H:=H) hx rfl) p
    have hp:IxOk (preH H i ob p):=hr.set (i:=i) (ob':={ ob with proto:=p }) rfl h0
    unfold setPH
    split
    ·exact hp.set (i:=i) (ob':={ ob with proto:=p,shape:=(mvD H ob p).2.1,shaped:=(mvD H ob p).2.2 }) rfl h0
    ·exact hp
theorem DsOk.proto (hd:DsOk S)(o p:Int):DsOk (protoG S o p):=by
 unfold protoG
 split
 ·exact hd
 ·exact hd.on (f:=fun x=>{ x with proto:=p }) (fun x hx=>hd x hx) o
theorem RelG.setProto (h:RelG H S ts)(hx:IxOk H)(hd:DsOk S)(o p:Int) :
  RelG (spP H o p).2 (spG S o p).1 ts∧(spP H o p).1=(spG S o p).2∧IxOk (spP H o p).2∧DsOk (spG S o p).1:=by
 unfold spP spG
 rcases h.io o with⟨e1,e2⟩ | ⟨i,ob,x,e1,e2,e3,e4,e5⟩
 ·have es:soO S o=none:=by unfold soO;rw[e2];rfl
  have eo:obO H o=none:=by unfold obO;rw[e1];rfl
  rw[es,eo]
  exact⟨h,rfl,hx,hd⟩
 ·have es:soO S o=some x:=by unfold soO;rw[e2];exact e4
  have eo:obO H o=some ob:=by unfold obO;rw[e1];exact e3
  have ho:¬(18445336698825998337:Int)=o:=fun e=>by rw[←e,obS_null] at e2;cases e2
  have em:mayB H p=((p == nulW) || (obS S p).isSome):=by unfold mayB;rw[h.at p]
  rw[es,eo]
  simp only
  rw[←em,←e5.pr,←e5.sh,h.sa ho]
  by_cases c1:mayB H p=false
  ·rw[if_pos c1,if_pos c1];exact⟨h,rfl,hx,hd⟩
  ·rw[if_neg c1,if_neg c1]
   by_cases c2:ob.proto=p
   ·rw[if_pos c2,if_pos c2];exact⟨h,rfl,hx,hd⟩
   ·rw[if_neg c2,if_neg c2]
    by_cases c3:ob.shut=true
    ·rw[if_pos c3,if_pos c3];exact⟨h,rfl,hx,hd⟩
    ·rw[if_neg c3,if_neg c3]
     by_cases c4:saB H o p=true
     ·rw[if_pos c4,if_pos c4];exact⟨h,rfl,hx,hd⟩
     ·rw[if_neg c4,if_neg c4]
      exact⟨h.proto o p,rfl,hx.proto o p,hd.proto o p⟩
end
end Go.Proofs.YtahhionlbfhinabGreatDoor.Hp
