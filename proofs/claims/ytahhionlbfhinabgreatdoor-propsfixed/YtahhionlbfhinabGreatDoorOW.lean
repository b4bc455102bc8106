/- XL, YE, YG, YH, YK2 -/
import Derived.Test.YtahhionlbfhinabGreatDoorB38
import Derived.Test.YtahhionlbfhinabGreatDoorB39
import Derived.Test.YtahhionlbfhinabGreatDoorB36
import Derived.Test.YtahhionlbfhinabGreatDoorB37
set_option linter.unusedVariables false
set_option linter.unusedSimpArgs false
set_option maxRecDepth 100000
set_option maxHeartbeats 40000000
namespace Go.Proofs.YtahhionlbfhinabGreatDoor.Hp
open Go.RowKit
section
variable {w0 w:World}{X:Nat→Prop}{hb:Nat}{H:He}{S:List So}{vo vt:SV}{ts:List ByteArray}{n:Nat}
end
section
variable {w wr w':World}{X Y:Nat→Prop}{hb bs:Nat}{H:He}{S:List So}{vo:SV}{n:Nat}
theorem LawP.set (h:LawP w wr X hb bs H S vo n){b:Nat}(hx:X b)(hb0:w.heap.size≤b)(hne:b≠bs)(j:Nat)(v:Value):LawP w (wr.setCell ⟨b,j,none⟩ v) X hb bs H S vo n:=by
 refine⟨h.two.set hx hb0 j v,h.bx,?_,h.ord,h.lo,h.tb⟩
 unfold BxS
 rw[heap_other _ _ _ (show bs≠b from fun e=>hne e.symm)]
 exact h.box
end
end Go.Proofs.YtahhionlbfhinabGreatDoor.Hp
namespace Go.Proofs.YtahhionlbfhinabGreatDoor.Hp
open Go.RowKit
structure So.gd (x:So):Prop where
 len:x.nm.length=x.ds.length
 un:x.nm.Nodup
 ix:x.kind=1→∀k∈x.nm,k≠lenS∧rxI k=none
 el:x.kind≠1→x.el=[]
 e4:x.el.length≤4096
section
variable {H H':He}{S:List So}{ts:List ByteArray}{o:Int}{k k2:ByteArray}{i:Nat}{ob:Ob}{x:So}{d:De}{n:Nat}
theorem RelB.gd (h:RelB ob x)(hn:ob.neat)(hx:ob.kind=1→∀p∈ob.ps,p.key≠lenS∧ixI p.key=none)(he:ob.kind≠1→ob.el=[])(hl:ob.el.length≤4096):x.gd:=by
 refine⟨?_,?_,fun hk q hq => ?_,fun hk => ?_,?_⟩
 ·rw[h.nm,h.ds,List.length_map,List.length_map]
 ·rw[h.nm];exact hn.kn
 ·rw[h.nm] at hq
  obtain⟨p,hp,rfl⟩:=List.mem_map.1 hq
  obtain⟨a,b⟩:=hx (by rw[h.kd];exact hk) p hp
  exact⟨a,by rw[←ix_same];exact b⟩
 ·rw[←h.el];exact he (by rw[h.kd];exact hk)
 ·rw[←h.el];exact hl
theorem OrP.gd (h:OrP H S ts n)(hw:H.wf):∀x∈S,x.gd:=fun x hx=>by
 obtain⟨i,hi⟩:=List.mem_iff_getElem?.1 hx
 have hil:i<H.obs.length:=by rw[h.rel.len];exact(List.getElem?_eq_some_iff.1 hi).1
 have e1:H.obs[i]?=some H.obs[i]:=List.getElem?_eq_getElem hil
 have hb:=h.rel.ob i _ _ e1 hi
 have hm:=List.mem_of_getElem? e1
 exact hb.gd (h.inv.neat _ hm) (h.ix _ hm) (h.el _ hm) (hw.ob _ hm).el
theorem plS_at {nm:List ByteArray}(hu:nm.Nodup){m:Nat}(h:nm[m]?=some k):plS nm k=some m:=by
 unfold plS
 rw[List.findIdx?_eq_some_iff_getElem]
 have hm:=(List.getElem?_eq_some_iff.1 h).1
 refine⟨hm,by rw[(List.getElem?_eq_some_iff.1 h).2];exact decide_eq_true rfl,fun j hj => ?_⟩
 have hjl:j<nm.length:=by omega
 simp only[decide_eq_true_eq]
 intro e
 have:=(List.getElem?_inj hjl hu).1 (by rw[List.getElem?_eq_getElem hjl,e,h]:nm[j]?=nm[m]?)
 omega
theorem plS_none {nm:List ByteArray}(h:plS nm k=none):k∉nm:=by
 unfold plS at h
 rw[List.findIdx?_eq_none_iff] at h
 intro hk
 have:=h k hk
 simp at this
theorem plS_some {nm:List ByteArray}{m:Nat}(h:plS nm k=some m):nm[m]?=some k:=by
 unfold plS at h
 rw[List.findIdx?_eq_some_iff_getElem] at h
 obtain⟨h1,h2,_⟩:=h
 rw[List.getElem?_eq_getElem h1]
 exact congrArg some (of_decide_eq_true h2)
theorem plS_not {nm:List ByteArray}(h:k∉nm):plS nm k=none:=by
 unfold plS
 rw[List.findIdx?_eq_none_iff]
 intro u hu
 simp only[decide_eq_false_iff_not]
 intro e
 exact h (e ▸ hu)
theorem get_put (hg:x.gd)(k k2:ByteArray)(d:De):getS (putS x k d) k2=if k2=k then some (keptD d) else getS x k2:=by
 unfold putS
 cases hp:plS x.nm k with
 | some m =>
   have hk:=plS_some hp
   have hm:=(List.getElem?_eq_some_iff.1 hk).1
   unfold getS
   simp only
   by_cases c:k2=k
   ·rw[if_pos c,c,hp]
    simp only[Option.bind_some]
    rw[List.getElem?_set_self (by rw[←hg.len];exact hm)]
   ·rw[if_neg c]
    cases hq:plS x.nm k2 with
    | none=>rfl
    | some m2 =>
      simp only[Option.bind_some]
      rw[List.getElem?_set_ne (fun e=>c (by
       have:=plS_some hq
       rw[←e,hk] at this
       exact(Option.some.inj this).symm))]
 | none =>
   have hk:=plS_none hp
   unfold getS
   simp only
   by_cases c:k2=k
   ·rw[if_pos c,c]
    have h1:(x.nm++[k])[x.nm.length]?=some k:=by rw[List.getElem?_append_right (Nat.le_refl _),Nat.sub_self];rfl
    have h2:(x.nm++[k]).Nodup:=by
     rw[List.nodup_append]
     refine⟨hg.un,List.Pairwise.cons (fun _ h=>by simp at h) List.Pairwise.nil,fun a ha b hb e => ?_⟩
     rw[List.mem_singleton.1 hb] at e
     exact hk (e ▸ ha)
    rw[plS_at h2 h1]
    simp only[Option.bind_some]
    rw[List.getElem?_append_right (by rw[hg.len];exact Nat.le_refl _),hg.len,Nat.sub_self]
    rfl
   ·rw[if_neg c]
    cases hq:plS x.nm k2 with
    | none =>
      rw[plS_not (fun hm=>by
       rcases List.mem_append.1 hm with r | r
       ·exact plS_none hq r
       ·exact c (List.mem_singleton.1 r))]
      rfl
    | some m2 =>
      have h1:=plS_some hq
      have hm:=(List.getElem?_eq_some_iff.1 h1).1
      have e:plS (x.nm++[k]) k2=some m2:=by
       unfold plS at hq ⊢
       rw[List.findIdx?_append,hq]
       rfl
      rw[e]
      simp only[Option.bind_some]
      rw[List.getElem?_append_left (by rw[←hg.len];exact hm)]
theorem own_put (hg:x.gd)(k k2:ByteArray)(d:De)(hk:x.kind=1→k≠lenS∧rxI k=none):ownS (putS x k d) k2=if k2=k then some (keptD d) else ownS x k2:=by
 have hkd:(putS x k d).kind=x.kind:=by unfold putS;split <;> rfl
 have hel:(putS x k d).el=x.el:=by unfold putS;split <;> rfl
 unfold ownS
 rw[hkd,hel]
 by_cases c:x.kind=1
 ·obtain⟨a,b⟩:=hk c
  rw[if_pos c,if_pos c]
  by_cases c2:k2=lenS
  ·rw[if_pos c2,if_pos c2,if_neg (fun e:k2=k=>a (e.symm.trans c2))]
  ·rw[if_neg c2,if_neg c2]
   cases hr:rxI k2 with
   | some m =>
     simp only
     rw[if_neg (fun e:k2=k=>by rw[e,b] at hr;cases hr)]
   | none=>exact get_put hg k k2 d
 ·rw[if_neg c,if_neg c]
  exact get_put hg k k2 d
end
end Go.Proofs.YtahhionlbfhinabGreatDoor.Hp
namespace Go.Proofs.YtahhionlbfhinabGreatDoor.Hp
open Go.RowKit
structure Kp (x x':So):Prop where
 kd:x'.kind=x.kind
 sh:x.shut=true→x'.shut=true∧x'.proto=x.proto∧(x.kind≠1→∀k,(ownS x' k).isSome=true→(ownS x k).isSome=true)
 fx:∀k d,ownS x k=some d→(bits .and .i64 d.fl 4 == 0)=true→∃e,ownS x' k=some e∧bits .andNot .i64 e.fl 1=bits .andNot .i64 d.fl 1∧((bits .and .i64 d.fl 1 == 0)=true→e=d)
section
variable {H H':He}{S S':List So}{ts:List ByteArray}{o:Int}{k k2:ByteArray}{i:Nat}{ob:Ob}{x:So}{d:De}{n:Nat}
theorem Kp.same (x:So):Kp x x:=⟨rfl,fun h=>⟨h,rfl,fun _ _ q=>q⟩,fun k d h _=>⟨d,h,rfl,fun _=>rfl⟩⟩
theorem get_iff (hu:x.nm.Nodup):getS x k=some d↔∃m:Nat,x.nm[m]?=some k∧x.ds[m]?=some d:=by
 unfold getS
 constructor
 ·intro h
  cases hp:plS x.nm k with
  | none=>rw[hp] at h;cases h
  | some m=>rw[hp] at h;exact⟨m,plS_some hp,h⟩
 ·rintro⟨m,h1,h2⟩
  rw[plS_at hu h1]
  exact h2
theorem get_del (hu:x.nm.Nodup)(k k2:ByteArray):getS (delS x k) k2=if k2=k then none else getS x k2:=by
 unfold delS
 cases hp:plS x.nm k with
 | none =>
   simp only
   by_cases c:k2=k
   ·rw[if_pos c,c];unfold getS;rw[hp];rfl
   ·rw[if_neg c]
 | some m0 =>
   simp only
   have h0:=plS_some hp
   have hu2:(x.nm.eraseIdx m0).Nodup:=hu.sublist (List.eraseIdx_sublist x.nm m0)
   by_cases c:k2=k
   ·rw[if_pos c,c]
    cases hq:getS { x with nm:=x.nm.eraseIdx m0,ds:=x.ds.eraseIdx m0 } k with
    | none=>rfl
    | some d =>
      obtain⟨m,h1,_⟩:=(get_iff (x:={ x with nm:=x.nm.eraseIdx m0,ds:=x.ds.eraseIdx m0 }) hu2).1 hq
      have h1:(x.nm.eraseIdx m0)[m]?=some k:=h1
      rw[List.getElem?_eraseIdx] at h1
      have h0l:=(List.getElem?_eq_some_iff.1 h0).1
      split at h1
      ·rename_i c1
       have:=(List.getElem?_inj (by omega) hu).1 (h1.trans h0.symm)
       omega
      ·rename_i c1
       have:=(List.getElem?_inj (List.getElem?_eq_some_iff.1 h1).1 hu).1 (h1.trans h0.symm)
       omega
   ·rw[if_neg c]
    apply Option.ext
    intro d
    rw[get_iff hu,get_iff (x:={ x with nm:=x.nm.eraseIdx m0,ds:=x.ds.eraseIdx m0 }) hu2]
    constructor
    ·rintro⟨m,h1,h2⟩
     have h1:(x.nm.eraseIdx m0)[m]?=some k2:=h1
     have h2:(x.ds.eraseIdx m0)[m]?=some d:=h2
     rw[List.getElem?_eraseIdx] at h1 h2
     split at h1
     ·rename_i c1
      rw[if_pos c1] at h2
      exact⟨m,h1,h2⟩
     ·rename_i c1
      rw[if_neg c1] at h2
      exact⟨m+1,h1,h2⟩
    ·rintro⟨m,h1,h2⟩
     by_cases c1:m<m0
     ·refine⟨m,?_,?_⟩
      ·show(x.nm.eraseIdx m0)[m]?=some k2
       rw[List.getElem?_eraseIdx,if_pos c1];exact h1
      ·show(x.ds.eraseIdx m0)[m]?=some d
       rw[List.getElem?_eraseIdx,if_pos c1];exact h2
     ·have c2:m≠m0:=fun e=>c (by rw[e,h0] at h1;exact(Option.some.inj h1).symm)
      refine⟨m - 1,?_,?_⟩
      ·show(x.nm.eraseIdx m0)[m - 1]?=some k2
       rw[List.getElem?_eraseIdx,if_neg (by omega),show m - 1+1=m by omega];exact h1
      ·show(x.ds.eraseIdx m0)[m - 1]?=some d
       rw[List.getElem?_eraseIdx,if_neg (by omega),show m - 1+1=m by omega];exact h2
theorem own_del (hu:x.nm.Nodup)(k k2:ByteArray)(hk:x.kind=1→k≠lenS∧rxI k=none):ownS (delS x k) k2=if k2=k then none else ownS x k2:=by
 have hkd:(delS x k).kind=x.kind:=by unfold delS;split <;> rfl
 have hel:(delS x k).el=x.el:=by unfold delS;split <;> rfl
 unfold ownS
 rw[hkd,hel]
 by_cases c:x.kind=1
 ·obtain⟨a,b⟩:=hk c
  rw[if_pos c,if_pos c]
  by_cases c2:k2=lenS
  ·rw[if_pos c2,if_pos c2,if_neg (fun e:k2=k=>a (e.symm.trans c2))]
  ·rw[if_neg c2,if_neg c2]
   cases hr:rxI k2 with
   | some m =>
     simp only
     rw[if_neg (fun e:k2=k=>by rw[e,b] at hr;cases hr)]
   | none=>exact get_del hu k k2
 ·rw[if_neg c,if_neg c]
  exact get_del hu k k2
theorem Kp.els (hk:x.kind=1)(l:List Int):Kp x { x with el:=l }:=by
 refine⟨rfl,fun h=>⟨h,rfl,fun c=>absurd hk c⟩,fun k d h hc => ?_⟩
 unfold ownS at h ⊢
 simp only
 rw[if_pos hk] at h ⊢
 by_cases c:k=lenS
 ·rw[if_pos c] at h ⊢
  refine⟨_,rfl,by rw[←Option.some.inj h],fun hw => ?_⟩
  rw[←Option.some.inj h] at hw
  have hw:(bits .and .i64 1 1 == 0)=true:=hw
  exact absurd hw (by decide)
 ·rw[if_neg c] at h ⊢
  cases hr:rxI k with
  | some m =>
    rw[hr] at h
    simp only at h
    cases he:elS x.el (m:Int) with
    | none=>rw[he] at h;cases h
    | some v =>
      rw[he] at h
      rw[←Option.some.inj h] at hc
      have hc:(bits .and .i64 7 4 == 0)=true:=hc
      exact absurd hc (by decide)
  | none =>
    rw[hr] at h
    exact⟨d,h,rfl,fun _=>rfl⟩
theorem own_same {x':So}(h1:x'.kind=x.kind)(h2:x'.nm=x.nm)(h3:x'.ds=x.ds)(h4:x'.el=x.el)(k:ByteArray):ownS x' k=ownS x k:=by
 unfold ownS getS
 rw[h1,h2,h3,h4]
theorem Kp.shut (x:So):Kp x { x with shut:=true } :=
 ⟨rfl,fun _=>⟨rfl,rfl,fun _ k q=>by rw[own_same (x:=x) (x':={ x with shut:=true }) rfl rfl rfl rfl k] at q;exact q⟩,fun k d h _=>⟨d,(own_same (x:=x) (x':={ x with shut:=true }) rfl rfl rfl rfl k).trans h,rfl,fun _=>rfl⟩⟩
theorem Kp.proto (p:Int)(hs:x.shut=false):Kp x { x with proto:=p } :=
 ⟨rfl,fun h=>(by rw[hs] at h;cases h),fun k d h _=>⟨d,(own_same (x:=x) (x':={ x with proto:=p }) rfl rfl rfl rfl k).trans h,rfl,fun _=>rfl⟩⟩
theorem Kp.del (hu:x.nm.Nodup)(hk:x.kind=1→k≠lenS∧rxI k=none)(hd:∀d,ownS x k=some d→¬(bits .and .i64 d.fl 4 == 0)=true):Kp x (delS x k):=by
 refine⟨by unfold delS;split <;> rfl,fun h=>⟨by unfold delS;split <;> exact h,by unfold delS;split <;> rfl,fun _ k2 q => ?_⟩,fun k2 d h hc => ?_⟩
 ·rw[own_del hu k k2 hk] at q
  split at q
  ·cases q
  ·exact q
 ·by_cases c:k2=k
  ·rw[c] at h
   exact absurd hc (hd d h)
  ·exact⟨d,by rw[own_del hu k k2 hk,if_neg c];exact h,rfl,fun _=>rfl⟩
theorem Kp.put (hg:x.gd)(hk:x.kind=1→k≠lenS∧rxI k=none)(d:De)(hs:ownS x k=none→x.shut=false)
  (hd:∀old,ownS x k=some old→(bits .and .i64 old.fl 4 == 0)=true→bits .andNot .i64 (keptD d).fl 1=bits .andNot .i64 old.fl 1∧((bits .and .i64 old.fl 1 == 0)=true→keptD d=old)):Kp x (putS x k d):=by
 refine⟨by unfold putS;split <;> rfl,fun h=>⟨by unfold putS;split <;> exact h,by unfold putS;split <;> rfl,fun _ k2 q => ?_⟩,fun k2 e h hc => ?_⟩
 ·rw[own_put hg k k2 d hk] at q
  split at q
  ·rename_i c
   cases hq:ownS x k2 with
   | some y=>rfl
   | none=>rw[hs (c ▸ hq)] at h;cases h
  ·exact q
 ·by_cases c:k2=k
  ·rw[c] at h
   obtain⟨a,b⟩:=hd e h hc
   exact⟨keptD d,by rw[own_put hg k k2 d hk,if_pos c],a,b⟩
  ·exact⟨e,by rw[own_put hg k k2 d hk,if_neg c];exact h,rfl,fun _=>rfl⟩
end
end Go.Proofs.YtahhionlbfhinabGreatDoor.Hp
namespace Go.Proofs.YtahhionlbfhinabGreatDoor.Hp
open Go.RowKit
section
variable {H H':He}{S S':List So}{ts:List ByteArray}{o o2:Int}{k k2:ByteArray}{i:Nat}{ob:Ob}{x y:So}{d:De}{n:Nat}
def KpS (S S':List So):Prop:=∀o y,soO S o=some y→∃y',soO S' o=some y'∧Kp y y'
theorem KpS.same (S:List So):KpS S S:=fun o y h=>⟨y,h,Kp.same y⟩
theorem so_on2 (f:So→So)(h:soO S o2=some y):soO (onS S o f) o2=some y∨(soO S o=some y∧soO (onS S o f) o2=some (f y)):=by
 cases hi:obS S o with
 | none=>rw[onS_no hi];exact Or.inl h
 | some i =>
   cases hs:S[i]? with
   | none =>
     have e:onS S o f=S:=by unfold onS;rw[hi];simp only[hs]
     rw[e];exact Or.inl h
   | some x =>
     have e:onS S o f=S.set i (f x):=onS_at hi hs
     have e2:obS (S.set i (f x)) o2=obS S o2:=by unfold obS;rw[List.length_set]
     unfold soO at h
     cases hj:obS S o2 with
     | none=>rw[hj] at h;cases h
     | some j =>
       rw[hj] at h
       have h:S[j]?=some y:=h
       by_cases c:i=j
       ·have hxy:x=y:=by rw[c,h] at hs;exact(Option.some.inj hs).symm
        refine Or.inr ⟨by unfold soO;rw[hi];show S[i]?=some y;rw[hs,hxy],?_⟩
        unfold soO
        rw[e,e2,hj,←c]
        simp only[Option.bind_some]
        rw[List.getElem?_set_self (List.getElem?_eq_some_iff.1 hs).1,hxy]
       ·refine Or.inl ?_
        unfold soO
        rw[e,e2,hj]
        simp only[Option.bind_some]
        rw[List.getElem?_set_ne c]
        exact h
theorem KpS.on (f:So→So)(hf:∀x,soO S o=some x→Kp x (f x)):KpS S (onS S o f):=fun o2 y h=>by
 rcases so_on2 (o:=o) f h with q | ⟨q1,q2⟩
 ·exact⟨y,q,Kp.same y⟩
 ·exact⟨f y,q2,hf y q1⟩
theorem so_mem (hs:soO S o=some x):x∈S:=by
 unfold soO at hs
 cases hi:obS S o with
 | none=>rw[hi] at hs;cases hs
 | some i =>
   rw[hi] at hs
   exact List.mem_of_getElem? (show S[i]?=some x from hs)
theorem lay_kp (hs:soO S o=some x)(hg:x.gd)(k:ByteArray)(d:De)(h0:ownS x k=none→x.shut=false)
  (hd:∀old,ownS x k=some old→(bits .and .i64 old.fl 4 == 0)=true→bits .andNot .i64 (keptD d).fl 1=bits .andNot .i64 old.fl 1∧((bits .and .i64 old.fl 1 == 0)=true→keptD d=old)):KpS S (layG S o x k d).1:=by
 have put:(x.kind=1→k≠lenS∧rxI k=none)→KpS S (putG S o k d):=fun hk=>KpS.on (fun x=>putS x k d) (fun y hy=>by
  rw[hs] at hy
  rw[←Option.some.inj hy]
  exact Kp.put hg hk d h0 hd)
 have els:x.kind=1→∀f:List Int→List Int,KpS S (onS S o (fun x=>{ x with el:=f x.el })):=fun hk f=>KpS.on (fun x=>{ x with el:=f x.el }) (fun y hy=>by
  rw[hs] at hy
  rw[←Option.some.inj hy]
  exact Kp.els hk _)
 unfold layG
 split
 ·rename_i c
  split
  ·split
   ·unfold lenG
    split
    ·exact KpS.same S
    ·exact els c (fun l=>resL l _)
   ·exact KpS.same S
  ·rename_i cl
   split
   ·split
    ·unfold elemG
     split
     ·exact KpS.same S
     ·exact els c (fun l=>(padE l _).set _ _)
    ·exact KpS.same S
   ·rename_i hr
    exact put (fun _=>⟨cl,hr⟩)
 ·rename_i c
  exact put (fun q=>absurd q c)
theorem kept_ok' (h:d.ok):keptD d=d:=by
 have e:keptI d.fl=d.fl:=by
  obtain⟨a,b,c⟩:=h
  unfold keptI
  split <;> omega
 unfold keptD
 rw[e]
theorem may_kept_all:∀f d:Fin 16,(!((bits .and .i64 (f.val:Int) 8 != 0) || (bits .and .i64 (d.val:Int) 8 != 0) || (bits .and .i64 (f.val:Int) 6 != bits .and .i64 (d.val:Int) 6)))=true→bits .andNot .i64 (keptI (d.val:Int)) 1=bits .andNot .i64 (f.val:Int) 1:=by decide +kernel
theorem may_kept {old:De}(ho:old.ok)(h0:0≤d.fl)(h1:d.fl≤15)(hm:rmayD old d=true)(hc:(bits .and .i64 old.fl 4 == 0)=true) :
  bits .andNot .i64 (keptD d).fl 1=bits .andNot .i64 old.fl 1∧((bits .and .i64 old.fl 1 == 0)=true→keptD d=old):=by
 unfold rmayD at hm
 rw[Bool.or_eq_true,Bool.or_eq_true] at hm
 rcases hm with(q | q) | q
 ·unfold deqB at q
  simp only[Bool.and_eq_true,beq_iff_eq] at q
  have e:d=old:=by
   obtain⟨a,b,c⟩:=q
   cases d;cases old
   simp only at a b c
   rw[a,b,c]
  rw[e,kept_ok' ho]
  exact⟨rfl,fun _=>rfl⟩
 ·have:bits .and .i64 old.fl 4=0:=by simpa using hc
  rw[this] at q
  exact absurd q (by decide)
 ·rw[Bool.and_eq_true] at q
  obtain⟨q1,q2⟩:=q
  refine⟨?_,fun hw => ?_⟩
  ·have:=may_kept_all ⟨old.fl.toNat,by have:=ho.1;have:=ho.2.1;omega⟩ ⟨d.fl.toNat,by omega⟩
   simp only at this
   rw[Int.toNat_of_nonneg h0,Int.toNat_of_nonneg ho.1] at this
   exact this q1
  ·have:bits .and .i64 old.fl 1=0:=by simpa using hw
   rw[this] at q2
   exact absurd q2 (by decide)
theorem df_kp (hg:∀x∈S,x.gd)(hd:DsOk S)(o:Int)(k:ByteArray)(u:Ws):KpS S (dfG S o k u).1:=by
 unfold dfG
 cases hs:soO S o with
 | none=>exact KpS.same S
 | some x =>
   have hx:=so_mem hs
   simp only
   by_cases c:rnoB u=true
   ·rw[if_pos c];exact KpS.same S
   ·rw[if_neg c]
    have cn:rnoB u=false:=by simpa using c
    cases hq:ownS x k with
    | none =>
      simp only
      by_cases c2:x.shut=true
      ·rw[if_pos c2];exact KpS.same S
      ·rw[if_neg c2]
       exact lay_kp hs (hg x hx) k _ (fun _=>by simpa using c2) (fun old e=>by rw[hq] at e;cases e)
    | some old =>
      simp only
      by_cases c2:rmayD old (rWishD old u)=true
      ·rw[if_pos c2]
       have hok:=own_ok hd hx hq
       obtain⟨w1,w2,w3⟩:=wish_fl old u hok cn
       rw[w1] at w2 w3
       exact lay_kp hs (hg x hx) k _ (fun e=>by rw[hq] at e;cases e) (fun y e hc=>by
        rw[hq] at e
        rw[←Option.some.inj e] at hc ⊢
        exact may_kept hok w2 w3 c2 hc)
      ·rw[if_neg c2];exact KpS.same S
theorem asg_kp (hg:∀x∈S,x.gd)(hd:DsOk S)(o:Int)(k:ByteArray)(v:Int):KpS S (asgG S o k v).2.2:=by
 unfold asgG asgD
 split
 ·exact df_kp hg hd o k _
 ·split
  ·split
   ·exact KpS.same S
   ·exact KpS.same S
  ·split
   ·exact KpS.same S
   ·split
    ·exact df_kp hg hd o k _
    ·exact df_kp hg hd o k _
theorem sp_kp (o p:Int):KpS S (spG S o p).1:=by
 unfold spG
 cases hs:soO S o with
 | none=>exact KpS.same S
 | some x =>
   simp only
   split
   ·exact KpS.same S
   ·split
    ·exact KpS.same S
    ·split
     ·exact KpS.same S
     ·rename_i c
      split
      ·exact KpS.same S
      ·unfold protoG
       split
       ·exact KpS.same S
       ·exact KpS.on (fun x=>{ x with proto:=p }) (fun y hy=>by
         rw[hs] at hy
         rw[←Option.some.inj hy]
         exact Kp.proto p (by simpa using c))
theorem shut_kp (o:Int):KpS S (shutG S o):=KpS.on (fun x=>{ x with shut:=true }) (fun y _=>Kp.shut y)
theorem make_kp (kind p:Int):KpS S (makeG S kind p):=fun o y h=>by
 unfold makeG
 split
 ·exact⟨y,h,Kp.same y⟩
 ·refine⟨y,?_,Kp.same y⟩
  unfold soO at h ⊢
  cases hi:obS S o with
  | none=>rw[hi] at h;cases h
  | some i =>
    rw[hi] at h
    have h:S[i]?=some y:=h
    have hil:=(List.getElem?_eq_some_iff.1 h).1
    have e:obS (S++[newS kind p]) o=some i:=by
     unfold obS at hi ⊢
     rw[List.length_append]
     split at hi
     ·rename_i c
      rw[if_pos ⟨c.1,by have:=c.2;omega⟩]
      exact hi
     ·cases hi
    rw[e]
    simp only[Option.bind_some]
    rw[List.getElem?_append_left hil]
    exact h
theorem del_kp (hg:∀x∈S,x.gd)(o:Int)(k:ByteArray):KpS S (delG' S o k).1:=by
 unfold delG'
 cases hs:soO S o with
 | none=>exact KpS.same S
 | some x =>
   have hx:=hg x (so_mem hs)
   simp only[Option.bind_some,Option.map_some,Option.getD_some]
   cases hq:ownS x k with
   | none=>exact KpS.same S
   | some d =>
     simp only
     by_cases c:(bits .and .i64 d.fl 4 == 0)=true
     ·rw[if_pos c];exact KpS.same S
     ·rw[if_neg c]
      have drop:(x.kind=1→k≠lenS∧rxI k=none)→KpS S (dropG S o k).1:=fun hk=>KpS.on (fun x=>delS x k) (fun y hy=>by
       rw[hs] at hy
       rw[←Option.some.inj hy]
       exact Kp.del hx.un hk (fun e he=>by rw[hq] at he;rw[←Option.some.inj he];exact c))
      by_cases ck:(x.kind == 1)=true
      ·have hk:x.kind=1:=by simpa using ck
       rw[if_pos ck]
       cases hr:rxI k with
       | some m =>
         simp only
         unfold elemG
         split
         ·exact KpS.same S
         ·exact KpS.on (fun x=>{ x with el:=(padE x.el ((m:Int)).toNat).set ((m:Int)).toNat holW }) (fun y hy=>by
           rw[hs] at hy
           rw[←Option.some.inj hy]
           exact Kp.els hk _)
       | none =>
         exact drop (fun _=>⟨fun e=>c (by
          unfold ownS at hq
          rw[if_pos hk,if_pos e] at hq
          rw[←Option.some.inj hq]
          show(bits .and .i64 1 4 == 0)=true
          decide),hr⟩)
      ·rw[if_neg ck]
       exact drop (fun q=>absurd (by simpa using q) ck)
end
end Go.Proofs.YtahhionlbfhinabGreatDoor.Hp
namespace Go.Proofs.YtahhionlbfhinabGreatDoor.Hp
open Go.RowKit
section
variable {H H':He}{S S':List So}{ts:List ByteArray}{o o2:Int}{k k2:ByteArray}{i:Nat}{ob:Ob}{x y:So}{d:De}{n:Nat}
theorem step_kp (hg:∀x∈S,x.gd)(hd:DsOk S)(a:OpP):KpS S (pS S a):=by
 unfold pS
 split
 ·exact make_kp _ _
 ·split
  ·exact df_kp hg hd _ _ _
  ·split
   ·exact del_kp hg _ _
   ·split
    ·exact asg_kp hg hd _ _ _
    ·split
     ·exact sp_kp _ _
     ·split
      ·exact shut_kp _
      ·exact KpS.same S
end
end Go.Proofs.YtahhionlbfhinabGreatDoor.Hp
