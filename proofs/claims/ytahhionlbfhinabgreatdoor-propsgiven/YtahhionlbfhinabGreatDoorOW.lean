/- YE, YF, XP2 -/
import Derived.Test.YtahhionlbfhinabGreatDoorB36
import Derived.Test.YtahhionlbfhinabGreatDoorB39
import Derived.Test.YtahhionlbfhinabGreatDoorB38
set_option linter.unusedVariables false
set_option linter.unusedSimpArgs false
set_option maxRecDepth 100000
set_option maxHeartbeats 40000000
namespace Go.Proofs.YtahhionlbfhinabGreatDoor.Hp
open Go.RowKit
structure So.gd (x:So):Prop where
 len:x.nm.length=x.ds.length
 un:x.nm.Nodup
 ix:x.kind=1→∀k∈x.nm,k≠lenS∧rxI k=none
 el:x.kind≠1→x.el=[]
 e4:x.el.length≤4096
section
variable {H H':He}{S:List So}{ts:List ByteArray}{o:Int}{k k2:ByteArray}{i:Nat}{ob:Ob}{x:So}{d:De}{n:Nat}
theorem RelB.gd (h:RelB ob x)(hn:ob.neat)(hx:ob.kind=1→∀p∈ob.ps,p.key≠lenS∧ixI p.key=none)(he:ob.kind≠1→ob.el=[])(hl:ob.el.length≤4096):x.gd:=by
 refine⟨?_,?_,fun hk q hq => ?_,fun hk => ?_,?_⟩
 ·rw[h.nm,h.ds,List.length_map,List.length_map]
 ·rw[h.nm];exact hn.kn
 ·rw[h.nm] at hq
  obtain⟨p,hp,rfl⟩:=List.mem_map.1 hq
  obtain⟨a,b⟩:=hx (by rw[h.kd];exact hk) p hp
  exact⟨a,by rw[←ix_same];exact b⟩
 ·rw[←h.el];exact he (by rw[h.kd];exact hk)
 ·rw[←h.el];exact hl
theorem OrP.gd (h:OrP H S ts n)(hw:H.wf):∀x∈S,x.gd:=fun x hx=>by
 obtain⟨i,hi⟩:=List.mem_iff_getElem?.1 hx
 have hil:i<H.obs.length:=by rw[h.rel.len];exact(List.getElem?_eq_some_iff.1 hi).1
 have e1:H.obs[i]?=some H.obs[i]:=List.getElem?_eq_getElem hil
 have hb:=h.rel.ob i _ _ e1 hi
 have hm:=List.mem_of_getElem? e1
 exact hb.gd (h.inv.neat _ hm) (h.ix _ hm) (h.el _ hm) (hw.ob _ hm).el
theorem plS_at {nm:List ByteArray}(hu:nm.Nodup){m:Nat}(h:nm[m]?=some k):plS nm k=some m:=by
 unfold plS
 rw[List.findIdx?_eq_some_iff_getElem]
 have hm:=(List.getElem?_eq_some_iff.1 h).1
 refine⟨hm,by rw[(List.getElem?_eq_some_iff.1 h).2];exact decide_eq_true rfl,fun j hj => ?_⟩
 have hjl:j<nm.length:=by omega
 simp only[decide_eq_true_eq]
 intro e
 have:=(List.getElem?_inj hjl hu).1 (by rw[List.getElem?_eq_getElem hjl,e,h]:nm[j]?=nm[m]?)
 omega
theorem plS_none {nm:List ByteArray}(h:plS nm k=none):k∉nm:=by
 unfold plS at h
 rw[List.findIdx?_eq_none_iff] at h
 intro hk
 have:=h k hk
 simp at this
theorem plS_some {nm:List ByteArray}{m:Nat}(h:plS nm k=some m):nm[m]?=some k:=by
 unfold plS at h
 rw[List.findIdx?_eq_some_iff_getElem] at h
 obtain⟨h1,h2,_⟩:=h
 rw[List.getElem?_eq_getElem h1]
 exact congrArg some (of_decide_eq_true h2)
theorem plS_not {nm:List ByteArray}(h:k∉nm):plS nm k=none:=by
 unfold plS
 rw[List.findIdx?_eq_none_iff]
 intro u hu
 simp only[decide_eq_false_iff_not]
 intro e
 exact h (e ▸ hu)
theorem get_put (hg:x.gd)(k k2:ByteArray)(d:De):getS (putS x k d) k2=if k2=k then some (keptD d) else getS x k2:=by
 unfold putS
 cases hp:plS x.nm k with
 | some m =>
   have hk:=plS_some hp
   have hm:=(List.getElem?_eq_some_iff.1 hk).1
   unfold getS
   simp only
   by_cases c:k2=k
   ·rw[if_pos c,c,hp]
    simp only[Option.bind_some]
    rw[List.getElem?_set_self (by rw[←hg.len];exact hm)]
   ·rw[if_neg c]
    cases hq:plS x.nm k2 with
    | none=>rfl
    | some m2 =>
      simp only[Option.bind_some]
      rw[List.getElem?_set_ne (fun e=>c (by
       have:=plS_some hq
       rw[←e,hk] at this
       exact(Option.some.inj this).symm))]
 | none =>
   have hk:=plS_none hp
   unfold getS
   simp only
   by_cases c:k2=k
   ·rw[if_pos c,c]
    have h1:(x.nm++[k])[x.nm.length]?=some k:=by rw[List.getElem?_append_right (Nat.le_refl _),Nat.sub_self];rfl
    have h2:(x.nm++[k]).Nodup:=by
     rw[List.nodup_append]
     refine⟨hg.un,List.Pairwise.cons (fun _ h=>by simp at h) List.Pairwise.nil,fun a ha b hb e => ?_⟩
     rw[List.mem_singleton.1 hb] at e
     exact hk (e ▸ ha)
    rw[plS_at h2 h1]
    simp only[Option.bind_some]
    rw[List.getElem?_append_right (by rw[hg.len];exact Nat.le_refl _),hg.len,Nat.sub_self]
    rfl
   ·rw[if_neg c]
    cases hq:plS x.nm k2 with
    | none =>
      rw[plS_not (fun hm=>by
       rcases List.mem_append.1 hm with r | r
       ·exact plS_none hq r
       ·exact c (List.mem_singleton.1 r))]
      rfl
    | some m2 =>
      have h1:=plS_some hq
      have hm:=(List.getElem?_eq_some_iff.1 h1).1
      have e:plS (x.nm++[k]) k2=some m2:=by
       unfold plS at hq ⊢
       rw[List.findIdx?_append,hq]
       rfl
      rw[e]
      simp only[Option.bind_some]
      rw[List.getElem?_append_left (by rw[←hg.len];exact hm)]
theorem own_put (hg:x.gd)(k k2:ByteArray)(d:De)(hk:x.kind=1→k≠lenS∧rxI k=none):ownS (putS x k d) k2=if k2=k then some (keptD d) else ownS x k2:=by
 have hkd:(putS x k d).kind=x.kind:=by unfold putS;split <;> rfl
 have hel:(putS x k d).el=x.el:=by unfold putS;split <;> rfl
 unfold ownS
 rw[hkd,hel]
 by_cases c:x.kind=1
 ·obtain⟨a,b⟩:=hk c
  rw[if_pos c,if_pos c]
  by_cases c2:k2=lenS
  ·rw[if_pos c2,if_pos c2,if_neg (fun e:k2=k=>a (e.symm.trans c2))]
  ·rw[if_neg c2,if_neg c2]
   cases hr:rxI k2 with
   | some m =>
     simp only
     rw[if_neg (fun e:k2=k=>by rw[e,b] at hr;cases hr)]
   | none=>exact get_put hg k k2 d
 ·rw[if_neg c,if_neg c]
  exact get_put hg k k2 d
end
end Go.Proofs.YtahhionlbfhinabGreatDoor.Hp
namespace Go.Proofs.YtahhionlbfhinabGreatDoor.Hp
open Go.RowKit
section
variable {H H':He}{S S':List So}{ts:List ByteArray}{o:Int}{k k2:ByteArray}{i:Nat}{ob:Ob}{x:So}{d:De}{n:Nat}
theorem so_on (f:So→So)(h:soO S o=some x):soO (onS S o f) o=some (f x):=by
 unfold soO at h
 cases hi:obS S o with
 | none=>rw[hi] at h;cases h
 | some i =>
   rw[hi] at h
   have h:S[i]?=some x:=h
   rw[onS_at hi h]
   unfold soO
   have e:obS (S.set i (f x)) o=some i:=by rw[←hi];unfold obS;rw[List.length_set]
   rw[e]
   simp only[Option.bind_some]
   exact List.getElem?_set_self (List.getElem?_eq_some_iff.1 h).1
theorem resL_ln (el:List Int)(m:Nat):(resL el m).length=m:=by
 unfold resL
 rw[List.length_append,List.length_take,List.length_replicate]
 omega
theorem own_elem (hk:x.kind=1)(hr:rxI k=some n)(v:Int):ownS { x with el:=(padE x.el n).set n v } k=if v=holW then none else some ⟨v,undW,7⟩:=by
 have hl:k≠lenS:=fun e=>by
  rw[e,←ix_same] at hr
  have:ixI lenS=none:=by decide
  rw[this] at hr
  cases hr
 unfold ownS
 simp only
 rw[if_pos hk,if_neg hl,hr]
 simp only
 unfold elS
 rw[if_neg (by omega),Int.toNat_natCast,List.getElem?_set_self (padE_lt x.el n)]
 simp only[Option.bind_some]
 by_cases c:v=holW
 ·rw[if_pos c,if_pos (by rw[c];rfl)];rfl
 ·rw[if_neg c,if_neg (fun e=>c (by rw[e];rfl))];rfl
theorem own_len (hk:x.kind=1)(m:Nat):ownS { x with el:=resL x.el m } lenS=some ⟨intW (m:Int),undW,1⟩:=by
 unfold ownS
 simp only
 rw[if_pos hk,if_pos trivial,resL_ln]
theorem intW_pay {a:Int}(h:isT a 65529=true):intW (payZ a)=a:=by
 unfold payZ
 rw[if_pos h]
 unfold isT at h
 have h:a / 4294967296=65529*65536:=by simpa using h
 unfold intW
 have hm:=Int.emod_add_mul_ediv a 4294967296
 have:wrap32 (a % 4294967296) % 4294967296=a % 4294967296:=by
  unfold wrap32
  omega
 omega
theorem lay_own (hs:soO S o=some x)(hg:x.gd)(k:ByteArray)(d:De)(hy:(layG S o x k d).2=true) :
  ∃x',soO (layG S o x k d).1 o=some x'∧x'.kind=x.kind∧((x.kind=1∧(rxI k).isSome=true∧d.va=holW)∨∃e,ownS x' k=some e∧e.va=d.va):=by
 have put:(x.kind=1→k≠lenS∧rxI k=none)→∃x',soO (putG S o k d) o=some x'∧x'.kind=x.kind∧((x.kind=1∧(rxI k).isSome=true∧d.va=holW)∨∃e,ownS x' k=some e∧e.va=d.va):=fun hk =>
  ⟨putS x k d,so_on (fun x=>putS x k d) hs,by unfold putS;split <;> rfl,Or.inr ⟨keptD d,by rw[own_put hg k k d hk,if_pos rfl],rfl⟩⟩
 unfold layG at hy ⊢
 by_cases c:x.kind=1
 ·rw[if_pos c] at hy ⊢
  by_cases cl:k=lenS
  ·rw[if_pos cl] at hy ⊢
   by_cases cf:isT d.va 65529=true∧d.fl=1
   ·rw[if_pos cf] at hy ⊢
    unfold lenG at hy ⊢
    split at hy
    ·cases hy
    ·rename_i c2
     rw[if_neg c2]
     refine⟨_,so_on (fun x=>{ x with el:=resL x.el (payZ d.va).toNat }) hs,rfl,Or.inr ⟨_,by rw[cl];exact own_len c _,?_⟩⟩
     show intW (((payZ d.va).toNat:Nat):Int)=d.va
     rw[Int.toNat_of_nonneg (by have:=c2;omega)]
     exact intW_pay cf.1
   ·rw[if_neg cf] at hy;cases hy
  ·rw[if_neg cl] at hy ⊢
   cases hr:rxI k with
   | some m =>
     rw[hr] at hy
     simp only at hy ⊢
     by_cases cf:d.fl=7
     ·rw[if_pos cf] at hy ⊢
      unfold elemG at hy ⊢
      split at hy
      ·cases hy
      ·rename_i c2
       rw[if_neg c2]
       refine⟨_,so_on (fun x=>{ x with el:=(padE x.el ((m:Int)).toNat).set ((m:Int)).toNat d.va }) hs,rfl,?_⟩
       rw[Int.toNat_natCast,own_elem c hr]
       by_cases ch:d.va=holW
       ·exact Or.inl ⟨c,rfl,ch⟩
       ·rw[if_neg ch]
        exact Or.inr ⟨_,rfl,rfl⟩
     ·rw[if_neg cf] at hy;cases hy
   | none =>
     rw[hr] at hy
     simp only at hy ⊢
     have:=put (fun _=>⟨cl,hr⟩)
     rw[hr] at this
     exact this
 ·rw[if_neg c] at hy ⊢
  exact put (fun q=>absurd q c)
theorem lay_not (h:(layG S o x k d).2=false):(layG S o x k d).1=S:=by
 unfold layG at h ⊢
 split
 ·rename_i c
  rw[if_pos c] at h
  split
  ·rename_i c1
   rw[if_pos c1] at h
   split
   ·rename_i c2
    rw[if_pos c2] at h
    unfold lenG at h ⊢
    split
    ·rfl
    ·rename_i c3
     rw[if_neg c3] at h
     cases h
   ·rfl
  ·rename_i c1
   rw[if_neg c1] at h
   split
   ·rename_i m hr
    rw[hr] at h
    simp only at h
    split
    ·rename_i c2
     rw[if_pos c2] at h
     unfold elemG at h ⊢
     split
     ·rfl
     ·rename_i c3
      rw[if_neg c3] at h
      cases h
    ·rfl
   ·rename_i hr
    rw[hr] at h
    cases h
 ·rename_i c
  rw[if_neg c] at h
  cases h
theorem df_not {u:Ws}(h:(dfG S o k u).2=false):(dfG S o k u).1=S:=by
 unfold dfG at h ⊢
 cases hs:soO S o with
 | none=>rfl
 | some x =>
   rw[hs] at h
   simp only at h ⊢
   by_cases c:rnoB u=true
   ·rw[if_pos c]
   ·rw[if_neg c] at h ⊢
    cases hq:ownS x k with
    | none =>
      rw[hq] at h
      simp only at h ⊢
      by_cases c2:x.shut=true
      ·rw[if_pos c2]
      ·rw[if_neg c2] at h ⊢
       exact lay_not h
    | some old =>
      rw[hq] at h
      simp only at h ⊢
      by_cases c2:rmayD old (rWishD old u)=true
      ·rw[if_pos c2] at h ⊢
       exact lay_not h
      ·rw[if_neg c2]
theorem wish_val (old:De)(v:Int):(rWishD old (wsVal v)).va=v∧(rWishD old (wsAll v)).va=v:=by
 have a1:hasU (wsVal v) 16=false∧hasU (wsVal v) 32=false∧hasU (wsVal v) 1=true:=⟨by show(bits .and .i64 1 16 != 0)=false;decide,by show(bits .and .i64 1 32 != 0)=false;decide,by show(bits .and .i64 1 1 != 0)=true;decide⟩
 have a2:hasU (wsAll v) 16=false∧hasU (wsAll v) 32=false∧hasU (wsAll v) 1=true:=⟨by show(bits .and .i64 15 16 != 0)=false;decide,by show(bits .and .i64 15 32 != 0)=false;decide,by show(bits .and .i64 15 1 != 0)=true;decide⟩
 constructor
 ·unfold rWishD
  rw[a1.1,a1.2.1,a1.2.2,if_neg (by simp)]
  simp only[if_true]
  rfl
 ·unfold rWishD
  rw[a2.1,a2.2.1,a2.2.2,if_neg (by simp)]
  simp only[if_true]
  rfl
theorem df_given (hg:∀x∈S,x.gd){u:Ws}{v:Int}(hu:∀old,(rWishD old u).va=v)(h:(dfG S o k u).2=true) :
  ∃x x',soO S o=some x∧soO (dfG S o k u).1 o=some x'∧x'.kind=x.kind∧((x.kind=1∧(rxI k).isSome=true∧v=holW)∨∃e,ownS x' k=some e∧e.va=v):=by
 unfold dfG at h ⊢
 cases hs:soO S o with
 | none=>rw[hs] at h;cases h
 | some x =>
   have hx:x.gd:=by
    unfold soO at hs
    cases hi:obS S o with
    | none=>rw[hi] at hs;cases hs
    | some i =>
      rw[hi] at hs
      exact hg x (List.mem_of_getElem? (show S[i]?=some x from hs))
   rw[hs] at h
   simp only at h ⊢
   by_cases c:rnoB u=true
   ·rw[if_pos c] at h;cases h
   ·rw[if_neg c] at h ⊢
    cases hq:ownS x k with
    | none =>
      rw[hq] at h
      simp only at h ⊢
      by_cases c2:x.shut=true
      ·rw[if_pos c2] at h;cases h
      ·rw[if_neg c2] at h ⊢
       obtain⟨x',a,b,e⟩:=lay_own hs hx k _ h
       rw[hu] at e
       exact⟨x,x',rfl,a,b,e⟩
    | some old =>
      rw[hq] at h
      simp only at h ⊢
      by_cases c2:rmayD old (rWishD old u)=true
      ·rw[if_pos c2] at h ⊢
       obtain⟨x',a,b,e⟩:=lay_own hs hx k _ h
       rw[hu] at e
       exact⟨x,x',rfl,a,b,e⟩
      ·rw[if_neg c2] at h;cases h
theorem asg_given (hg:∀x∈S,x.gd)(o:Int)(k:ByteArray)(v:Int) :
  (asgG S o k v).2.1≠0∧(asgG S o k v).2.2=S∨(asgG S o k v).2.1=0∧∃x x',soO S o=some x∧soO (asgG S o k v).2.2 o=some x'∧x'.kind=x.kind∧((x.kind=1∧(rxI k).isSome=true∧v=holW)∨∃e,ownS x' k=some e∧e.va=v):=by
 have key:∀u,(∀old,(rWishD old u).va=v)→(asgD (dfG S o k u)).2.1≠0∧(asgD (dfG S o k u)).2.2=S∨(asgD (dfG S o k u)).2.1=0∧∃x x',soO S o=some x∧soO (asgD (dfG S o k u)).2.2 o=some x'∧x'.kind=x.kind∧((x.kind=1∧(rxI k).isSome=true∧v=holW)∨∃e,ownS x' k=some e∧e.va=v):=fun u hu=>by
  unfold asgD
  cases hr:(dfG S o k u).2 with
  | false =>
    refine Or.inl ⟨by show(if false=true then (0:Int) else 1)≠0;decide,df_not hr⟩
  | true=>exact Or.inr ⟨rfl,df_given hg hu hr⟩
 unfold asgG
 split
 ·exact key _ (fun old=>(wish_val old v).2)
 ·split
  ·split
   ·exact Or.inl ⟨by show(1:Int)≠0;decide,rfl⟩
   ·exact Or.inl ⟨by show(2:Int)≠0;decide,rfl⟩
  ·split
   ·exact Or.inl ⟨by show(1:Int)≠0;decide,rfl⟩
   ·split
    ·exact key _ (fun old=>(wish_val old v).1)
    ·exact key _ (fun old=>(wish_val old v).2)
end
end Go.Proofs.YtahhionlbfhinabGreatDoor.Hp
namespace Go.Proofs.YtahhionlbfhinabGreatDoor.Hp
open Go.RowKit
section
variable {H:He}{S:List So}{ts:List ByteArray}{o:Int}{k:ByteArray}{i:Nat}{ob:Ob}{x:So}{d:De}{n:Nat}
theorem OrP.given (h:OrP H S ts n)(hw:H.wf)(hm:H.most≤256)(o:Int)(k:ByteArray)(v:Int) :
  ((asgP H o k v H.obs.length).2.1≠0→ownH (asgP H o k v H.obs.length).2.2 o k=ownH H o k) ∧
  ((asgP H o k v H.obs.length).2.1=0→(((soO S o).map (fun x=>x.kind == 1)).getD false && (v == holW))=true∨∃e,ownH (asgP H o k v H.obs.length).2.2 o k=some e∧e.va=v):=by
 obtain⟨h2,e1,e2⟩:=h.assign hm o k v
 have hg:=h.gd hw
 rw[h2.own,h.own,e2]
 rcases asg_given hg o k v with⟨a,b⟩ | ⟨a,x,x',b1,b2,b3,b4⟩
 ·exact⟨fun _=>by rw[b],fun c=>absurd c a⟩
 ·refine⟨fun c=>absurd a c,fun _ => ?_⟩
  rw[b2,b1]
  rcases b4 with⟨c1,c2,c3⟩ | ⟨e,c1,c2⟩
  ·exact Or.inl (by simp[c1,c3])
  ·exact Or.inr ⟨e,c1,c2⟩
end
end Go.Proofs.YtahhionlbfhinabGreatDoor.Hp
