/- XP0, UR, YC -/
import Derived.Test.YtahhionlbfhinabGreatDoorB14
import Derived.Lib.ItoaNum
import Derived.Test.YtahhionlbfhinabGreatDoorB27
import Derived.Test.YtahhionlbfhinabGreatDoorB32
import Derived.Test.YtahhionlbfhinabGreatDoorB26
set_option linter.unusedVariables false
set_option linter.unusedSimpArgs false
set_option maxRecDepth 100000
set_option maxHeartbeats 40000000
namespace Go.Proofs.YtahhionlbfhinabGreatDoor.Hp
open Go.RowKit
theorem dg_dec:∀(f n:Nat),n<10 ^ (f+1)→dgF f n=Lib.decDigits n
 | 0,n,h=>by
   have h:n<10:=by simpa using h
   rw[Lib.decDigits,dif_pos h]
   unfold dgF
   rw[Nat.mod_eq_of_lt h]
 | f+1,n,h=>by
   rw[Lib.decDigits]
   unfold dgF
   by_cases c:n<10
   ·rw[if_pos c,dif_pos c]
   ·rw[if_neg c,dif_neg c,dg_dec f (n / 10) (by rw[Nat.pow_succ] at h;omega)]
theorem dg_itoa (n:Nat)(h:n<100000):dgI n=⟨(Lib.itoa (n:Int)).toArray⟩:=by
 unfold dgI Lib.itoa
 rw[if_neg (by omega),Int.toNat_natCast,dg_dec 4 n (by simpa using h)]
end Go.Proofs.YtahhionlbfhinabGreatDoor.Hp
namespace Go.Proofs.YtahhionlbfhinabGreatDoor.Sp
def repS (s:List ByteArray×List Int)(a:Bool×ByteArray×Int):List ByteArray×List Int :=
 if a.1=true then match idx s.1 a.2.1 with | some i=>(s.1,s.2.set i a.2.2) | none=>s else (s.1++[a.2.1],s.2++[a.2.2])
def repA (st:List (Bool×ByteArray×Int)):List ByteArray×List Int:=st.foldl repS ([],[])
theorem repA_snoc (st:List (Bool×ByteArray×Int))(a:Bool×ByteArray×Int):repA (st++[a])=repS (repA st) a:=by
 unfold repA
 rw[List.foldl_append]
 rfl
def SoundG (L:List Sh):Prop:=∀x∈L,(x.ks,x.fs)=repA x.st
structure Ans (L:List Sh)(s:Sh)(r:List Sh×Int×Bool):Prop where
 snd:SoundG r.1
 kp:∀m x,shOf L m=some x→shOf r.1 m=some x
 len:r.1.length≤256
 ok:r.2.2=true→∃x,shOf r.1 r.2.1=some x∧x.pr=s.pr∧x.ks=s.ks∧x.fs=s.fs
theorem shOf_mem {L:List Sh}{n:Int}{s:Sh}(h:shOf L n=some s):s∈L:=by
 unfold shOf at h
 split at h
 ·exact List.mem_of_getElem? h
 ·cases h
theorem Ans.no {L:List Sh}{s:Sh}{n:Int}(h:SoundG L)(hl:L.length≤256):Ans L s (L,n,false):=⟨h,fun _ _ q=>q,hl,fun e=>by cases e⟩
theorem layD_ans {most:Int}{L:List Sh}{s:Sh}(hL:SoundG L)(hm:most≤256)(hl:L.length≤256)(hs:(s.ks,s.fs)=repA s.st):Ans L s (layD most L s):=by
 unfold layD
 cases hh:hit L s with
 | some i =>
   simp only
   unfold hit at hh
   rw[List.findIdx?_eq_some_iff_getElem] at hh
   obtain⟨h1,h2,_⟩:=hh
   have h2:=of_decide_eq_true h2
   have hx:=hL L[i] (List.getElem_mem h1)
   rw[h2.2,←hs] at hx
   refine⟨hL,fun _ _ q=>q,hl,fun _=>⟨L[i],?_,h2.1,(Prod.mk.inj hx).1,(Prod.mk.inj hx).2⟩⟩
   show shOf L (i:Int)=_
   unfold shOf
   rw[if_pos (by omega)]
   exact List.getElem?_eq_getElem h1
 | none =>
   simp only
   split
   ·exact Ans.no hL hl
   ·rename_i c
    refine⟨fun x hx => ?_,fun m x hq => ?_,?_,fun _=>⟨s,?_,rfl,rfl,rfl⟩⟩
    ·rcases List.mem_append.1 hx with q | q
     ·exact hL x q
     ·rw[List.mem_singleton.1 q]
      exact hs
    ·unfold shOf at hq ⊢
     split at hq
     ·rename_i c2
      rw[if_pos c2,List.getElem?_append_left (List.getElem?_eq_some_iff.1 hq).1]
      exact hq
     ·cases hq
    ·show(L++[s]).length≤256
     rw[List.length_append]
     simp only[List.length_singleton]
     omega
    ·unfold shOf
     rw[if_pos (by simp only;omega)]
     simp
theorem rootD_ans {most:Int}{L:List Sh}(hL:SoundG L)(hm:most≤256)(hl:L.length≤256)(p:Int):Ans L ⟨p,[],[],[]⟩ (rootD most L p):=layD_ans hL hm hl rfl
theorem addD_ans {most:Int}{L:List Sh}{n:Int}{s:Sh}{k:ByteArray}{f:Int}(hL:SoundG L)(hm:most≤256)(hl:L.length≤256)(hs:shOf L n=some s):Ans L (grow s k f) (addD most L n k f):=by
 have hsS:=hL s (shOf_mem hs)
 unfold addD
 rw[hs]
 simp only
 split
 ·exact Ans.no hL hl
 ·refine layD_ans hL hm hl ?_
  show(s.ks++[k],s.fs++[f])=repA (s.st++[(false,k,f)])
  rw[repA_snoc,←hsS]
  rfl
theorem changeD_ans {most:Int}{L:List Sh}{n:Int}{s:Sh}{k:ByteArray}{f:Int}{i:Nat}(hL:SoundG L)(hm:most≤256)(hl:L.length≤256)(hs:shOf L n=some s)(hi:idx s.ks k=some i):Ans L ⟨s.pr,s.ks,s.fs.set i f,s.st⟩ (changeD most L n k f):=by
 have hsS:=hL s (shOf_mem hs)
 unfold changeD
 rw[hs]
 simp only
 rw[hi]
 simp only
 split
 ·rename_i c
  refine⟨hL,fun _ _ q=>q,hl,fun _=>⟨s,hs,rfl,rfl,?_⟩⟩
  have hil:=(List.getElem?_eq_some_iff.1 c).1
  have hx:s.fs[i]=f:=(List.getElem?_eq_some_iff.1 c).2
  show s.fs=s.fs.set i f
  rw[←hx]
  exact(List.set_getElem_self hil).symm
 ·have:=layD_ans (most:=most) (s:=chg s i k f) hL hm hl (by
   show(s.ks,s.fs.set i f)=repA (s.st++[(true,k,f)])
   rw[repA_snoc,←hsS]
   unfold repS
   simp only[if_true]
   rw[hi])
  exact⟨this.snd,this.kp,this.len,this.ok⟩
theorem movD_ans {most:Int}(hm:most≤256)(L0:List Sh):∀(l:List (ByteArray×Int))(r:List Sh×Int×Bool)(s:Sh),Ans L0 s r→Ans L0 ⟨s.pr,s.ks++l.map Prod.fst,s.fs++l.map Prod.snd,s.st⟩ (movD most l r)
 | [],r,s,h=>by
   rw[List.map_nil,List.map_nil,List.append_nil,List.append_nil]
   exact⟨h.snd,h.kp,h.len,h.ok⟩
 | x :: l,r,s,h=>by
   rw[movD]
   split
   ·rename_i c
    obtain⟨y,hy,y1,y2,y3⟩:=h.ok c
    have ha:=addD_ans (most:=most) (k:=x.1) (f:=x.2) h.snd hm h.len hy
    have:=movD_ans hm L0 l (addD most r.1 r.2.1 x.1 x.2) (grow y x.1 x.2) ⟨ha.snd,fun m z q=>ha.kp m z (h.kp m z q),ha.len,ha.ok⟩
    have e1:(grow y x.1 x.2).ks=s.ks++[x.1]:=by show y.ks++[x.1]=_;rw[y2]
    have e2:(grow y x.1 x.2).fs=s.fs++[x.2]:=by show y.fs++[x.2]=_;rw[y3]
    have e3:(grow y x.1 x.2).pr=s.pr:=y1
    rw[e1,e2,e3] at this
    rw[List.map_cons,List.map_cons]
    have f1:s.ks++(x.1 :: l.map Prod.fst)=s.ks++[x.1]++l.map Prod.fst:=by simp
    have f2:s.fs++(x.2 :: l.map Prod.snd)=s.fs++[x.2]++l.map Prod.snd:=by simp
    rw[f1,f2]
    exact⟨this.snd,this.kp,this.len,this.ok⟩
   ·rename_i c
    exact⟨h.snd,h.kp,h.len,fun e=>absurd e c⟩
end Go.Proofs.YtahhionlbfhinabGreatDoor.Sp
namespace Go.Proofs.YtahhionlbfhinabGreatDoor.Hp
open Go.RowKit
def ShO (L:List Sp.Sh)(ob:Ob):Prop:=ob.shaped=true→∃s,Sp.shOf L ob.shape=some s∧s.pr=rootN ob.kind ob.proto∧s.ks=ob.ps.map Pr.key∧s.fs=ob.ps.map (fun p=>p.de.fl)
structure ShOk (H:He):Prop where
 snd:Sp.SoundG H.L
 len:H.L.length≤256
 ob:∀ob∈H.obs,ShO H.L ob
section
variable {H H':He}{S:List So}{ts:List ByteArray}{n:Nat}
theorem ShO.kp {L L':List Sp.Sh}{ob:Ob}(h:ShO L ob)(hk:∀m x,Sp.shOf L m=some x→Sp.shOf L' m=some x):ShO L' ob:=fun e=>by
 obtain⟨s,a,b⟩:=h e
 exact⟨s,hk _ _ a,b⟩
theorem ShOk.obs (h:ShOk H)(h1:H'.L=H.L)(h2:H'.obs=H.obs):ShOk H':=⟨by rw[h1];exact h.snd,by rw[h1];exact h.len,by rw[h1,h2];exact h.ob⟩
theorem ShOk.one (h:ShOk H){i:Nat}{ob:Ob}(h1:H'.L=H.L)(h2:H'.obs=H.obs.set i ob)(ho:ShO H.L ob):ShOk H' :=
 ⟨by rw[h1];exact h.snd,by rw[h1];exact h.len,fun x hx=>by
  rw[h2] at hx
  rw[h1]
  rcases List.mem_or_eq_of_mem_set hx with q | q
  ·exact h.ob x q
  ·rw[q];exact ho⟩
theorem ShOk.ans (h:ShOk H){s:Sp.Sh}{r:List Sp.Sh×Int×Bool}(ha:Sp.Ans H.L s r){i:Nat}{ob:Ob}(h1:H'.L=r.1)(h2:H'.obs=H.obs.set i ob)(ho:ShO r.1 ob):ShOk H' :=
 ⟨by rw[h1];exact ha.snd,by rw[h1];exact ha.len,fun x hx=>by
  rw[h2] at hx
  rw[h1]
  rcases List.mem_or_eq_of_mem_set hx with q | q
  ·exact(h.ob x q).kp ha.kp
  ·rw[q];exact ho⟩
theorem ShOk.raise (h:ShOk H)(p:Int):ShOk (raiseH H p):=by
 unfold raiseH
 cases hq:obI H p with
 | none=>exact h
 | some j =>
   simp only
   cases hj:H.obs[j]? with
   | none=>exact h
   | some ob=>exact h.one (H':={ H with obs:=H.obs.set j { ob with above:=true } }) rfl rfl (h.ob ob (List.mem_of_getElem? hj))
theorem ShOk.touch (h:ShOk H)(c:Int):ShOk (touchH H c):=h.obs rfl rfl
theorem ShOk.make (h:ShOk H)(hm:H.most≤256)(kind p:Int):ShOk (makeF H kind p):=by
 unfold makeF
 split
 ·exact h
 ·have hr:=h.raise p
  have ha:=Sp.rootD_ans (most:=H.most) h.snd hm h.len (rootN kind p)
  refine⟨ha.snd,ha.len,fun x hx => ?_⟩
  have hx:x∈(raiseH H p).obs++[_]:=hx
  rcases List.mem_append.1 hx with q | q
  ·have:=hr.ob x q
   rw[(raise_len H p).2.1] at this
   exact this.kp ha.kp
  ·rw[List.mem_singleton.1 q]
   intro e
   obtain⟨y,hy,y1,y2,y3⟩:=ha.ok e
   exact⟨y,hy,y1,y2,y3⟩
theorem plc_idx {ps:List Pr}{k:ByteArray}:Sp.idx (ps.map Pr.key) k=plc ps k:=plc_plS ps k
theorem ShOk.put (h:ShOk H)(hm:H.most≤256)(o:Int)(k:ByteArray)(d:De):ShOk (putF H o k d):=by
 unfold putF
 cases ho:obI H o with
 | none=>exact h
 | some i =>
   simp only
   cases hi:H.obs[i]? with
   | none=>exact h
   | some ob =>
     simp only
     have hob:=h.ob ob (List.mem_of_getElem? hi)
     unfold putH
     cases hp:plc ob.ps k with
     | some m =>
       simp only
       obtain⟨⟨p,hps,hpk⟩,_⟩:=plc_some hp
       have hpa:prAt ob.ps m=p:=by unfold prAt;rw[hps];rfl
       rw[hpa]
       have hkeys:(setD ob.ps m p (keptD d)).map Pr.key=ob.ps.map Pr.key:=by
        unfold setD
        rw[List.map_set]
        have hl:m<(ob.ps.map Pr.key).length:=by rw[List.length_map];exact(List.getElem?_eq_some_iff.1 hps).1
        have hx:(ob.ps.map Pr.key)[m]=p.key:=by rw[List.getElem_map];rw[(List.getElem?_eq_some_iff.1 hps).2]
        show(ob.ps.map Pr.key).set m p.key=_
        rw[←hx]
        exact List.set_getElem_self hl
       have hfls:(setD ob.ps m p (keptD d)).map (fun p=>p.de.fl)=(ob.ps.map (fun p=>p.de.fl)).set m (keptD d).fl:=by
        unfold setD
        rw[List.map_set]
       unfold replH
       split
       ·rename_i c
        have c:ob.shaped=true:=c
        obtain⟨s,s1,s2,s3,s4⟩:=hob c
        have hix:Sp.idx s.ks p.key=some m:=by rw[s3,plc_idx,hpk];exact hp
        have ha:=Sp.changeD_ans (most:=H.most) (f:=(keptD d).fl) h.snd hm h.len s1 hix
        refine h.ans ha (ob:={ ob with ps:=setD ob.ps m p (keptD d),shape:=(Sp.changeD H.most H.L ob.shape p.key (keptD d).fl).2.1,shaped:=(Sp.changeD H.most H.L ob.shape p.key (keptD d).fl).2.2 }) rfl rfl (fun e => ?_)
        obtain⟨y,y0,y1,y2,y3⟩:=ha.ok e
        exact⟨y,y0,y1.trans s2,y2.trans (s3.trans hkeys.symm),y3.trans (by show s.fs.set m _=_;rw[s4];exact hfls.symm)⟩
       ·rename_i c
        exact h.one rfl rfl (fun e=>absurd e c)
     | none =>
       simp only
       split
       ·rename_i c
        obtain⟨s,s1,s2,s3,s4⟩:=hob c.1
        have ha:=Sp.addD_ans (most:=H.most) (k:=k) (f:=(keptD d).fl) h.snd hm h.len s1
        refine h.ans ha (H':=layH (touchH H ob.cell) i ob k (keptD d)) (ob:=layO (touchH H ob.cell) ob k (keptD d)) rfl rfl (fun e => ?_)
        obtain⟨y,y0,y1,y2,y3⟩:=ha.ok e
        refine⟨y,y0,y1.trans s2,y2.trans ?_,y3.trans ?_⟩
        ·show s.ks++[k]=List.map Pr.key (ob.ps++[(⟨k,ob.next,keptD d⟩:Pr)])
         rw[List.map_append,s3];rfl
        ·show s.fs++[(keptD d).fl]=List.map (fun p:Pr=>p.de.fl) (ob.ps++[(⟨k,ob.next,keptD d⟩:Pr)])
         rw[List.map_append,s4];rfl
       ·rename_i c
        refine h.one (H':={ touchH H ob.cell with obs:=H.obs.set i (ob.bare k (keptD d)) }) rfl rfl (fun e => ?_)
        exfalso
        unfold Ob.bare at e
        split at e
        ·cases e
        ·have hsd:(ob.plus k (keptD d)).shaped=ob.shaped:=by
          unfold Ob.plus
          split
          ·unfold Ob.mapped;rfl
          ·unfold Ob.added;rfl
         rw[hsd] at e
         exact c ⟨e,by omega⟩
theorem ShOk.proto (h:ShOk H)(hm:H.most≤256)(o p:Int):ShOk (setPF H o p):=by
 unfold setPF
 cases ho:obI H o with
 | none=>exact h
 | some i =>
   simp only
   cases hi:H.obs[i]? with
   | none=>exact h
   | some ob =>
     simp only
     have hob:=h.ob ob (List.mem_of_getElem? hi)
     split
     ·exact h
     ·have hr:=(h.touch ob.cell).raise p
      have hL:=(raise_len (touchH H ob.cell) p).2.1
      unfold setPH
      split
      ·rename_i c
       obtain⟨s,s1,s2,s3,s4⟩:=hob c
       have hmv:mvD H ob p=Sp.movD H.most (s.ks.zip s.fs) (Sp.rootD H.most H.L (rootN ob.kind p)):=by
        unfold mvD Sp.moveD
        rw[s1]
       have ha:=Sp.movD_ans hm H.L (s.ks.zip s.fs) _ _ (Sp.rootD_ans (most:=H.most) h.snd hm h.len (rootN ob.kind p))
       rw[←hmv] at ha
       have hl:s.ks.length=s.fs.length:=by rw[s3,s4,List.length_map,List.length_map]
       have z1:(s.ks.zip s.fs).map Prod.fst=s.ks:=List.map_fst_zip (by omega)
       have z2:(s.ks.zip s.fs).map Prod.snd=s.fs:=List.map_snd_zip (by omega)
       simp only[List.nil_append] at ha
       rw[z1,z2] at ha
       refine⟨ha.snd,ha.len,fun x hx => ?_⟩
       have hx:x∈((raiseH (touchH H ob.cell) p).obs.set i { ob with proto:=p }).set i { ob with proto:=p,shape:=(mvD H ob p).2.1,shaped:=(mvD H ob p).2.2 }:=hx
       rw[List.set_set] at hx
       rcases List.mem_or_eq_of_mem_set hx with q | q
       ·have:=hr.ob x q
        rw[hL] at this
        exact this.kp ha.kp
       ·rw[q]
        intro e
        obtain⟨y,y0,y1,y2,y3⟩:=ha.ok e
        exact⟨y,y0,y1,y2.trans s3,y3.trans s4⟩
      ·rename_i c
       exact hr.one (H':=preH H i ob p) rfl rfl (fun e=>absurd e c)
theorem ShOk.start (most:Int):ShOk (He.new most):=⟨fun x hx=>by simp[He.new] at hx,by simp[He.new],fun x hx=>by simp[He.new] at hx⟩
end
end Go.Proofs.YtahhionlbfhinabGreatDoor.Hp
namespace Go.Proofs.YtahhionlbfhinabGreatDoor.Hp
open Go.RowKit
def ElOk (H:He):Prop:=∀ob∈H.obs,ob.kind≠1→ob.el=[]
structure OrP (H:He)(S:List So)(ts:List ByteArray)(n:Nat):Prop where
 rel:RelG H S ts
 inv:H.inv (n:Int)
 ix:IxOk H
 ds:DsOk S
 sh:ShOk H
 el:ElOk H
section
variable {H H':He}{S:List So}{ts:List ByteArray}{o:Int}{k:ByteArray}{i:Nat}{ob:Ob}{x:So}{d:De}{n:Nat}
theorem ShOk.elem (h:ShOk H)(o m v:Int):ShOk (elemF H o m v).1:=by
 unfold elemF
 cases ho:obI H o with
 | none=>exact h
 | some i =>
   simp only
   cases hi:H.obs[i]? with
   | none=>exact h
   | some ob =>
     simp only
     split
     ·exact h
     ·exact h.one (H':=elH H i ob _) rfl rfl (h.ob ob (List.mem_of_getElem? hi))
theorem ShOk.drop (h:ShOk H)(o:Int)(k:ByteArray):ShOk (dropF H o k).1:=by
 unfold dropF
 cases ho:obI H o with
 | none=>exact h
 | some i =>
   simp only
   cases hi:H.obs[i]? with
   | none=>exact h
   | some ob =>
     simp only
     cases hp:plc ob.ps k with
     | none=>exact h
     | some m=>exact h.one (H':=dropH H i ob m) rfl rfl (fun e=>by cases e)
theorem ShOk.close (h:ShOk H)(o:Int):ShOk (closeH H o):=by
 unfold closeH
 cases ho:obI H o with
 | none=>exact h
 | some i =>
   simp only
   cases hi:H.obs[i]? with
   | none=>exact h
   | some ob=>exact h.one (H':=H.setO i { ob with shut:=true }) rfl rfl (h.ob ob (List.mem_of_getElem? hi))
theorem keep_lay (hs:ShOk H)(hm:H.most≤256)(h:H.inv (n:Int))(e1:obI H o=some i)(e3:H.obs[i]?=some ob)(k:ByteArray)(d:De):(layP H i ob k d).2.inv ((n+1:Nat):Int)∧ShOk (layP H i ob k d).2:=by
 have h0:H.inv ((n+1:Nat):Int):=h.mono (by omega)
 have hp:(putH H i ob k d).inv ((n+1:Nat):Int)∧ShOk (putH H i ob k d):=by
  have a:=inv_put h o k d
  have b:=hs.put hm o k d
  rw[putF_at e1 e3] at a b
  exact⟨a.mono (by omega),b⟩
 have he:∀el,(elH H i ob el).inv ((n+1:Nat):Int)∧ShOk (elH H i ob el):=fun el =>
  ⟨inv_el h0 e3 el,hs.one (H':=elH H i ob el) rfl rfl (hs.ob ob (List.mem_of_getElem? e3))⟩
 unfold layP
 split
 ·split
  ·split
   ·exact he _
   ·exact⟨h0,hs⟩
  ·split
   ·split
    ·exact he _
    ·exact⟨h0,hs⟩
   ·exact hp
 ·exact hp
theorem keep_def (hs:ShOk H)(hm:H.most≤256)(h:H.inv (n:Int))(o:Int)(k:ByteArray)(u:Ws):(defP H o k u).2.inv ((n+1:Nat):Int)∧ShOk (defP H o k u).2:=by
 have h0:H.inv ((n+1:Nat):Int):=h.mono (by omega)
 unfold defP
 cases e1:obI H o with
 | none=>exact⟨h0,hs⟩
 | some i =>
   simp only
   cases e3:H.obs[i]? with
   | none=>exact⟨h0,hs⟩
   | some ob =>
     simp only
     split
     ·exact⟨h0,hs⟩
     ·split
      ·split
       ·exact⟨h0,hs⟩
       ·exact keep_lay hs hm h e1 e3 _ _
      ·split
       ·exact keep_lay hs hm h e1 e3 _ _
       ·exact⟨h0,hs⟩
theorem ElOk.set (h:ElOk H){ob':Ob}(ho:H'.obs=H.obs.set i ob')(h2:ob'.kind≠1→ob'.el=[]):ElOk H':=fun y hy=>by
 rw[ho] at hy
 rcases List.mem_or_eq_of_mem_set hy with q | q
 ·exact h y q
 ·rw[q];exact h2
theorem ElOk.obs (h:ElOk H)(ho:H'.obs=H.obs):ElOk H':=fun y hy=>h y (by rw[←ho];exact hy)
theorem putH_el (H:He)(i:Nat)(ob:Ob)(k:ByteArray)(d:De):∃ob',(putH H i ob k d).obs=H.obs.set i ob'∧ob'.kind=ob.kind∧ob'.el=ob.el:=by
 have hb:RelB ob ⟨ob.kind,ob.proto,ob.shut,ob.ps.map Pr.key,ob.ps.map Pr.de,ob.el,ob.inn⟩:=⟨rfl,rfl,rfl,rfl,rfl,rfl,rfl⟩
 obtain⟨ob',q1,q2⟩:=hb.putH (H:=H) (k:=k) i d
 refine⟨ob',q1,?_,?_⟩
 ·rw[q2.kd];unfold putS;split <;> rfl
 ·rw[q2.el];unfold putS;split <;> rfl
theorem ElOk.lay (h:ElOk H)(e3:H.obs[i]?=some ob)(k:ByteArray)(d:De):ElOk (layP H i ob k d).2:=by
 have hp:ElOk (putH H i ob k d):=by
  obtain⟨ob',q1,q2,q3⟩:=putH_el H i ob k d
  exact h.set q1 (fun c=>by rw[q3];exact h ob (List.mem_of_getElem? e3) (by rw[←q2];exact c))
 unfold layP
 split
 ·rename_i hk
  have he:∀el,ElOk (elH H i ob el):=fun el=>h.set (i:=i) (ob':={ ob with el:=el }) rfl (fun c=>absurd hk c)
  split
  ·split
   ·exact he _
   ·exact h
  ·split
   ·split
    ·exact he _
    ·exact h
   ·exact hp
 ·exact hp
theorem ElOk.define (h:ElOk H)(o:Int)(k:ByteArray)(u:Ws):ElOk (defP H o k u).2:=by
 unfold defP
 cases e1:obI H o with
 | none=>exact h
 | some i =>
   simp only
   cases e3:H.obs[i]? with
   | none=>exact h
   | some ob =>
     simp only
     split
     ·exact h
     ·split
      ·split
       ·exact h
       ·exact h.lay e3 _ _
      ·split
       ·exact h.lay e3 _ _
       ·exact h
theorem ElOk.drop (h:ElOk H)(o:Int)(k:ByteArray):ElOk (dropF H o k).1:=by
 unfold dropF
 cases e1:obI H o with
 | none=>exact h
 | some i =>
   simp only
   cases e3:H.obs[i]? with
   | none=>exact h
   | some ob =>
     simp only
     cases hp:plc ob.ps k with
     | none=>exact h
     | some m=>exact h.set (i:=i) (ob':=(ob.less m).lost) rfl (fun c=>h ob (List.mem_of_getElem? e3) c)
theorem ElOk.delete (h:ElOk H)(o:Int)(k:ByteArray):ElOk (delP H o k).2:=by
 unfold delP
 split
 ·exact h
 ·split
  ·exact h
  ·split
   ·rename_i m _ hc
    show ElOk (elemF H o (m:Int) holW).1
    cases e1:obI H o with
    | none =>
      unfold elemF
      rw[e1]
      exact h
    | some i =>
      cases e3:H.obs[i]? with
      | none=>unfold elemF;rw[e1];simp only[e3];exact h
      | some ob =>
        have eo:obO H o=some ob:=by unfold obO;rw[e1];exact e3
        rw[eo] at hc
        simp only[Option.map_some,Option.getD_some,Bool.and_eq_true,decide_eq_true_eq] at hc
        rw[elemF_at e1 e3]
        split
        ·exact h
        ·exact h.set (i:=i) (ob':={ ob with el:=setL ob.el _ holW }) rfl (fun c=>absurd hc.1 c)
   ·exact h.drop _ _
theorem ElOk.raise (h:ElOk H)(p:Int):ElOk (raiseH H p):=by
 unfold raiseH
 split
 ·exact h
 ·split
  ·exact h
  ·rename_i j _ _ ob e3
   exact h.set (i:=j) (ob':={ ob with above:=true }) rfl (h ob (List.mem_of_getElem? e3))
theorem ElOk.proto (h:ElOk H)(o p:Int):ElOk (setPF H o p):=by
 unfold setPF
 split
 ·exact h
 ·split
  ·exact h
  ·rename_i i _ _ ob e3
   split
   ·exact h
   ·have h0:=h ob (List.mem_of_getElem? e3)
    have hr:ElOk (raiseH (touchH H ob.cell) p):=ElOk.raise (H:=touchH H ob.cell) (ElOk.obs (H:=H) h rfl) p
    have hp:ElOk (preH H i ob p):=hr.set (i:=i) (ob':={ ob with proto:=p }) rfl h0
    unfold setPH
    split
    ·exact hp.set (i:=i) (ob':={ ob with proto:=p,shape:=(mvD H ob p).2.1,shaped:=(mvD H ob p).2.2 }) rfl h0
    ·exact hp
theorem ElOk.make (h:ElOk H)(kind p:Int):ElOk (makeF H kind p):=by
 unfold makeF
 split
 ·exact h
 ·have hr:=h.raise p
  intro y hy
  have hy:y∈(raiseH H p).obs++[_]:=hy
  rcases List.mem_append.1 hy with q | q
  ·exact hr y q
  ·rw[List.mem_singleton.1 q]
   intro _
   rfl
theorem ElOk.close (h:ElOk H)(o:Int):ElOk (closeH H o):=by
 unfold closeH
 split
 ·exact h
 ·split
  ·exact h
  ·rename_i i _ _ ob e3
   exact h.set (i:=i) (ob':={ ob with shut:=true }) rfl (h ob (List.mem_of_getElem? e3))
theorem OrP.define (h:OrP H S ts n)(hm:H.most≤256)(o:Int)(k:ByteArray)(u:Ws) :
  OrP (defP H o k u).2 (dfG S o k u).1 ts (n+1)∧(defP H o k u).1=(dfG S o k u).2:=by
 obtain⟨a,b,c,e⟩:=h.rel.define h.ix h.ds o k u
 obtain⟨f,g⟩:=keep_def h.sh hm h.inv o k u
 exact⟨⟨a,f,c,e,g,h.el.define o k u⟩,b⟩
theorem OrP.mono {m:Nat}(h:OrP H S ts n)(hn:n≤m):OrP H S ts m:=⟨h.rel,h.inv.mono (by omega),h.ix,h.ds,h.sh,h.el⟩
theorem OrP.delete (h:OrP H S ts n)(o:Int)(k:ByteArray):OrP (delP H o k).2 (delG' S o k).1 ts (n+1)∧(delP H o k).1=(delG' S o k).2:=by
 obtain⟨a,b,c,e⟩:=h.rel.delete h.ix h.ds o k
 have h0:H.inv ((n+1:Nat):Int):=h.inv.mono (by omega)
 refine⟨⟨a,?_,c,e,?_,h.el.delete o k⟩,b⟩
 ·unfold delP
  split
  ·exact h0
  ·split
   ·exact h0
   ·split
    ·exact inv_elem h0 _ _ _
    ·exact inv_drop h0 _ _
 ·unfold delP
  split
  ·exact h.sh
  ·split
   ·exact h.sh
   ·split
    ·exact h.sh.elem _ _ _
    ·exact h.sh.drop _ _
theorem OrP.assign (h:OrP H S ts n)(hm:H.most≤256)(o:Int)(k:ByteArray)(v:Int) :
  OrP (asgP H o k v H.obs.length).2.2 (asgG S o k v).2.2 ts (n+1)∧(asgP H o k v H.obs.length).1=(asgG S o k v).1∧(asgP H o k v H.obs.length).2.1=(asgG S o k v).2.1:=by
 obtain⟨a,b,c,e,f⟩:=h.rel.assign h.ix h.ds o k v (h.inv.acy o)
 have h0:H.inv ((n+1:Nat):Int):=h.inv.mono (by omega)
 have kd:=fun u=>keep_def h.sh hm h.inv o k u
 have hk:(asgP H o k v H.obs.length).2.2.inv ((n+1:Nat):Int)∧ShOk (asgP H o k v H.obs.length).2.2:=by
  unfold asgP asgE
  split
  ·exact kd _
  ·split
   ·split
    ·exact⟨h0,h.sh⟩
    ·exact⟨h0,h.sh⟩
   ·split
    ·exact⟨h0,h.sh⟩
    ·split
     ·exact kd _
     ·exact kd _
 have he:ElOk (asgP H o k v H.obs.length).2.2:=by
  unfold asgP asgE
  split
  ·exact h.el.define _ _ _
  ·split
   ·split
    ·exact h.el
    ·exact h.el
   ·split
    ·exact h.el
    ·split
     ·exact h.el.define _ _ _
     ·exact h.el.define _ _ _
 exact⟨⟨a,hk.1,e,f,hk.2,he⟩,b,c⟩
theorem OrP.setProto (h:OrP H S ts n)(hm:H.most≤256)(o p:Int):OrP (spP H o p).2 (spG S o p).1 ts (n+1)∧(spP H o p).1=(spG S o p).2:=by
 obtain⟨a,b,c,e⟩:=h.rel.setProto h.ix h.ds o p
 have h0:H.inv ((n+1:Nat):Int):=h.inv.mono (by omega)
 have hk:(spP H o p).2.inv ((n+1:Nat):Int)∧ShOk (spP H o p).2:=by
  unfold spP
  split
  ·exact⟨h0,h.sh⟩
  ·split
   ·exact⟨h0,h.sh⟩
   ·split
    ·exact⟨h0,h.sh⟩
    ·split
     ·exact⟨h0,h.sh⟩
     ·split
      ·exact⟨h0,h.sh⟩
      ·exact⟨inv_proto h0 o p,h.sh.proto hm o p⟩
 have he:ElOk (spP H o p).2:=by
  unfold spP
  split
  ·exact h.el
  ·split
   ·exact h.el
   ·split
    ·exact h.el
    ·split
     ·exact h.el
     ·split
      ·exact h.el
      ·exact h.el.proto o p
 exact⟨⟨a,hk.1,c,e,hk.2,he⟩,b⟩
theorem IxOk.make (hx:IxOk H)(kind p:Int):IxOk (makeF H kind p):=by
 unfold makeF
 split
 ·exact hx
 ·have hr:=hx.raise p
  intro y hy
  have hy:y∈(raiseH H p).obs++[_]:=hy
  rcases List.mem_append.1 hy with q | q
  ·exact hr y q
  ·rw[List.mem_singleton.1 q]
   intro _ q2 hq2
   exact absurd hq2 (by simp)
theorem DsOk.make (hd:DsOk S)(kind p:Int):DsOk (makeG S kind p):=by
 unfold makeG
 split
 ·exact hd
 ·intro y hy
  rcases List.mem_append.1 hy with q | q
  ·exact hd y q
  ·rw[List.mem_singleton.1 q]
   intro d hd2
   exact absurd hd2 (by simp[newS])
theorem OrP.make (h:OrP H S ts n)(hm:H.most≤256)(kind p:Int):OrP (makeF H kind p) (makeG S kind p) ts (n+1) :=
 ⟨h.rel.make kind p,(inv_make h.inv (by omega) kind p).mono (by omega),h.ix.make kind p,h.ds.make kind p,h.sh.make hm kind p,h.el.make kind p⟩
theorem OrP.close (h:OrP H S ts n)(o:Int):OrP (closeH H o) (shutG S o) ts (n+1):=by
 refine⟨h.rel.close o,(inv_close h.inv o).mono (by omega),?_,h.ds.on (f:=fun x=>{ x with shut:=true }) (fun x hx=>h.ds x hx) o,h.sh.close o,h.el.close o⟩
 unfold closeH
 split
 ·exact h.ix
 ·split
  ·exact h.ix
  ·rename_i i _ _ ob e3
   exact h.ix.set (i:=i) (ob':={ ob with shut:=true }) rfl (h.ix ob (List.mem_of_getElem? e3))
theorem obI_newP (m:Int)(o:Int):obI (He.new m) o=none:=by
 unfold obI
 rw[if_neg (by
  intro c
  have h1:payN o 65530<((He.new m).obs.length:Int):=c.2
  have h2:=payN_bd o 65530
  have h3:(He.new m).obs.length=0:=rfl
  omega)]
theorem ord_newP (m:Int):Ord (He.new m) [] [] 0:=by
 have hno:∀ob,ob∈(He.new m).obs→False:=fun ob h=>by simp[He.new] at h
 refine⟨⟨rfl,fun i ob x h=>by simp[He.new] at h,rfl⟩,⟨fun ob h=>(hno ob h).elim,fun ob h=>(hno ob h).elim,fun ob h=>(hno ob h).elim,fun o => ?_,fun ob h=>(hno ob h).elim,fun ob h=>(hno ob h).elim⟩,fun x h=>by simp at h,by simp[He.new]⟩
 show obO (He.new m) o=none
 unfold obO
 rw[obI_newP]
 rfl
theorem OrP.start (m:Int):OrP (He.new m) [] [] 0:=by
 have ho:=ord_newP m
 exact⟨ho.rel,ho.inv,fun ob h=>by simp[He.new] at h,fun x h=>by simp at h,ShOk.start m,fun ob h=>by simp[He.new] at h⟩
end
end Go.Proofs.YtahhionlbfhinabGreatDoor.Hp
