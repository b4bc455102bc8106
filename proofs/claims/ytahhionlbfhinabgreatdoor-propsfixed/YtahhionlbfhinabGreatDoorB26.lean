/- VJ, IW, VK, UK -/
import Derived.Test.YtahhionlbfhinabGreatDoorB24
import Derived.Test.YtahhionlbfhinabGreatDoorB25
import Derived.Test.YtahhionlbfhinabGreatDoorB22
import Derived.Test.YtahhionlbfhinabGreatDoorB21
import Derived.Test.YtahhionlbfhinabGreatDoorVZ
import Derived.Test.YtahhionlbfhinabGreatDoorB18
set_option linter.unusedVariables false
set_option linter.unusedSimpArgs false
set_option maxRecDepth 100000
set_option maxHeartbeats 40000000
namespace Go.Proofs.YtahhionlbfhinabGreatDoor.Hp
open Go.RowKit
def WentH (w:World)(B hb:Nat)(tg:Nat→Nat)(H:He)(w':World):Prop:=∃M',WentM w B hb tg H M' w'
section
variable {w w' w1:World}{B hb:Nat}{O S:Nat→Prop}{H H':He}{M M':HV}{tg:Nat→Nat}
theorem WentH.same (h:HeapAt w B hb tg H M)(hb':Below w.heap.size w w'):WentH w B hb tg H w':=⟨M,WentM.same h hb'⟩
def mkNo (H:He)(kind p:Int):Bool:=decide (kind<0) || decide (6<kind) || !mayB H p || decide (65536≤H.obs.length)
def makeF (H:He)(kind p:Int):He:=if mkNo H kind p=true then H else makeH H kind p
theorem make_full (h:HeapAt w B hb tg H M)(kind p:Int)(p0:0≤p)(p1:p<18446744073709551616) :
  Calls Tryz.prog 18 #[.pointer (some ⟨hb,0,none⟩),.int .i64 kind,.int .u64 p] w fun e w'=>e = .returned (.tuple #[.int .u64 (if mkNo H kind p=true then undW else objW (H.obs.length:Int)),.bool (!mkNo H kind p)])∧WentH w B hb tg (makeF H kind p) w':=by
 cases hq:mkNo H kind p with
 | false =>
   have hq2:=hq
   unfold mkNo at hq2
   simp only[Bool.or_eq_false_iff,decide_eq_false_iff_not,Bool.not_eq_false'] at hq2
   obtain⟨⟨⟨a,b⟩,c⟩,d⟩:=hq2
   have e:makeF H kind p=makeH H kind p:=by unfold makeF;rw[if_neg (by rw[hq];simp)]
   rw[e,if_neg (by simp)]
   exact make_hit h kind p (by omega) (by omega) p0 p1 c (by omega)
 | true =>
   have e:makeF H kind p=H:=by unfold makeF;rw[if_pos hq]
   rw[e,if_pos rfl]
   have HW:Hid (WentH w B hb tg H w):=WentH.same h (Below.refl _ _)
   have km:=mayBe_at h p p0 p1
   unfold undW
   simp only[Bool.not_true]
   by_cases a:kind<0
   ·have a1:decide (kind<0)=true:=decide_eq_true a
    clear h hq e km
    go_enter Tryz.func18,Tryz.ntmps18
    go_wp2_with fail
    go_ret2
    exact⟨rfl,HW.out⟩
   have a1:decide (kind<0)=false:=decide_eq_false a
   by_cases b:6<kind
   ·have b1:decide (6<kind)=true:=decide_eq_true b
    clear h hq e km
    go_enter Tryz.func18,Tryz.ntmps18
    go_wp2_with fail
    go_ret2
    exact⟨rfl,HW.out⟩
   have b1:decide (6<kind)=false:=decide_eq_false b
   cases c:mayB H p with
   | false =>
     rw[c] at km
     clear h hq e c
     go_enter Tryz.func18,Tryz.ntmps18
     go_wp2_with fail
     refine km.mono ?_
     rintro e w2 ⟨rfl,rfl⟩
     clear km
     go_wp2_with fail
     go_ret2
     exact⟨rfl,HW.out⟩
   | true =>
     rw[c] at km
     have d:65536≤H.obs.length:=by
      unfold mkNo at hq
      rw[a1,b1,c] at hq
      simpa using hq
     have kd:=made_at h
     obtain⟨c0,c1,c2,c3,c4,c5,fz⟩:=h.box
     obtain⟨ad,cap,hv,hl1,hl2⟩:=h.vol
     rw[hv] at c2
     unfold SV.val at c2
     simp only at c2
     have hge:decide ((65536:Int)≤(H.obs.length:Int))=true:=decide_eq_true (by omega)
     generalize H.obs.length=n at *
     clear h hq e c hv hl1 hl2 c0 c1 c3 c4 c5 fz d
     go_enter Tryz.func18,Tryz.ntmps18
     go_wp2_with fail
     refine km.mono ?_
     rintro e w2 ⟨rfl,rfl⟩
     clear km
     go_wp2_with fail
     refine kd.mono ?_
     rintro e w2 ⟨rfl,rfl⟩
     clear kd
     go_wp2_with fail
     go_ret2
     exact⟨rfl,HW.out⟩
def lenF (H:He)(o n:Int):He×Bool:=match obI H o with
 | none=>(H,false)
 | some i=>match H.obs[i]? with
   | none=>(H,false)
   | some ob=>if n<0∨4096<n then (H,false) else (elH H i ob (resL ob.el n.toNat),true)
theorem lenF_at {H:He}{o n:Int}{i:Nat}{ob:Ob}(ho:obI H o=some i)(hi:H.obs[i]?=some ob):lenF H o n=if n<0∨4096<n then (H,false) else (elH H i ob (resL ob.el n.toNat),true):=by unfold lenF;rw[ho];simp only[hi]
def elemF (H:He)(o n v:Int):He×Bool:=match obI H o with
 | none=>(H,false)
 | some i=>match H.obs[i]? with
   | none=>(H,false)
   | some ob=>if n<0∨4096≤n then (H,false) else (elH H i ob (setL ob.el n.toNat v),true)
theorem elemF_no {H:He}{o n v:Int}(h:obO H o=none):elemF H o n v=(H,false):=by unfold elemF;rw[obO_none h]
theorem elemF_at {H:He}{o n v:Int}{i:Nat}{ob:Ob}(ho:obI H o=some i)(hi:H.obs[i]?=some ob):elemF H o n v=if n<0∨4096≤n then (H,false) else (elH H i ob (setL ob.el n.toNat v),true):=by unfold elemF;rw[ho];simp only[hi]
theorem setElem_full (h:HeapAt w B hb tg H M)(o:Int)(o0:0≤o)(o1:o<18446744073709551616)(n v:Int) :
  Calls Tryz.prog 72 #[.pointer (some ⟨hb,0,none⟩),.int .u64 o,.int .i64 n,.int .u64 v] w fun e w'=>e = .returned (.bool (elemF H o n v).2)∧WentH w B hb tg (elemF H o n v).1 w':=by
 cases hq:obO H o with
 | none =>
   rw[elemF_no hq]
   have ka:=at_miss h o o0 o1 (obO_none hq)
   have HW:Hid (WentH w B hb tg H w):=WentH.same h (Below.refl _ _)
   clear h hq
   go_enter Tryz.func72,Tryz.ntmps72
   go_wp2_with fail
   refine ka.mono ?_
   rintro e w2 ⟨rfl,rfl⟩
   clear ka
   go_wp2_with fail
   go_ret
   exact⟨rfl,HW.out⟩
 | some ob =>
   obtain⟨i,ho,hi⟩:=obO_some hq
   rw[elemF_at ho hi]
   by_cases c:n<0∨4096≤n
   ·rw[if_pos c]
    refine(setElem_no h o o0 o1 ho hi n v c).mono ?_
    rintro e w' ⟨rfl,rfl⟩
    exact⟨rfl,WentH.same h (Below.refl _ _)⟩
   ·rw[if_neg c]
    obtain⟨m,rfl⟩:∃m:Nat,n=(m:Int):=⟨n.toNat,by omega⟩
    exact setElem_at h o o0 o1 ho hi m (by omega) v
def dropF (H:He)(o:Int)(k:ByteArray):He×Bool:=match obI H o with
 | none=>(H,false)
 | some i=>match H.obs[i]? with
   | none=>(H,false)
   | some ob=>match plc ob.ps k with
     | none=>(H,false)
     | some n=>(dropH H i ob n,true)
theorem dropF_no {H:He}{o:Int}{k:ByteArray}(h:obO H o=none):dropF H o k=(H,false):=by unfold dropF;rw[obO_none h]
theorem dropF_at {H:He}{o:Int}{k:ByteArray}{i:Nat}{ob:Ob}(ho:obI H o=some i)(hi:H.obs[i]?=some ob):dropF H o k=match plc ob.ps k with | none=>(H,false) | some n=>(dropH H i ob n,true):=by unfold dropF;rw[ho];simp only[hi]
theorem drop_full (h:HeapAt w B hb tg H M)(hn:H.neat)(o:Int)(o0:0≤o)(o1:o<18446744073709551616)(k:ByteArray)(hk:k.size≤maxLen) :
  Calls Tryz.prog 73 #[.pointer (some ⟨hb,0,none⟩),.int .u64 o,.string k] w fun e w'=>e = .returned (.bool (dropF H o k).2)∧WentH w B hb tg (dropF H o k).1 w':=by
 cases hq:obO H o with
 | none =>
   rw[dropF_no hq]
   have ka:=at_miss h o o0 o1 (obO_none hq)
   have HW:Hid (WentH w B hb tg H w):=WentH.same h (Below.refl _ _)
   clear h hq
   go_enter Tryz.func73,Tryz.ntmps73
   go_wp2_with fail
   refine ka.mono ?_
   rintro e w2 ⟨rfl,rfl⟩
   clear ka
   go_wp2_with fail
   go_ret
   exact⟨rfl,HW.out⟩
 | some ob =>
   obtain⟨i,ho,hi⟩:=obO_some hq
   rw[dropF_at ho hi]
   have hnt:=hn ob (List.mem_of_getElem? hi)
   cases hp:plc ob.ps k with
   | none =>
     refine(drop_miss h o o0 o1 ho hi hnt k hk hp).mono ?_
     rintro e w' ⟨rfl,hb2⟩
     exact⟨rfl,WentH.same h hb2⟩
   | some n =>
     refine(drop_hit h o o0 o1 ho hi hnt k hk hp).mono ?_
     rintro e w' ⟨rfl,M',_,hw⟩
     exact⟨rfl,M',hw⟩
def putF (H:He)(o:Int)(k:ByteArray)(d:De):He:=match obI H o with
 | none=>H
 | some i=>match H.obs[i]? with
   | none=>H
   | some ob=>putH H i ob k d
theorem putF_at {H:He}{o:Int}{k:ByteArray}{d:De}{i:Nat}{ob:Ob}(ho:obI H o=some i)(hi:H.obs[i]?=some ob):putF H o k d=putH H i ob k d:=by unfold putF;rw[ho];simp only[hi]
end
theorem Ob.neat.lost {o:Ob}(h:o.neat):o.lost.neat:=⟨h.kn,h.cm,h.c0,h.pl,h.mp⟩
theorem Ob.neat.less {o:Ob}(h:o.neat)(a:Nat):(o.less a).neat:=by
 have hs:(o.ps.eraseIdx a).Sublist o.ps:=List.eraseIdx_sublist _ _
 refine⟨(hs.map Pr.key).nodup h.kn,h.cm.sublist hs,fun p hp=>h.c0 p (hs.subset hp),?_,fun hm => ?_⟩
 ·have h1:(o.ps.eraseIdx a).length≤o.ps.length:=hs.length_le
  have h2:=h.pl
  show((o.ps.eraseIdx a).length:Int)≤o.next
  omega
 ·have hm:o.hm=true:=hm
  show(if o.hm=true then o.mp.eraseIdx a else o.mp)=camd (o.ps.eraseIdx a)
  rw[if_pos hm,h.mp hm]
  unfold camd
  rw[era_map]
theorem more_neat {o:Ob}(h:o.neat){k:ByteArray}(hno:plc o.ps k=none)(d:De) :
  ((o.ps++[(⟨k,o.next,d⟩:Pr)]).map Pr.key).Nodup∧(o.ps++[(⟨k,o.next,d⟩:Pr)]).Pairwise (fun a b=>a.came<b.came)∧(∀p∈o.ps++[(⟨k,o.next,d⟩:Pr)],0≤p.came∧p.came<o.next+1)∧((o.ps++[(⟨k,o.next,d⟩:Pr)]).length:Int)≤o.next+1:=by
 have hpl:=h.pl
 refine⟨?_,?_,fun p hp => ?_,?_⟩
 ·rw[List.map_append,List.nodup_append]
  refine⟨h.kn,by simp,fun a ha b hb => ?_⟩
  have hb:b=k:=by simpa using hb
  obtain⟨p,hp,rfl⟩:=List.mem_map.1 ha
  rw[hb]
  exact plc_none hno p hp
 ·rw[List.pairwise_append]
  refine⟨h.cm,by simp,fun a ha b hb => ?_⟩
  have hb:b=⟨k,o.next,d⟩:=by simpa using hb
  rw[hb]
  exact(h.c0 a ha).2
 ·rcases List.mem_append.1 hp with q | q
  ·have:=h.c0 p q
   omega
  ·rw[List.mem_singleton.1 q]
   show 0≤o.next∧o.next<o.next+1
   omega
 ·rw[List.length_append]
  simp only[List.length_cons,List.length_nil]
  omega
theorem Ob.neat.plus {o:Ob}(h:o.neat){k:ByteArray}(hno:plc o.ps k=none)(d:De):(o.plus k d).neat:=by
 obtain⟨h1,h2,h3,h4⟩:=more_neat h hno d
 unfold Ob.plus
 split
 ·exact⟨h1,h2,h3,h4,fun _=>rfl⟩
 ·rename_i c
  exact⟨h1,h2,h3,h4,fun hm=>absurd (Or.inl hm) c⟩
theorem Ob.neat.bare {o:Ob}(h:o.neat){k:ByteArray}(hno:plc o.ps k=none)(d:De):(o.bare k d).neat:=by
 unfold Ob.bare
 split
 ·exact(h.plus hno d).lost
 ·exact h.plus hno d
theorem setD_same {ps:List Pr}{n:Nat}{p:Pr}(hp:ps[n]?=some p)(d:De){α:Type}(f:Pr→α)(hf:∀d',f ⟨p.key,p.came,d'⟩=f p):(setD ps n p d).map f=ps.map f:=by
 unfold setD
 rw[List.map_set,hf]
 apply List.ext_getElem?
 intro j
 by_cases c:n=j
 ·subst c
  have hl:n<(ps.map f).length:=by rw[List.length_map];exact(List.getElem?_eq_some_iff.1 hp).1
  rw[List.getElem?_set_self hl,List.getElem?_map,hp]
  rfl
 ·rw[List.getElem?_set_ne c]
theorem setD_neat {o:Ob}(h:o.neat){n:Nat}{p:Pr}(hp:o.ps[n]?=some p)(d:De)(sh:Int)(sd:Bool):({ o with ps:=setD o.ps n p d,shape:=sh,shaped:=sd }:Ob).neat:=by
 have e1:=setD_same hp d Pr.key (fun _=>rfl)
 have e2:=setD_same hp d Pr.came (fun _=>rfl)
 have e3:camd (setD o.ps n p d)=camd o.ps:=setD_same hp d (fun p=>(p.key,p.came)) (fun _=>rfl)
 refine⟨?_,?_,fun q hq => ?_,?_,fun hm => ?_⟩
 ·show((setD o.ps n p d).map Pr.key).Nodup
  rw[e1]
  exact h.kn
 ·show(setD o.ps n p d).Pairwise _
  have h1:((setD o.ps n p d).map Pr.came).Pairwise (· < ·):=by
   rw[e2]
   exact List.pairwise_map.2 h.cm
  exact List.pairwise_map.1 h1
 ·have h1:q.came∈(setD o.ps n p d).map Pr.came:=List.mem_map.2 ⟨q,hq,rfl⟩
  rw[e2] at h1
  obtain⟨r,hr,e⟩:=List.mem_map.1 h1
  rw[←e]
  exact h.c0 r hr
 ·show((setD o.ps n p d).length:Int)≤o.next
  have:(setD o.ps n p d).length=o.ps.length:=by unfold setD;rw[List.length_set]
  rw[this]
  exact h.pl
 ·show o.mp=camd (setD o.ps n p d)
  rw[e3]
  exact h.mp hm
theorem Ob.neat.shp {o:Ob}(h:o.neat)(sh:Int)(sd:Bool)(c:Int)(pr:Int)(shut above:Bool)(el inn:List Int):({ o with shape:=sh,shaped:=sd,cell:=c,proto:=pr,shut:=shut,above:=above,el:=el,inn:=inn }:Ob).neat:=⟨h.kn,h.cm,h.c0,h.pl,h.mp⟩
section
variable {H:He}{n:Int}
theorem He.inv.mono {n':Int}(h:H.inv n)(hn:n≤n'):H.inv n':=h.obs rfl hn
theorem inv_close (h:H.inv n)(o:Int):(closeH H o).inv n:=by
 unfold closeH
 cases ho:obI H o with
 | none=>exact h
 | some i =>
   simp only
   cases hi:H.obs[i]? with
   | none=>exact h
   | some ob =>
     have hob:=List.mem_of_getElem? hi
     exact h.one (n':=n) hi rfl rfl id ((h.neat ob hob).shp _ _ _ _ _ _ _ _) (h.hms ob hob) (h.nx ob hob) (Int.le_refl _)
theorem inv_el (h:H.inv n){i:Nat}{ob:Ob}(hi:H.obs[i]?=some ob)(el:List Int):(elH H i ob el).inv n:=by
 have hob:=List.mem_of_getElem? hi
 exact h.one (n':=n) hi rfl rfl id ((h.neat ob hob).shp _ _ _ _ _ _ _ _) (h.hms ob hob) (h.nx ob hob) (Int.le_refl _)
theorem inv_elem (h:H.inv n)(o m v:Int):(elemF H o m v).1.inv n:=by
 unfold elemF
 cases ho:obI H o with
 | none=>exact h
 | some i =>
   simp only
   cases hi:H.obs[i]? with
   | none=>exact h
   | some ob =>
     simp only
     split
     ·exact h
     ·exact inv_el h hi _
theorem inv_drop (h:H.inv n)(o:Int)(k:ByteArray):(dropF H o k).1.inv n:=by
 unfold dropF
 cases ho:obI H o with
 | none=>exact h
 | some i =>
   simp only
   cases hi:H.obs[i]? with
   | none=>exact h
   | some ob =>
     simp only
     cases hp:plc ob.ps k with
     | none=>exact h
     | some m =>
       have hob:=List.mem_of_getElem? hi
       exact h.one (n':=n) hi rfl rfl id ((h.neat ob hob).less m).lost (fun e=>by cases e) (h.nx ob hob) (Int.le_refl _)
theorem inv_touch (h:H.inv n)(c:Int):(touchH H c).inv n:=h.obs rfl (Int.le_refl _)
theorem plus_fields (o:Ob)(k:ByteArray)(d:De):(o.plus k d).proto=o.proto∧(o.plus k d).above=o.above∧(o.plus k d).next=o.next+1:=by
 unfold Ob.plus
 split
 ·unfold Ob.mapped;exact⟨rfl,rfl,rfl⟩
 ·unfold Ob.added;exact⟨rfl,rfl,rfl⟩
theorem bare_fields (o:Ob)(k:ByteArray)(d:De):(o.bare k d).proto=o.proto∧(o.bare k d).above=o.above∧(o.bare k d).next=o.next+1:=by
 obtain⟨a,b,c⟩:=plus_fields o k d
 unfold Ob.bare
 split
 ·unfold Ob.lost;exact⟨a,b,c⟩
 ·exact⟨a,b,c⟩
theorem inv_put (h:H.inv n)(o:Int)(k:ByteArray)(d:De):(putF H o k d).inv (n+1):=by
 unfold putF
 cases ho:obI H o with
 | none=>exact h.mono (by omega)
 | some i =>
   simp only
   cases hi:H.obs[i]? with
   | none=>exact h.mono (by omega)
   | some ob =>
     simp only
     have hob:=List.mem_of_getElem? hi
     have hnt:=h.neat ob hob
     have hnx:=h.nx ob hob
     have hms:=h.hms ob hob
     unfold putH
     cases hp:plc ob.ps k with
     | some m =>
       simp only
       obtain⟨⟨p,hps,_⟩,_⟩:=plc_some hp
       have hpa:prAt ob.ps m=p:=by unfold prAt;rw[hps];rfl
       rw[hpa]
       unfold replH
       split
       ·exact h.one (n':=n+1) hi rfl rfl id (setD_neat hnt hps _ _ _) (fun e=>hms (by assumption)) (by show ob.next≤_;omega) (by omega)
       ·exact h.one (n':=n+1) hi rfl rfl id (setD_neat hnt hps _ ob.shape ob.shaped) hms (by show ob.next≤_;omega) (by omega)
     | none =>
       simp only
       split
       ·rename_i c
        have hm:=hms c.1
        have hpl:ob.plus k (keptD d)=ob.added k (keptD d):=by
         unfold Ob.plus
         rw[if_neg (by rw[hm];simp;omega)]
        have hn2:=hnt.plus hp (keptD d)
        rw[hpl] at hn2
        exact h.one (n':=n+1) (H':=layH (touchH H ob.cell) i ob k (keptD d)) hi rfl rfl id (hn2.shp _ _ _ _ _ _ _ _) (fun _=>hm) (by show ob.next+1≤_;omega) (by omega)
       ·rename_i c
        obtain⟨b1,b2,b3⟩:=bare_fields ob k (keptD d)
        refine h.one (n':=n+1) (H':={ touchH H ob.cell with obs:=H.obs.set i (ob.bare k (keptD d)) }) hi rfl b1 (fun e=>by rw[b2];exact e) (hnt.bare hp (keptD d)) (fun e => ?_) (by rw[b3];omega) (by omega)
        unfold Ob.bare at e ⊢
        split at e
        ·cases e
        ·rename_i c16
         have hsd:(ob.plus k (keptD d)).shaped=ob.shaped:=by
          unfold Ob.plus
          split
          ·unfold Ob.mapped;rfl
          ·unfold Ob.added;rfl
         rw[hsd] at e
         exact absurd ⟨e,by omega⟩ c
theorem inv_make (h:H.inv n)(hn:0≤n)(kind p:Int):(makeF H kind p).inv n:=by
 unfold makeF
 split
 ·exact h
 ·rename_i c
  have hp:mayB H p=true:=by
   unfold mkNo at c
   simp only[Bool.or_eq_true,decide_eq_true_eq,Bool.not_eq_true',not_or] at c
   cases q:mayB H p with
   | true=>rfl
   | false=>exact absurd q c.1.2
  have hr:=h.raise p
  have hlen:=(raise_len H p).1
  exact hr.push (H':=makeH H kind p) (p:=p) (by rw[mayB_len hlen];exact hp) (fun y hy=>raised hy) rfl rfl ⟨List.nodup_nil,List.Pairwise.nil,fun q hq=>by simp at hq,by simp,fun e=>by cases e⟩ (fun _=>rfl) hn
theorem abv_same {H':He}(hs:∀o,(obO H' o).map Ob.proto=(obO H o).map Ob.proto)(o:Int):∀(N:Nat)(p:Int),abvF H' o N p=abvF H o N p
 | 0,p=>rfl
 | N+1,p=>by
   have hh:=hs p
   cases hq:obO H p with
   | none =>
     rw[hq] at hh
     have:obO H' p=none:=by simpa using hh
     rw[abv_none hq,abv_none this]
   | some ob =>
     rw[hq] at hh
     cases hq':obO H' p with
     | none=>rw[hq'] at hh;simp at hh
     | some ob' =>
       rw[hq'] at hh
       have e:ob'.proto=ob.proto:=by simpa using hh
       rw[abv_step hq,abv_step hq',e,abv_same hs o N ob.proto]
theorem raise_proto (H:He)(p q:Int):(obO (raiseH H p) q).map Ob.proto=(obO H q).map Ob.proto:=by
 unfold raiseH
 cases hp:obI H p with
 | none=>rfl
 | some j =>
   simp only
   cases hj:H.obs[j]? with
   | none=>rfl
   | some ob =>
     simp only
     have:=setO_at (H:=H) (ob':={ ob with above:=true }) (o:=q) (List.getElem?_eq_some_iff.1 hj).1
     show(obO (H.setO j { ob with above:=true }) q).map Ob.proto=_
     rw[this]
     by_cases c:obI H q=some j
     ·rw[if_pos c]
      have:obO H q=some ob:=by unfold obO;rw[c];exact hj
      rw[this]
      rfl
     ·rw[if_neg c]
theorem inv_other (h:H.inv n){o p:Int}{i:Nat}{ob:Ob}(ho:obI H o=some i)(hi:H.obs[i]?=some ob)(hne:¬p=o)(hm:mayB H p=true)(hab:abvF H o H.obs.length p=false)(hr:∀y,obO H p=some y→y.above=true):(H.setO i { ob with proto:=p }).inv n:=by
 have hil:=(List.getElem?_eq_some_iff.1 hi).1
 have hob:=List.mem_of_getElem? hi
 have huniq:∀q,obI H q=some i→q=o:=fun q hq=>by
  have e1:=(obI_some hq).2.2.2
  have e2:=(obI_some ho).2.2.2
  rw[e1,e2]
 have hmem:∀x∈(H.setO i { ob with proto:=p }).obs,x∈H.obs∨x={ ob with proto:=p }:=fun x hx=>List.mem_or_eq_of_mem_set hx
 have hlen:(H.setO i { ob with proto:=p }).obs.length=H.obs.length:=by unfold He.setO;simp
 refine⟨fun x hx => ?_,fun x hx => ?_,fun x hx => ?_,acy_proto h.acy ho hi huniq hne hab,fun x hx ob2 h2 => ?_,fun x hx => ?_⟩
 ·rcases hmem x hx with q | rfl
  ·exact h.neat x q
  ·exact(h.neat ob hob).shp _ _ _ _ _ _ _ _
 ·rcases hmem x hx with q | rfl
  ·exact h.hms x q
  ·exact h.hms ob hob
 ·rcases hmem x hx with q | rfl
  ·exact h.nx x q
  ·exact h.nx ob hob
 ·have key:∀q,(∀y,obO H q=some y→y.above=true)→∀y,obO (H.setO i { ob with proto:=p }) q=some y→y.above=true:=fun q hq y hy=>by
   rw[setO_at hil] at hy
   by_cases c:obI H q=some i
   ·rw[if_pos c] at hy
    obtain rfl:=Option.some.inj hy
    exact hq ob (by unfold obO;rw[c];exact hi)
   ·rw[if_neg c] at hy
    exact hq y hy
  rcases hmem x hx with q | rfl
  ·exact key _ (fun y hy=>h.abv x q y hy) ob2 h2
  ·exact key p hr ob2 h2
 ·rw[mayB_len hlen]
  rcases hmem x hx with q | rfl
  ·exact h.pr x q
  ·exact hm
theorem inv_proto (h:H.inv n)(o p:Int):(setPF H o p).inv n:=by
 unfold setPF
 cases ho:obI H o with
 | none=>exact h
 | some i =>
   simp only
   cases hi:H.obs[i]? with
   | none=>exact h
   | some ob =>
     simp only
     split
     ·exact h
     ·rename_i c
      have hm:mayB H p=true:=by
       cases q:mayB H p with
       | true=>rfl
       | false=>exact absurd (Or.inr (Or.inl q)) c
      have hs:saB H o p=false:=by
       cases q:saB H o p with
       | false=>rfl
       | true=>exact absurd (Or.inr (Or.inr q)) c
      have hne:¬p=o:=fun e=>by
       unfold saB at hs
       rw[decide_eq_true e] at hs
       cases hs
      have hab:abvF H o H.obs.length p=false:=by
       unfold saB at hs
       rw[decide_eq_false hne] at hs
       simpa using hs
      have hpo:obI H p≠some i:=fun e=>hne (by
       have e1:=(obI_some e).2.2.2
       have e2:=(obI_some ho).2.2.2
       rw[e1,e2])
      have hr:=(inv_touch h ob.cell).raise p
      have hlen:=(raise_len (touchH H ob.cell) p).1
      have hi3:(raiseH (touchH H ob.cell) p).obs[i]?=some ob:=raise_other (H:=touchH H ob.cell) hi hpo
      have ho3:obI (raiseH (touchH H ob.cell) p) o=some i:=by rw[obI_len hlen];exact ho
      have hsame:∀q,(obO (raiseH (touchH H ob.cell) p) q).map Ob.proto=(obO H q).map Ob.proto:=fun q=>by
       rw[raise_proto]
       rfl
      have habv:abvF (raiseH (touchH H ob.cell) p) o (raiseH (touchH H ob.cell) p).obs.length p=false:=by
       rw[hlen,abv_same hsame]
       exact hab
      have hpre:(preH H i ob p).inv n:=inv_other hr ho3 hi3 hne (by rw[mayB_len hlen];exact hm) habv (fun y hy=>raised hy)
      unfold setPH
      split
      ·have hob:=List.mem_of_getElem? hi
       have hi4:(preH H i ob p).obs[i]?=some { ob with proto:=p }:=by
        unfold preH
        exact List.getElem?_set_self (List.getElem?_eq_some_iff.1 hi3).1
       refine hpre.one (n':=n) hi4 rfl rfl id ((h.neat ob hob).shp _ _ _ _ _ _ _ _) (fun _=>h.hms ob hob (by assumption)) (h.nx ob hob) (Int.le_refl _)
      ·exact hpre
end
theorem obS_null (S:List So):obS S 18445336698825998337=none:=by
 unfold obS
 rw[if_neg (by
  intro c
  have:isT 18445336698825998337 65530=false:=by decide
  rw[this] at c
  exact absurd c.1 (by decide))]
theorem soO_null (S:List So):soO S 18445336698825998337=none:=by
 unfold soO
 rw[obS_null]
 rfl
def onS (S:List So)(o:Int)(f:So→So):List So:=match obS S o with
 | none=>S
 | some i=>match S[i]? with
   | none=>S
   | some x=>S.set i (f x)
theorem onS_no {S:List So}{o:Int}{f:So→So}(h:obS S o=none):onS S o f=S:=by unfold onS;rw[h]
theorem onS_at {S:List So}{o:Int}{f:So→So}{i:Nat}{x:So}(h:obS S o=some i)(hi:S[i]?=some x):onS S o f=S.set i (f x):=by unfold onS;rw[h];simp only[hi]
def delS (x:So)(k:ByteArray):So:=match plS x.nm k with
 | none=>x
 | some m=>{ x with nm:=x.nm.eraseIdx m,ds:=x.ds.eraseIdx m }
def noS (S:List So)(kind p:Int):Bool:=decide (kind<0) || decide (6<kind) || !((p == nulW) || (obS S p).isSome) || decide (65536≤S.length)
def makeG (S:List So)(kind p:Int):List So:=if noS S kind p=true then S else S++[newS kind p]
def putG (S:List So)(o:Int)(k:ByteArray)(d:De):List So:=onS S o (fun x=>putS x k d)
def dropG (S:List So)(o:Int)(k:ByteArray):List So×Bool:=(onS S o (fun x=>delS x k),((soO S o).bind (fun x=>plS x.nm k)).isSome)
def lenG (S:List So)(o n:Int):List So×Bool:=if obS S o=none∨n<0∨4096<n then (S,false) else (onS S o (fun x=>{ x with el:=resL x.el n.toNat }),true)
def elemG (S:List So)(o n v:Int):List So×Bool:=if obS S o=none∨n<0∨4096≤n then (S,false) else (onS S o (fun x=>{ x with el:=(padE x.el n.toNat).set n.toNat v }),true)
def shutG (S:List So)(o:Int):List So:=onS S o (fun x=>{ x with shut:=true })
def protoG (S:List So)(o p:Int):List So:=if ((p == nulW) || (obS S p).isSome)=false∨repB S o (S.length+1) p=true then S else onS S o (fun x=>{ x with proto:=p })
theorem map_less {α β:Type}(f:α→β):∀(l:List α)(m:Nat),(l.eraseIdx m).map f=(l.map f).eraseIdx m
 | [],_=>rfl
 | _ :: _,0=>rfl
 | a :: l,m+1=>by
   show f a :: (l.eraseIdx m).map f=f a :: (l.map f).eraseIdx m
   rw[map_less f l m]
section
variable {H H':He}{S:List So}{ts:List ByteArray}
theorem RelG.obs (h:RelG H S ts)(h1:H'.obs=H.obs)(h2:H'.tx=H.tx):RelG H' S ts :=
 ⟨by rw[h1];exact h.len,fun i ob x q1 q2=>h.ob i ob x (by rw[←h1];exact q1) q2,h2.trans h.tx⟩
theorem RelG.io (h:RelG H S ts)(o:Int):(obI H o=none∧obS S o=none)∨∃i ob x,obI H o=some i∧obS S o=some i∧H.obs[i]?=some ob∧S[i]?=some x∧RelB ob x:=by
 cases hq:obI H o with
 | none=>exact Or.inl ⟨rfl,by rw[←h.at o];exact hq⟩
 | some i =>
   have h1:=(obI_some hq).2.2.1
   have h2:i<S.length:=by rw[←h.len];exact h1
   have e1:H.obs[i]?=some H.obs[i]:=List.getElem?_eq_getElem h1
   have e2:S[i]?=some S[i]:=List.getElem?_eq_getElem h2
   exact Or.inr ⟨i,_,_,rfl,by rw[←h.at o];exact hq,e1,e2,h.ob i _ _ e1 e2⟩
theorem RelG.set' (h:RelG H S ts){i:Nat}{ob:Ob}{x:So}(hb:RelB ob x)(h1:H'.obs=H.obs.set i ob)(h2:H'.tx=H.tx):RelG H' (S.set i x) ts :=
 (h.set (i:=i) hb).obs h1 h2
theorem RelG.raise (h:RelG H S ts)(p:Int):RelG (raiseH H p) S ts:=by
 unfold raiseH
 cases hq:obI H p with
 | none=>exact h
 | some j =>
   simp only
   cases hj:H.obs[j]? with
   | none=>exact h
   | some ob =>
     have hjl:=(List.getElem?_eq_some_iff.1 hj).1
     have hsl:j<S.length:=by rw[←h.len];exact hjl
     have e2:S[j]?=some S[j]:=List.getElem?_eq_getElem hsl
     have hb:=h.ob j _ _ hj e2
     have:=h.set (i:=j) (ob:={ ob with above:=true }) (x:=S[j]) ⟨hb.kd,hb.pr,hb.sh,hb.nm,hb.ds,hb.el,hb.inn⟩
     rw[List.set_getElem_self] at this
     exact this
theorem RelG.no (h:RelG H S ts)(kind p:Int):mkNo H kind p=noS S kind p:=by
 unfold mkNo noS mayB
 rw[h.at p,h.len]
theorem RelG.make (h:RelG H S ts)(kind p:Int):RelG (makeF H kind p) (makeG S kind p) ts:=by
 unfold makeF makeG
 rw[h.no]
 split
 ·exact h
 ·have hr:=h.raise p
  refine⟨?_,fun i ob x q1 q2 => ?_,hr.tx⟩
  ·show((raiseH H p).obs++[_]).length=_
   rw[List.length_append,List.length_append,hr.len]
   rfl
  ·have q1:((raiseH H p).obs++[_])[i]?=some ob:=q1
   rcases Nat.lt_or_ge i S.length with c | c
   ·rw[List.getElem?_append_left (by rw[hr.len];exact c)] at q1
    rw[List.getElem?_append_left c] at q2
    exact hr.ob i ob x q1 q2
   ·rw[List.getElem?_append_right (by rw[hr.len];exact c),hr.len] at q1
    rw[List.getElem?_append_right c] at q2
    cases hk:i - S.length with
    | zero =>
      rw[hk] at q1 q2
      obtain rfl:=Option.some.inj q1
      obtain rfl:=Option.some.inj q2
      exact⟨rfl,rfl,rfl,rfl,rfl,rfl,rfl⟩
    | succ n =>
      rw[hk] at q1
      simp at q1
theorem RelB.add {ob ob':Ob}{x:So}{k:ByteArray}{d:De}(h:RelB ob x)(c:Int)(e1:ob'.kind=ob.kind)(e2:ob'.proto=ob.proto)(e3:ob'.shut=ob.shut)(e4:ob'.ps=ob.ps++[⟨k,c,d⟩])(e5:ob'.el=ob.el)(e6:ob'.inn=ob.inn) :
  RelB ob' { x with nm:=x.nm++[k],ds:=x.ds++[d] }:=by
 refine⟨e1.trans h.kd,e2.trans h.pr,e3.trans h.sh,?_,?_,e5.trans h.el,e6.trans h.inn⟩
 ·show x.nm++[k]=_
  rw[e4,List.map_append,h.nm];rfl
 ·show x.ds++[d]=_
  rw[e4,List.map_append,h.ds];rfl
theorem RelB.put {ob ob':Ob}{x:So}{d:De}(h:RelB ob x){n:Nat}{p:Pr}(hp:ob.ps[n]?=some p)(e1:ob'.kind=ob.kind)(e2:ob'.proto=ob.proto)(e3:ob'.shut=ob.shut)(e4:ob'.ps=setD ob.ps n p d)(e5:ob'.el=ob.el)(e6:ob'.inn=ob.inn) :
  RelB ob' { x with ds:=x.ds.set n d }:=by
 refine⟨e1.trans h.kd,e2.trans h.pr,e3.trans h.sh,?_,?_,e5.trans h.el,e6.trans h.inn⟩
 ·show x.nm=_
  rw[e4,h.nm]
  unfold setD
  rw[List.map_set]
  apply List.ext_getElem?
  intro j
  by_cases c:n=j
  ·subst c
   have hl:n<(ob.ps.map Pr.key).length:=by rw[List.length_map];exact(List.getElem?_eq_some_iff.1 hp).1
   rw[List.getElem?_set_self hl,List.getElem?_map,hp]
   rfl
  ·rw[List.getElem?_set_ne c]
 ·show x.ds.set n d=_
  rw[e4,h.ds]
  unfold setD
  rw[List.map_set]
theorem RelB.putH {ob:Ob}{x:So}{k:ByteArray}(h:RelB ob x)(i:Nat)(d:De):∃ob',(Hp.putH H i ob k d).obs=H.obs.set i ob'∧RelB ob' (putS x k d):=by
 unfold Hp.putH putS
 rw[h.nm,plc_plS]
 cases hp:plc ob.ps k with
 | none =>
   simp only
   rw[←h.nm]
   split
   ·exact⟨layO (touchH H ob.cell) ob k (keptD d),rfl,h.add ob.next rfl rfl rfl rfl rfl rfl⟩
   ·refine⟨ob.bare k (keptD d),rfl,?_⟩
    unfold Ob.bare Ob.plus
    split
    ·split
     ·exact h.add ob.next rfl rfl rfl rfl rfl rfl
     ·exact h.add ob.next rfl rfl rfl rfl rfl rfl
    ·split
     ·exact h.add ob.next rfl rfl rfl rfl rfl rfl
     ·exact h.add ob.next rfl rfl rfl rfl rfl rfl
 | some n =>
   simp only
   obtain⟨⟨p,hn,hk⟩,_⟩:=plc_some hp
   have hpa:prAt ob.ps n=p:=by unfold prAt;rw[hn];rfl
   rw[hpa,←h.nm]
   unfold replH
   split
   ·refine⟨_,rfl,?_⟩
    exact h.put hn rfl rfl rfl rfl rfl rfl
   ·refine⟨_,rfl,?_⟩
    exact h.put hn rfl rfl rfl rfl rfl rfl
theorem putH_tx (H:He)(i:Nat)(ob:Ob)(k:ByteArray)(d:De):(Hp.putH H i ob k d).tx=H.tx:=by
 unfold Hp.putH
 split
 ·unfold replH;split <;> rfl
 ·split <;> rfl
theorem RelG.put (h:RelG H S ts)(o:Int)(k:ByteArray)(d:De):RelG (putF H o k d) (putG S o k d) ts:=by
 rcases h.io o with⟨e1,e2⟩ | ⟨i,ob,x,e1,e2,e3,e4,e5⟩
 ·unfold putF putG
  rw[e1,onS_no e2]
  exact h
 ·unfold putG
  rw[putF_at e1 e3,onS_at e2 e4]
  obtain⟨ob',q1,q2⟩:=e5.putH (H:=H) (k:=k) i d
  exact h.set' q2 q1 (putH_tx _ _ _ _ _)
theorem RelG.close (h:RelG H S ts)(o:Int):RelG (closeH H o) (shutG S o) ts:=by
 rcases h.io o with⟨e1,e2⟩ | ⟨i,ob,x,e1,e2,e3,e4,e5⟩
 ·unfold closeH shutG
  rw[e1,onS_no e2]
  exact h
 ·unfold shutG closeH
  rw[onS_at e2 e4,e1]
  simp only[e3]
  exact h.set' (H':=H.setO i { ob with shut:=true }) (ob:={ ob with shut:=true }) ⟨e5.kd,e5.pr,rfl,e5.nm,e5.ds,e5.el,e5.inn⟩ rfl rfl
theorem RelG.lens (h:RelG H S ts)(o n:Int):RelG (lenF H o n).1 (lenG S o n).1 ts∧(lenF H o n).2=(lenG S o n).2:=by
 rcases h.io o with⟨e1,e2⟩ | ⟨i,ob,x,e1,e2,e3,e4,e5⟩
 ·unfold lenF lenG
  rw[e1,if_pos (Or.inl e2)]
  exact⟨h,rfl⟩
 ·rw[lenF_at e1 e3]
  unfold lenG
  by_cases c:n<0∨4096<n
  ·rw[if_pos c,if_pos (Or.inr c)]
   exact⟨h,rfl⟩
  ·rw[if_neg c,if_neg (by rw[e2];rintro(q | q);· cases q
                          ·exact c q)]
   refine⟨?_,rfl⟩
   simp only
   rw[onS_at e2 e4]
   refine h.set' (ob:={ ob with el:=resL ob.el n.toNat }) ⟨e5.kd,e5.pr,e5.sh,e5.nm,e5.ds,?_,e5.inn⟩ rfl rfl
   show resL ob.el _=resL x.el _
   rw[e5.el]
theorem RelG.elem (h:RelG H S ts)(o n v:Int):RelG (elemF H o n v).1 (elemG S o n v).1 ts∧(elemF H o n v).2=(elemG S o n v).2:=by
 rcases h.io o with⟨e1,e2⟩ | ⟨i,ob,x,e1,e2,e3,e4,e5⟩
 ·unfold elemF elemG
  rw[e1,if_pos (Or.inl e2)]
  exact⟨h,rfl⟩
 ·rw[elemF_at e1 e3]
  unfold elemG
  by_cases c:n<0∨4096≤n
  ·rw[if_pos c,if_pos (Or.inr c)]
   exact⟨h,rfl⟩
  ·rw[if_neg c,if_neg (by rw[e2];rintro(q | q);· cases q
                          ·exact c q)]
   refine⟨?_,rfl⟩
   simp only
   rw[onS_at e2 e4]
   refine h.set' (ob:={ ob with el:=setL ob.el n.toNat v }) ⟨e5.kd,e5.pr,e5.sh,e5.nm,e5.ds,?_,e5.inn⟩ rfl rfl
   show setL ob.el _ _=(padE x.el _).set _ _
   rw[e5.el]
   rfl
theorem RelG.drop (h:RelG H S ts)(o:Int)(k:ByteArray):RelG (dropF H o k).1 (dropG S o k).1 ts∧(dropF H o k).2=(dropG S o k).2:=by
 rcases h.io o with⟨e1,e2⟩ | ⟨i,ob,x,e1,e2,e3,e4,e5⟩
 ·unfold dropF dropG soO
  simp only
  rw[e1,e2,onS_no e2]
  exact⟨h,rfl⟩
 ·have es:soO S o=some x:=by unfold soO;rw[e2];exact e4
  rw[dropF_at e1 e3]
  unfold dropG delS
  simp only
  rw[onS_at e2 e4,es]
  simp only[Option.bind_some]
  rw[e5.nm,plc_plS,←e5.nm]
  cases hp:plc ob.ps k with
  | none =>
    simp only
    have hil:=(List.getElem?_eq_some_iff.1 e4).1
    have hx:S[i]=x:=(List.getElem?_eq_some_iff.1 e4).2
    have hs:S.set i x=S:=by rw[←hx];exact List.set_getElem_self hil
    rw[hs]
    exact⟨h,rfl⟩
  | some m =>
    simp only
    refine⟨?_,rfl⟩
    refine h.set' (H':=dropH H i ob m) (ob:=(ob.less m).lost) ⟨e5.kd,e5.pr,e5.sh,?_,?_,e5.el,e5.inn⟩ rfl rfl
    ·show x.nm.eraseIdx m=(ob.ps.eraseIdx m).map Pr.key
     rw[e5.nm,map_less]
    ·show x.ds.eraseIdx m=(ob.ps.eraseIdx m).map Pr.de
     rw[e5.ds,map_less]
theorem RelG.sa (h:RelG H S ts){o:Int}(ho:¬(18445336698825998337:Int)=o)(p:Int):repB S o (S.length+1) p=saB H o p:=by
 unfold saB
 by_cases c:p=o
 ·rw[repB_yes c,decide_eq_true c];rfl
 ·rw[decide_eq_false c,Bool.false_or,h.rep (soO_null S) ho S.length p c,h.len]
theorem RelG.pre (h:RelG H S ts){i:Nat}{ob:Ob}{x:So}(e3:H.obs[i]?=some ob)(e4:S[i]?=some x)(e5:RelB ob x)(p:Int):RelG (preH H i ob p) (S.set i { x with proto:=p }) ts:=by
 have h1:RelG (touchH H ob.cell) S ts:=h.obs rfl rfl
 have h2:=h1.raise p
 exact h2.set' (H':=preH H i ob p) (ob:={ ob with proto:=p }) ⟨e5.kd,rfl,e5.sh,e5.nm,e5.ds,e5.el,e5.inn⟩ rfl rfl
theorem RelG.proto (h:RelG H S ts)(o p:Int):RelG (setPF H o p) (protoG S o p) ts:=by
 rcases h.io o with⟨e1,e2⟩ | ⟨i,ob,x,e1,e2,e3,e4,e5⟩
 ·have e:setPF H o p=H:=by unfold setPF;rw[e1]
  rw[e]
  unfold protoG
  rw[onS_no e2,ite_self]
  exact h
 ·have ho:¬(18445336698825998337:Int)=o:=fun e=>by rw[←e,obS_null] at e2;cases e2
  have e:setPF H o p=if p=ob.proto∨mayB H p=false∨saB H o p=true then H else setPH H i ob p:=by unfold setPF;rw[e1];simp only[e3]
  have em:mayB H p=((p == nulW) || (obS S p).isSome):=by unfold mayB;rw[h.at p]
  rw[e]
  unfold protoG
  rw[h.sa ho,←em,onS_at e2 e4]
  have hil:=(List.getElem?_eq_some_iff.1 e4).1
  have hx:S[i]=x:=(List.getElem?_eq_some_iff.1 e4).2
  by_cases c:mayB H p=false∨saB H o p=true
  ·rw[if_pos (Or.inr c),if_pos c]
   exact h
  ·rw[if_neg c]
   by_cases d:p=ob.proto
   ·rw[if_pos (Or.inl d)]
    have hs:S.set i { x with proto:=p }=S:=by
     have:({ x with proto:=p }:So)=S[i]:=by rw[d,e5.pr,hx]
     rw[this]
     exact List.set_getElem_self hil
    rw[hs]
    exact h
   ·rw[if_neg (by rintro(q | q);· exact d q
                  ·exact c q)]
    unfold setPH
    split
    ·have hp:=h.pre e3 e4 e5 p
     have:=hp.set (i:=i) (ob:={ ob with proto:=p,shape:=(mvD H ob p).2.1,shaped:=(mvD H ob p).2.2 }) (x:={ x with proto:=p }) ⟨e5.kd,rfl,e5.sh,e5.nm,e5.ds,e5.el,e5.inn⟩
     rw[List.set_set] at this
     exact this.obs rfl rfl
    ·exact h.pre e3 e4 e5 p
end
end Go.Proofs.YtahhionlbfhinabGreatDoor.Hp
