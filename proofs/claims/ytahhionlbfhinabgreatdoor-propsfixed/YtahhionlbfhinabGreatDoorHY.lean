/- HY -/
import Derived.Test.YtahhionlbfhinabGreatDoorB10
set_option linter.unusedVariables false
set_option linter.unusedSimpArgs false
set_option maxRecDepth 100000
set_option maxHeartbeats 40000000
namespace Go.Proofs.YtahhionlbfhinabGreatDoor.Hp
open Go.RowKit
theorem resL_cut (el:List Int){n:Nat}(h:n≤el.length):resL el n=el.take n:=by
 unfold resL
 rw[show n - el.length=0 by omega]
 simp
theorem resL_len (el:List Int)(n:Nat):(resL el n).length=n:=by
 unfold resL
 rw[List.length_append,List.length_take,List.length_replicate]
 omega
theorem resL_push {el el':List Int}{n:Nat}(h1:el'.length<n)(h2:resL el n=el'++List.replicate (n - el'.length) holW):resL el n=(el'++[holW])++List.replicate (n - (el'++[holW]).length) holW:=by
 rw[h2,List.append_assoc]
 congr 1
 rw[List.length_append,List.length_singleton,show n - el'.length=(n - (el'.length+1))+1 by omega,List.replicate_succ]
 rfl
section
variable {w w' w1 w5:World}{B hb:Nat}{O S:Nat→Prop}{H H':He}{M M':HV}{tg:Nat→Nat}
structure RzAt (w:World)(B hb:Nat)(tg:Nat→Nat)(H:He)(M:HV)(i:Nat)(ob:Ob)(ov:OV)(n:Nat)(wr:World)(el:List Int)(ve:SV):Prop where
 went:WentM w B hb tg { H with obs:=H.obs.set i { ob with el:=el } } { M with ovs:=M.ovs.set i { ov with ve:=ve } } wr
 len:el.length≤n
 eq:resL ob.el n=el++List.replicate (n - el.length) holW
theorem RzAt.cells {i g cap n:Nat}{ob:Ob}{ov:OV}{wr:World}{el:List Int}{ve:SV}(hi:H.obs[i]?=some ob)(hv:M.ovs[i]?=some ov)(hvo:M.vo=⟨some ⟨g,0,none⟩,H.obs.length,cap⟩)(h:RzAt w B hb tg H M i ob ov n wr el ve) :
  ∃ad ec,ve=⟨ad,el.length,ec⟩∧wr.cell? ⟨g,i*12+7,none⟩=some (.slice ad el.length ec)∧wr.frozen? ⟨g,i*12+7,none⟩=false∧B≤wr.heap.size∧g<wr.heap.size∧OwnR wC 1 24 B wr (.slice ad el.length ec) el ∧
   (∀W,Chg (fun b=>(Value.slice ad el.length ec).ownBlock=some b) wr W→W.cell? ⟨g,i*12+7,none⟩=some (.slice ad el.length ec)∧W.frozen? ⟨g,i*12+7,none⟩=false) ∧
   ∀(W:World) (G C:Nat),OwnR wC 1 24 B W (.slice (some ⟨G,0,none⟩) (el.length+1) C) (el++[holW])→Chg (fun b=>(Value.slice ad el.length ec).ownBlock=some b) wr W→((Value.slice ad el.length ec).ownBlock=some G∨wr.heap.size≤G)→el.length+1≤4096→el.length<n →
    RzAt w B hb tg H M i ob ov n (W.setCell ⟨g,i*12+7,none⟩ (.slice (some ⟨G,0,none⟩) (el.length+1) C)) (el++[holW]) ⟨some ⟨G,0,none⟩,el.length+1,C⟩:=by
 obtain⟨tg2,p1,p2,p3⟩:=h.went
 have hil:i<H.obs.length:=(List.getElem?_eq_some_iff.1 hi).1
 have hil2:i<M.ovs.length:=(List.getElem?_eq_some_iff.1 hv).1
 have hi1:({ H with obs:=H.obs.set i { ob with el:=el } }:He).obs[i]?=some { ob with el:=el }:=List.getElem?_set_self hil
 have hv1:({ M with ovs:=M.ovs.set i { ov with ve:=ve } }:HV).ovs[i]?=some { ov with ve:=ve }:=List.getElem?_set_self hil2
 have hvo1:({ M with ovs:=M.ovs.set i { ov with ve:=ve } }:HV).vo=⟨some ⟨g,0,none⟩,({ H with obs:=H.obs.set i { ob with el:=el } }:He).obs.length,cap⟩:=by
  simp only[List.length_set]
  exact hvo
 obtain⟨g',cap',ov1,hvo',hov,t4,hne,hgl,hcell,hfz,_⟩:=p1.obj hi1
 have hvv:=hvo'
 rw[hvo1] at hvv
 injection hvv with x1 x2 x3
 injection x1 with x1
 injection x1 with x1
 subst x1
 rw[hv1] at hov
 cases hov
 have d7:=hcell 7 _ rfl
 simp only at d7
 have hr:RowIn wC 1 24 B wr _ ve el:=p1.part hi1 hv1 2 (by omega)
 obtain⟨q1,q2,q3,q4⟩:=hr.open rtW.len
 obtain⟨ad,len,ec⟩:=ve
 simp only at q1
 subst q1
 have ht:=hr.2
 have hown:=hr.1
 unfold SV.val at d7 ht hown
 simp only at d7 ht hown
 have hng:¬(Value.slice ad el.length ec).ownBlock=some g:=fun q=>by have:=ht g q;omega
 have hB0:=p1.B0
 refine⟨ad,ec,rfl,d7,hfz _,by omega,hgl,hown,fun W q=>⟨q.cell d7 hng,by rw[World.frozen?_of_block (w:=wr) (q.block g hgl hng)];exact hfz _⟩,fun W G C r1 r2 r3 r4 r5=>⟨?_,by rw[List.length_append,List.length_singleton];omega,resL_push r5 h.eq⟩⟩
 have hx:=p1.els (w5:=W) hi1 hv1 hvo1 (s:=⟨some ⟨G,0,none⟩,el.length+1,C⟩) (el':=el++[holW]) r1 r2 (fun b q=>by
  have hbg:b=G:=by simpa [SV.val,Value.ownBlock] using q.symm
  rw[hbg]
  exact r3) (by rw[List.length_append,List.length_singleton];exact r4)
 simp only[List.set_set] at hx
 exact WentM.next p2 p3 hx
theorem resize_at (h:HeapAt w B hb tg H M){i g cap:Nat}{ob:Ob}{ov:OV}(hi:H.obs[i]?=some ob)(hv:M.ovs[i]?=some ov)(hvo:M.vo=⟨some ⟨g,0,none⟩,H.obs.length,cap⟩)(n:Nat)(hn:n≤4096) :
  Calls Tryz.prog 99 #[.pointer (some ⟨g,i*12,none⟩),.int .i64 (n:Int)] w fun e w'=>e = .returned (.tuple #[])∧∃ve,WentM w B hb tg { H with obs:=H.obs.set i { ob with el:=resL ob.el n } } { M with ovs:=M.ovs.set i { ov with ve:=ve } } w':=by
 obtain⟨g',cap',ov1,hvo',hov,t4,hne,hgl,hcell,hfz,_⟩:=h.obj hi
 have hvv:=hvo'
 rw[hvo] at hvv
 injection hvv with x1 x2 x3
 injection x1 with x1
 injection x1 with x1
 subst x1
 rw[hv] at hov
 cases hov
 have d7:=hcell 7 _ rfl
 simp only at d7
 have f7:=hfz (i*12+7)
 have hr:RowIn wC 1 24 B w _ ov.ve ob.el:=h.part hi hv 2 (by omega)
 have hown:=hr.1
 obtain⟨q1,q2,q3,q4⟩:=hr.open rtW.len
 have hwf:=h.wf.ob ob (List.mem_of_getElem? hi)
 have HCELL:Hid (∀wr el ve,RzAt w B hb tg H M i ob ov n wr el ve→_):=fun wr el ve q=>q.cells hi hv hvo
 have KL:∀(Q:Prop),True:=fun _=>trivial
 rcases hve:ov.ve with⟨ad,len,ec⟩
 rw[hve] at q1 q2 q3 q4 d7 hown
 unfold SV.val at d7 hown
 simp only at q1 q2 q3 d7 hown
 subst q1
 have HST:Hid (∀W,(W=w∧ob.el.length≤n→RzAt w B hb tg H M i ob ov n W ob.el ⟨ad,ob.el.length,ec⟩)∧(W=w.setCell ⟨g,i*12+7,none⟩ (.slice ad n ec)∧n<ob.el.length→RzAt w B hb tg H M i ob ov n W (ob.el.take n) ⟨ad,n,ec⟩)):=fun W=>by
  constructor
  ·rintro⟨rfl,hle⟩
   refine⟨?_,hle,?_⟩
   ·have e1:({ H with obs:=H.obs.set i { ob with el:=ob.el } }:He)=H:=by
     have:H.obs.set i { ob with el:=ob.el }=H.obs:=set_self hi
     rw[this]
    have e2:({ M with ovs:=M.ovs.set i { ov with ve:=⟨ad,ob.el.length,ec⟩ } }:HV)=M:=by
     have:M.ovs.set i { ov with ve:=⟨ad,ob.el.length,ec⟩ }=M.ovs:=by rw[←hve];exact set_self hv
     rw[this]
    rw[e1,e2]
    exact WentM.same h (Below.refl _ _)
   ·unfold resL
    rw[List.take_of_length_le hle]
  ·rintro⟨rfl,hlt⟩
   have htl:(ob.el.take n).length=n:=by rw[List.length_take];omega
   refine⟨?_,by omega,?_⟩
   ·have hsp:ob.el=ob.el.take n++ob.el.drop n:=(List.take_append_drop n ob.el).symm
    have hne0:ob.el≠[]:=by intro e;rw[e] at hlt;simp at hlt
    obtain⟨ge,rfl,_⟩:=q4 hne0
    have hcut:OwnR wC 1 24 B w (.slice (some ⟨ge,0,none⟩) n ec) (ob.el.take n):=by
     have h5:=hown
     rw[hsp] at h5
     have h6:=OwnR.cut rtW.len h5
     rw[htl] at h6
     exact h6
    exact h.els (w5:=w) hi hv hvo (s:=⟨some ⟨ge,0,none⟩,n,ec⟩) (el':=ob.el.take n) hcut (Chg.refl _ _) (fun b q=>Or.inl (by rw[hve];exact q)) (by omega)
   ·rw[htl,Nat.sub_self,resL_cut _ (by omega)]
    simp
 have HEN:Hid (∀wr el ve,RzAt w B hb tg H M i ob ov n wr el ve→n≤el.length→∃ve,WentM w B hb tg { H with obs:=H.obs.set i { ob with el:=resL ob.el n } } { M with ovs:=M.ovs.set i { ov with ve:=ve } } wr):=fun wr el ve q hle=>⟨ve,by
  have e:=q.eq
  rw[show n - el.length=0 by omega] at e
  simp only[List.replicate_zero,List.append_nil] at e
  rw[e]
  exact q.went⟩
 have hel:=hwf.el
 have hlim:(ob.el.length:Int)≤4096:=by omega
 have hnn:(0:Int)≤(n:Int):=by omega
 have hn4:(n:Int)≤4096:=by omega
 have HN:Hid (n≤4096):=hn
 have hec:(ob.el.length:Int)≤(ec:Int):=by omega
 have HEC:Hid ((ec:Int)≤9223372036854775807):=by show _≤_;unfold maxLen at q3;omega
 clear h hi hv hvo hvo' hcell hfz hne hgl t4 hr hown q2 q3 q4 hwf hve x2 x3 hel hn KL
 by_cases c:n<ob.el.length
 ·have hs0:=(HST.out _).2 ⟨rfl,c⟩
  have HS:Hid (RzAt w B hb tg H M i ob ov n (w.setCell ⟨g,i*12+7,none⟩ (.slice ad n ec)) (ob.el.take n) ⟨ad,n,ec⟩):=hs0
  have HK0:Hid (n - n=n - (ob.el.take n).length):=by show _=_;rw[List.length_take];omega
  have hc1:(n:Int)<(ob.el.length:Int):=by omega
  have hce:(n:Int)≤(ec:Int):=by omega
  have hec2:(ec:Int)≤9223372036854775807:=HEC.out
  generalize hE0:ob.el.take n=E0 at *
  generalize ob.el.length=len at *
  clear hE0 HST hs0 c
  go_enter Tryz.func99,Tryz.ntmps99
  go_wp2_with fail
  generalize (w.setCell ⟨g,i*12+7,none⟩ (.slice ad n ec))=wq at *
  generalize hV0:(⟨ad,n,ec⟩:SV)=V0 at *
  go_loopg [20] (n - n) (fun gh s20 W0=>∃(el:List Int) (ve:SV),Hid (RzAt w B hb tg H M i ob ov n W0 el ve)∧gh=n - el.length)
  case atStart=>exact⟨E0,V0,HS,by first | exact HK0.out | rfl⟩
  case round =>
   clear HS HK0
   obtain⟨el,ve,HR,hgh⟩:=hrel
   obtain⟨ad1,ec1,hve1,c7,f7,hB1,hg1,hown1,hkeep,hnext⟩:=HCELL.out _ el ve HR.out
   have hleN:el.length≤n:=HR.out.len
   have HGH:=(show Hid _ from hgh)
   by_cases cl:el.length<n
   ·have hlt:(el.length:Int)<(n:Int):=by omega
    have hltd:decide ((el.length:Int)<(n:Int))=true:=decide_eq_true hlt
    have HNX:Hid (∀(W:World) (G C:Nat),OwnR wC 1 24 B W (.slice (some ⟨G,0,none⟩) (el.length+1) C) (el++[holW])→Chg (fun b=>(Value.slice ad1 el.length ec1).ownBlock=some b) wr W→((Value.slice ad1 el.length ec1).ownBlock=some G∨wr.heap.size≤G)→RzAt w B hb tg H M i ob ov n (W.setCell ⟨g,i*12+7,none⟩ (.slice (some ⟨G,0,none⟩) (el.length+1) C)) (el++[holW]) ⟨some ⟨G,0,none⟩,el.length+1,C⟩):=fun W G C r1 r2 r3=>hnext W G C r1 r2 r3 (by have:=HN.out;omega) cl
    have HKP:Hid (∀W,Chg (fun b=>(Value.slice ad1 el.length ec1).ownBlock=some b) wr W→W.cell? ⟨g,i*12+7,none⟩=some (.slice ad1 el.length ec1)∧W.frozen? ⟨g,i*12+7,none⟩=false):=hkeep
    have HAL:Hid (Below wr.heap.size wr (wr.alloc (.cells #[.int .u64 18445336698825998340] 24))):=(Below.refl _ _).alloc (Nat.le_refl _) _
    have HOW:Hid (OwnR wC 1 24 B (wr.alloc (.cells #[.int .u64 18445336698825998340] 24)) (.slice ad1 el.length ec1) el):=hown1.below HAL.out
    have HONE:Hid (Sli.ok wC 1 (wr.alloc (.cells #[.int .u64 18445336698825998340] 24)) ⟨some ⟨wr.heap.size,0,none⟩,1,[holW]⟩):=one_sli rtW (at_new _ _) rfl
    have HSZ:Hid (B≤(wr.alloc (.cells #[.int .u64 18445336698825998340] 24)).heap.size):=Nat.le_trans hB1 HAL.out.size
    have HBX:Hid (((el.length+1)+(el.length+1) / 4+192)*8≤281474976710656∧el.length+1≤maxLen):=⟨by have:=HN.out;omega,by have:=HN.out;unfold maxLen;omega⟩
    have HCL:Hid (el.length<n):=cl
    clear hve1 hB1 hg1 hown1 hkeep hnext hgh cl HCELL HEN hleN HR
    go_wp2_with (at_builtin;refine app_row rtW rfl _ _ rfl B (.slice ad1 el.length ec1) el ?h1 HOW.out ⟨some ⟨wr.heap.size,0,none⟩,1,[holW]⟩ ?h3 HONE.out HBX.out.2 HBX.out.1 HSZ.out ?_)
    case h1=>rfl
    case h3=>rfl
    intro v6 w6 ho6 hg6 hl6
    have hll:(el++[holW]).length=el.length+1:=by simp
    have ho7:w6.ownsRow B 24 1 v6 (el.length+1) ((el++[holW]).flatMap wC):=by rw[←hll];exact ho6
    obtain⟨g6,c6,rfl,_,_⟩:=ho7.form (by omega)
    have hch:Chg (fun b=>(Value.slice ad1 el.length ec1).ownBlock=some b) wr w6:=(Chg.of_below HAL.out).trans (Chg.of_grown (S:=fun b=>(Value.slice ad1 el.length ec1).ownBlock=some b) hg6 (fun k q=>q)) (fun _ _ q=>q)
    have hR6:=HNX.out w6 g6 c6 (by unfold OwnR;rw[hll];exact ho7) hch (hl6.imp (fun q=>by rw[←q];rfl) (fun q=>by
     have q:g6=(wr.alloc (.cells #[.int .u64 18445336698825998340] 24)).heap.size:=by simpa [Value.ownBlock] using q
     rw[q]
     exact HAL.out.size))
    obtain⟨z1,z2⟩:=HKP.out w6 hch
    have HR6:=(show Hid _ from hR6)
    clear ho6 ho7 hg6 hl6 hch hR6 HNX HKP HOW HONE HBX HSZ HAL c7 f7
    go_wp2_with fail
    go_roundg (n - (el++[holW]).length)
    case measure=>have:=HGH.out;have:=HCL.out;rw[hll];omega
    case rel=>exact⟨_,_,HR6,rfl⟩
   ·have hlt:¬((el.length:Int)<(n:Int)):=by omega
    have HE:=(show Hid _ from HEN.out _ el ve HR.out (by omega))
    clear hve1 hB1 hg1 hown1 hkeep hnext hgh cl HCELL HEN hleN HR f7
    go_wp2_with fail
    go_end0
    exact⟨rfl,HE.out⟩
 ·have hs0:=(HST.out _).1 ⟨rfl,by omega⟩
  have HS:Hid (RzAt w B hb tg H M i ob ov n w ob.el ⟨ad,ob.el.length,ec⟩):=hs0
  have HK0:Hid (n - ob.el.length=n - ob.el.length):=rfl
  have hc1:¬((n:Int)<(ob.el.length:Int)):=by omega
  generalize hE0:ob.el=E0 at *
  clear hE0 HST hs0 c
  go_enter Tryz.func99,Tryz.ntmps99
  go_wp2_with fail
  generalize hV0:(⟨ad,E0.length,ec⟩:SV)=V0 at *
  go_loopg [20] (n - E0.length) (fun gh s20 W0=>∃(el:List Int) (ve:SV),Hid (RzAt w B hb tg H M i ob ov n W0 el ve)∧gh=n - el.length)
  case atStart=>exact⟨E0,V0,HS,by first | exact HK0.out | rfl⟩
  case round =>
   clear HS HK0
   obtain⟨el,ve,HR,hgh⟩:=hrel
   obtain⟨ad1,ec1,hve1,c7,f7,hB1,hg1,hown1,hkeep,hnext⟩:=HCELL.out _ el ve HR.out
   have hleN:el.length≤n:=HR.out.len
   have HGH:=(show Hid _ from hgh)
   by_cases cl:el.length<n
   ·have hlt:(el.length:Int)<(n:Int):=by omega
    have hltd:decide ((el.length:Int)<(n:Int))=true:=decide_eq_true hlt
    have HNX:Hid (∀(W:World) (G C:Nat),OwnR wC 1 24 B W (.slice (some ⟨G,0,none⟩) (el.length+1) C) (el++[holW])→Chg (fun b=>(Value.slice ad1 el.length ec1).ownBlock=some b) wr W→((Value.slice ad1 el.length ec1).ownBlock=some G∨wr.heap.size≤G)→RzAt w B hb tg H M i ob ov n (W.setCell ⟨g,i*12+7,none⟩ (.slice (some ⟨G,0,none⟩) (el.length+1) C)) (el++[holW]) ⟨some ⟨G,0,none⟩,el.length+1,C⟩):=fun W G C r1 r2 r3=>hnext W G C r1 r2 r3 (by have:=HN.out;omega) cl
    have HKP:Hid (∀W,Chg (fun b=>(Value.slice ad1 el.length ec1).ownBlock=some b) wr W→W.cell? ⟨g,i*12+7,none⟩=some (.slice ad1 el.length ec1)∧W.frozen? ⟨g,i*12+7,none⟩=false):=hkeep
    have HAL:Hid (Below wr.heap.size wr (wr.alloc (.cells #[.int .u64 18445336698825998340] 24))):=(Below.refl _ _).alloc (Nat.le_refl _) _
    have HOW:Hid (OwnR wC 1 24 B (wr.alloc (.cells #[.int .u64 18445336698825998340] 24)) (.slice ad1 el.length ec1) el):=hown1.below HAL.out
    have HONE:Hid (Sli.ok wC 1 (wr.alloc (.cells #[.int .u64 18445336698825998340] 24)) ⟨some ⟨wr.heap.size,0,none⟩,1,[holW]⟩):=one_sli rtW (at_new _ _) rfl
    have HSZ:Hid (B≤(wr.alloc (.cells #[.int .u64 18445336698825998340] 24)).heap.size):=Nat.le_trans hB1 HAL.out.size
    have HBX:Hid (((el.length+1)+(el.length+1) / 4+192)*8≤281474976710656∧el.length+1≤maxLen):=⟨by have:=HN.out;omega,by have:=HN.out;unfold maxLen;omega⟩
    have HCL:Hid (el.length<n):=cl
    clear hve1 hB1 hg1 hown1 hkeep hnext hgh cl HCELL HEN hleN HR
    go_wp2_with (at_builtin;refine app_row rtW rfl _ _ rfl B (.slice ad1 el.length ec1) el ?h1 HOW.out ⟨some ⟨wr.heap.size,0,none⟩,1,[holW]⟩ ?h3 HONE.out HBX.out.2 HBX.out.1 HSZ.out ?_)
    case h1=>rfl
    case h3=>rfl
    intro v6 w6 ho6 hg6 hl6
    have hll:(el++[holW]).length=el.length+1:=by simp
    have ho7:w6.ownsRow B 24 1 v6 (el.length+1) ((el++[holW]).flatMap wC):=by rw[←hll];exact ho6
    obtain⟨g6,c6,rfl,_,_⟩:=ho7.form (by omega)
    have hch:Chg (fun b=>(Value.slice ad1 el.length ec1).ownBlock=some b) wr w6:=(Chg.of_below HAL.out).trans (Chg.of_grown (S:=fun b=>(Value.slice ad1 el.length ec1).ownBlock=some b) hg6 (fun k q=>q)) (fun _ _ q=>q)
    have hR6:=HNX.out w6 g6 c6 (by unfold OwnR;rw[hll];exact ho7) hch (hl6.imp (fun q=>by rw[←q];rfl) (fun q=>by
     have q:g6=(wr.alloc (.cells #[.int .u64 18445336698825998340] 24)).heap.size:=by simpa [Value.ownBlock] using q
     rw[q]
     exact HAL.out.size))
    obtain⟨z1,z2⟩:=HKP.out w6 hch
    have HR6:=(show Hid _ from hR6)
    clear ho6 ho7 hg6 hl6 hch hR6 HNX HKP HOW HONE HBX HSZ HAL c7 f7
    go_wp2_with fail
    go_roundg (n - (el++[holW]).length)
    case measure=>have:=HGH.out;have:=HCL.out;rw[hll];omega
    case rel=>exact⟨_,_,HR6,rfl⟩
   ·have hlt:¬((el.length:Int)<(n:Int)):=by omega
    have HE:=(show Hid _ from HEN.out _ el ve HR.out (by omega))
    clear hve1 hB1 hg1 hown1 hkeep hnext hgh cl HCELL HEN hleN HR f7
    go_wp2_with fail
    go_end0
    exact⟨rfl,HE.out⟩
theorem len_at (h:HeapAt w B hb tg H M)(o:Int)(o0:0≤o)(o1:o<18446744073709551616){i:Nat}{ob:Ob}(ho:obI H o=some i)(hi:H.obs[i]?=some ob) :
  Calls Tryz.prog 24 #[.pointer (some ⟨hb,0,none⟩),.int .u64 o] w fun e w'=>e = .returned (.int .i64 (ob.el.length:Int))∧w'=w:=by
 obtain⟨g,cap,ov,hvo,hov,t4,hne,hgl,hcell,hfz,hl1,hl2,hrow⟩:=h.obj hi
 have ka:=at_hit h o o0 o1 i g cap ho hvo
 have d7:=hcell 7 _ rfl
 have hr:RowIn wC 1 _ B w _ ov.ve ob.el:=h.part hi hov 2 (by omega)
 obtain⟨q1,q2,q3,q4⟩:=hr.open rtW.len
 unfold SV.val at d7
 simp only at d7
 rw[q1] at d7
 generalize ob.el.length=len at *
 generalize ov.ve.ad=ad at *
 generalize ov.ve.cap=ec at *
 clear h hi ho hvo hov t4 hne hgl hcell hfz hl1 hl2 hrow hr q1 q2 q3 q4
 go_enter Tryz.func24,Tryz.ntmps24
 go_wp2_with fail
 refine ka.mono ?_
 rintro e w2 ⟨rfl,rfl⟩
 clear ka
 go_wp2_with fail
 go_ret
 exact⟨rfl,rfl⟩
def elemI (el:List Int)(n:Int):Option Int:=if 0≤n then (el[n.toNat]?).bind (fun v=>if v=holW then none else some v) else none
theorem elem_at (h:HeapAt w B hb tg H M)(o:Int)(o0:0≤o)(o1:o<18446744073709551616){i:Nat}{ob:Ob}(ho:obI H o=some i)(hi:H.obs[i]?=some ob)(n:Int) :
  Calls Tryz.prog 41 #[.pointer (some ⟨hb,0,none⟩),.int .u64 o,.int .i64 n] w fun e w'=>e = .returned (.tuple #[.int .u64 ((elemI ob.el n).getD undW),.bool (elemI ob.el n).isSome])∧w'=w:=by
 obtain⟨g,cap,ov,hvo,hov,t4,hne,hgl,hcell,hfz,hl1,hl2,hrow⟩:=h.obj hi
 have ka:=at_hit h o o0 o1 i g cap ho hvo
 have d7:=hcell 7 _ rfl
 have hr:RowIn wC 1 _ B w _ ov.ve ob.el:=h.part hi hov 2 (by omega)
 obtain⟨q1,q2,q3,q4⟩:=hr.open rtW.len
 unfold SV.val at d7
 simp only at d7
 rw[q1] at d7
 have hlim:(ob.el.length:Int)≤9223372036854775807:=by unfold maxLen at q3;omega
 by_cases c0:n<0
 ·have he:elemI ob.el n=none:=by unfold elemI;rw[if_neg (by omega)]
  rw[he]
  unfold undW
  simp only[Option.getD_none,Option.isSome_none]
  have c1:decide (n<0)=true:=decide_eq_true c0
  clear h hi ho hvo hov t4 hne hgl hcell hfz hl1 hl2 hrow hr q1 q2 q3 q4 he
  go_enter Tryz.func41,Tryz.ntmps41
  go_wp2_with fail
  refine ka.mono ?_
  rintro e w2 ⟨rfl,rfl⟩
  clear ka
  go_wp2_with fail
  go_ret2
  exact⟨rfl,rfl⟩
 ·obtain⟨j,rfl⟩:∃j:Nat,n=j:=⟨n.toNat,by omega⟩
  have c1:decide ((j:Int)<0)=false:=decide_eq_false c0
  by_cases cl:j<ob.el.length
  ·have hex:∃v,ob.el[j]?=some v:=⟨_,List.getElem?_eq_getElem cl⟩
   obtain⟨v,hv⟩:=hex
   obtain⟨ge,e1,_,_,_,hc,_⟩:=q4 (by intro e;rw[e] at cl;simp at cl)
   have dv:=hc j v hv 0 _ rfl
   simp only[Nat.mul_one,Nat.add_zero] at dv
   rw[e1] at d7
   have hjl:(j:Int)<(ob.el.length:Int):=by omega
   have c2:decide ((ob.el.length:Int)≤(j:Int))=false:=decide_eq_false (by omega)
   by_cases ch:v=holW
   ·have he:elemI ob.el (j:Int)=none:=by
     unfold elemI
     rw[if_pos (by omega),Int.toNat_natCast,hv]
     show(if v=holW then none else some v)=none
     rw[if_pos ch]
    rw[he]
    unfold undW
    simp only[Option.getD_none,Option.isSome_none]
    have ch2:(v == 18445336698825998340)=true:=by simpa [holW] using ch
    generalize ob.el.length=len at *
    generalize ov.ve.cap=ec at *
    clear h hi ho hvo hov t4 hne hgl hcell hfz hl1 hl2 hrow hr q1 q2 q3 q4 he hc hv ch e1 cl
    go_enter Tryz.func41,Tryz.ntmps41
    go_wp2_with fail
    refine ka.mono ?_
    rintro e w2 ⟨rfl,rfl⟩
    clear ka
    go_wp2_with fail
    go_ret2
    exact⟨rfl,rfl⟩
   ·have he:elemI ob.el (j:Int)=some v:=by
     unfold elemI
     rw[if_pos (by omega),Int.toNat_natCast,hv]
     show(if v=holW then none else some v)=some v
     rw[if_neg ch]
    rw[he]
    simp only[Option.getD_some,Option.isSome_some]
    have ch2:(v == 18445336698825998340)=false:=by simpa [holW] using ch
    generalize ob.el.length=len at *
    generalize ov.ve.cap=ec at *
    clear h hi ho hvo hov t4 hne hgl hcell hfz hl1 hl2 hrow hr q1 q2 q3 q4 he hc hv ch e1 cl
    go_enter Tryz.func41,Tryz.ntmps41
    go_wp2_with fail
    refine ka.mono ?_
    rintro e w2 ⟨rfl,rfl⟩
    clear ka
    go_wp2_with fail
    go_ret2
    exact⟨rfl,rfl⟩
  ·have he:elemI ob.el (j:Int)=none:=by
    unfold elemI
    rw[if_pos (by omega),Int.toNat_natCast,List.getElem?_eq_none (by omega)]
    rfl
   rw[he]
   unfold undW
   simp only[Option.getD_none,Option.isSome_none]
   have c2:decide ((ob.el.length:Int)≤(j:Int))=true:=decide_eq_true (by omega)
   have c3:(ob.el.length:Int)≤(j:Int):=by omega
   generalize ob.el.length=len at *
   generalize ov.ve.ad=ad at *
   generalize ov.ve.cap=ec at *
   clear h hi ho hvo hov t4 hne hgl hcell hfz hl1 hl2 hrow hr q1 q2 q3 q4 he cl
   go_enter Tryz.func41,Tryz.ntmps41
   go_wp2_with fail
   refine ka.mono ?_
   rintro e w2 ⟨rfl,rfl⟩
   clear ka
   go_wp2_with fail
   go_ret2
   exact⟨rfl,rfl⟩
end
end Go.Proofs.YtahhionlbfhinabGreatDoor.Hp
