/- PN, VD, VF, UJ, CO, VG, VH, VB, VE, VI -/
import Derived.Test.YtahhionlbfhinabGreatDoorB23
import Derived.Test.YtahhionlbfhinabGreatDoorB10
import Derived.Test.YtahhionlbfhinabGreatDoorB20
import Derived.Test.YtahhionlbfhinabGreatDoorB22
import Derived.Test.YtahhionlbfhinabGreatDoorB6
import Derived.Test.YtahhionlbfhinabGreatDoorHY
import Derived.BigQuiet
import Derived.Deep.CutBlock
import Derived.Deep.CutRange
import Derived.Test.YtahhionlbfhinabGreatDoorB11
import Derived.Test.YtahhionlbfhinabGreatDoorB21
import Derived.Test.YtahhionlbfhinabGreatDoorB8
set_option linter.unusedVariables false
set_option linter.unusedSimpArgs false
set_option maxRecDepth 100000
set_option maxHeartbeats 40000000
namespace Go.Proofs.YtahhionlbfhinabGreatDoor.Sp
open Go.RowKit Go.Proofs.YtahhionlbfhinabGreatDoor.Hp
theorem keys_ok {T:List Ly}{L:List Sh}(h:Rel T L)(hw:∀x∈T,x.wf):∀(n j:Nat)(s:Sh),j<n→L[j]?=some s→(∀k∈s.ks,k.size≤maxLen)∧(∀f∈s.fs,-9223372036854775808≤f∧f≤9223372036854775807)∧0≤s.pr∧s.pr≤18446744073709551615
 | 0,j,s,hj,_=>by omega
 | n+1,j,s,hj,hs=>by
   obtain⟨l,g1,g2,g3,g4⟩:=h.at' hs
   have hl:=hw l (List.mem_of_getElem? g1)
   have hpr:=pair_pr g2
   refine⟨?_,?_,by rw[←hpr];exact hl.pr1,by rw[←hpr];exact hl.pr2⟩
   ·rcases g2 with⟨_,e⟩ | ⟨q,a1,a2,_,_,_,_,_,rfl⟩ | ⟨q,a1,a2,_,_,_,_,rfl⟩
    ·rw[e];intro k hk;simp at hk
    ·intro k hk
     simp only[grow,List.mem_append,List.mem_singleton] at hk
     rcases hk with hk | hk
     ·exact(keys_ok h hw n _ q (by omega) a2).1 k hk
     ·rw[hk];exact hl.ke
    ·exact(keys_ok h hw n _ q (by omega) a2).1
   ·rcases g2 with⟨_,e⟩ | ⟨q,a1,a2,_,_,_,_,_,rfl⟩ | ⟨q,a1,a2,_,_,_,_,rfl⟩
    ·rw[e];intro k hk;simp at hk
    ·intro k hk
     simp only[grow,List.mem_append,List.mem_singleton] at hk
     rcases hk with hk | hk
     ·exact(keys_ok h hw n _ q (by omega) a2).2.1 k hk
     ·rw[hk];exact⟨hl.fl1,hl.fl2⟩
    ·intro k hk
     simp only[chg] at hk
     rcases List.mem_or_eq_of_mem_set hk with hk | hk
     ·exact(keys_ok h hw n _ q (by omega) a2).2.1 k hk
     ·rw[hk];exact⟨hl.fl1,hl.fl2⟩
theorem TreeAt.keyOk {w:World}{B tb:Nat}{O:Nat→Prop}{most:Int}{L:List Sh}{T:List Ly}{v:Value}{mb:Nat}(h:TreeAt w B tb O most L T v mb){j i:Nat}{s:Sh}{k:ByteArray}{f:Int}(hs:L[j]?=some s)(h1:s.ks[i]?=some k)(h2:s.fs[i]?=some f):KeyOk k f:=by
 obtain⟨a,b,_⟩:=keys_ok h.rel h.wf (j+1) j s (by omega) hs
 have:=b f (List.mem_of_getElem? h2)
 exact⟨a k (List.mem_of_getElem? h1),this.1,this.2⟩
theorem move_any (w:World)(B tb:Nat)(O:Nat→Prop)(most:Int)(L:List Sh)(h:Tree w B tb O most L)(n:Int)(p:Int)(hp1:0≤p)(hp2:p≤18446744073709551615)(hroom:most≤top∨∀s∈L,L.length+s.ks.length+1≤top) :
  Calls Tryz.prog 103 #[.pointer (some ⟨tb,0,none⟩),.int .i64 n,.int .u64 p] w fun e w'=>e = .returned (.tuple #[.int .i64 (moveD most L n p).2.1,.bool (moveD most L n p).2.2])∧Went w B tb O most (moveD most L n p).1 w':=by
 have kc:=there_any w B tb O most L h n
 have HT:Hid (Tree w B tb O most L):=h
 cases ht:thereB L n with
 | false =>
   rw[ht] at kc
   have e0:moveD most L n p=(L,0,false):=by unfold moveD;rw[there_not ht]
   rw[e0]
   clear h hroom e0
   go_enter Tryz.func103,Tryz.ntmps103
   go_wp2_with fail
   refine kc.mono ?_
   rintro e w2 ⟨rfl,rfl⟩
   clear kc
   go_wp2_with fail
   go_ret2
   exact⟨rfl,Went.same HT.out (Below.refl _ _)⟩
 | true =>
   rw[ht] at kc
   obtain⟨j,S,rfl,hs,hs2,hj⟩:=there_of ht
   have e0:moveD most L j p=movD most (S.ks.zip S.fs) (rootD most L p):=by unfold moveD;rw[hs2]
   rw[e0]
   have hroom2:most≤top∨L.length+S.ks.length+1≤top:=hroom.imp id (fun q=>q S (List.mem_of_getElem? hs))
   have kr:=root_any w B tb O most L h p hp1 hp2 (hroom2.imp id (fun q=>by omega))
   obtain⟨T,v,mb,h⟩:=h
   have hcap:=h.cap
   have hfin:=h.rel.fin hs
   have hkl:=hfin.kl
   have hks:(S.ks.length:Int)≤1700000000000:=by unfold top at hcap;omega
   have HF:Hid (Fine S j):=hfin
   have HKO:Hid (∀(i:Nat) (k:ByteArray) (f:Int),S.ks[i]?=some k→S.fs[i]?=some f→KeyOk k f):=fun i k f h1 h2=>h.keyOk hs h1 h2
   have HM:Hid (MvP most L S (movD most (S.ks.zip S.fs) (rootD most L p)) 0 (rootD most L p)):=MvP.start S p h.rel
   have HRO:Hid (most≤top∨L.length+S.ks.length+1≤top):=hroom2
   have HPR:Hid (∀w1,Went w B tb O most (rootD most L p).1 w1→Calls Tryz.prog 117 #[.pointer (some ⟨tb,0,none⟩),.int .i64 (j:Int)] w1 fun e w'=>∃g,e = .returned (.slice (some ⟨g,0,none⟩) S.ks.length S.ks.length)∧MvAt w w' B tb O most L S (movD most (S.ks.zip S.fs) (rootD most L p)) g 0 (rootD most L p).2.1 (rootD most L p).2.2):=fun w1 ⟨O1,g1,g2,g3⟩=>by
    have hs1:(rootD most L p).1[j]?=some S:=by
     unfold rootD layD
     cases hit L ⟨p,[],[],[]⟩ with
     | some i=>exact hs
     | none =>
       simp only
       split
       ·exact hs
       ·simp only;rw[List.getElem?_append_left hj];exact hs
    refine(props_any w1 B tb O1 most _ g1 j S hs1).mono ?_
    rintro e w2 ⟨g,rfl,k1,k2,k3⟩
    refine⟨g,rfl,⟨⟨_,O1,rfl,rfl,HM.out,g1.below k3,fun q => ?_,g3⟩,k1,g2.trans (Chg.of_below (S:=fun _=>False) k3) (fun _ _ q=>q.elim)⟩⟩
    have:=(g1.lt g q).2
    omega
   generalize movD most (S.ks.zip S.fs) (rootD most L p)=R at *
   generalize rootD most L p=r0 at *
   obtain⟨L0,n0,ok0⟩:=r0
   simp only at kr HPR
   clear h hs hs2 e0 hcap hfin hkl ht hroom hroom2 HM HT
   go_enter Tryz.func103,Tryz.ntmps103
   go_wp2_with fail
   refine kc.mono ?_
   rintro e w2 ⟨rfl,rfl⟩
   clear kc
   go_wp2_with fail
   refine kr.mono ?_
   rintro e w3 ⟨rfl,hw3⟩
   have kp:=HPR.out w3 hw3
   clear kr HPR hw3
   go_wp2_with fail
   refine kp.mono ?_
   rintro e w4 ⟨g,rfl,hmv⟩
   have HI:=(show Hid _ from hmv)
   clear kp hmv
   go_wp2_with fail
   go_loopw [8,9,26] (fun n ok i wr=>∃(m:Nat) (nn:Int) (bb:Bool),MvAt w2 wr B tb O most L S R g m nn bb∧n = .int .i64 nn∧ok = .bool bb∧i = .int .i64 m) (fun n ok i wr=>S.ks.length - (intOf i).toNat)
   case atStart=>exact⟨0,n0,ok0,HI.out,rfl,rfl,rfl⟩
   case round =>
    clear HI
    obtain⟨m,nn,bb,hr,rfl,rfl,rfl⟩:=hrel
    have HR:=(show Hid _ from hr)
    have ple:m≤S.ks.length:=by obtain⟨r,O',_,_,h3,_⟩:=hr.at';exact h3.le
    clear hr
    rcases Nat.lt_or_ge m S.ks.length with c | c
    ·obtain⟨ky,fl,k1,k2,k3⟩:=props_at HF.out.fl m c
     obtain⟨p0,_⟩:=HR.out.pr.cell m _ k3 0 _ rfl
     obtain⟨p1,_⟩:=HR.out.pr.cell m _ k3 1 _ rfl
     obtain⟨p2,_⟩:=HR.out.pr.cell m _ k3 2 _ rfl
     rw[Nat.add_zero] at p0
     simp only at p0 p1 p2
     have HA:Hid (∀o,Below wr.heap.size wr (wr.alloc o)):=fun o=>(Below.refl _ _).alloc (Nat.le_refl _) _
     cases bb with
     | false =>
       obtain⟨q1,q2,q3⟩:=HR.out.went (Or.inl rfl) HF.out.fl
       have hz:=HR.out.zero
       have HE:Hid (Went w2 B tb O most R.1 (wr.alloc (.cells #[.string ky,.int .i64 fl,.bool true] 179))):=q3.trans (fun O' hO'=>Went.same hO' (HA.out _))
       have HQ:Hid (R.2.1=0∧R.2.2=false):=⟨by rw[q1,hz],q2⟩
       clear q1 q2 q3 hz HR k1 k2 k3
       go_wp2_with fail
       go_ret2
       refine⟨?_,HE.out⟩
       rw[HQ.out.1,HQ.out.2]
       rfl
     | true =>
       obtain⟨r,O',h1,h2,h3,h4,h5,h6⟩:=HR.out.at'
       obtain⟨mm,q,y1,y2,y3⟩:=h3.yes h2
       obtain⟨T',v',mb',h4'⟩:=h4
       have hnx:=h3.next HF.out h4'.rel h2 y1 y2 y3 k1 k2
       have hlen:=h3.len
       rw[y1] at h1
       subst h1
       have kl:=lay_any (wr.alloc (.cells #[.string ky,.int .i64 fl,.bool true] 179)) B tb O' most r.1 ((show Tree wr B tb O' most r.1 from ⟨T',v',mb',h4'⟩).below (HA.out _)) mm q y2 ky fl (HKO.out m ky fl k1 k2) hnx.1 (HRO.out.imp id (fun q=>by omega))
       have hgl:=HR.out.pr.lt
       have HN:Hid (∀w5,Went (wr.alloc (.cells #[.string ky,.int .i64 fl,.bool true] 179)) B tb O' most (layD most r.1 (grow q ky fl)).1 w5→MvAt w2 w5 B tb O most L S R g (m+1) (layD most r.1 (grow q ky fl)).2.1 (layD most r.1 (grow q ky fl)).2.2):=fun w5 ⟨O5,z1,z2,z3⟩=>by
        have hc5:Chg O' wr w5:=(Chg.of_below (HA.out _)).trans z2 (fun _ _ q=>q)
        refine⟨⟨_,O5,rfl,rfl,hnx.2,z1,fun q => ?_,fun b q => ?_⟩,HR.out.pr.kept hc5 h5,HR.out.chg.trans hc5 (fun i hi q => ?_)⟩
        ·rcases z3 g q with q | q
         ·exact h5 q
         ·have:=(HA.out (.cells #[.string ky,.int .i64 fl,.bool true] 179)).size
          omega
        ·rcases z3 b q with q | q
         ·exact h6 b q
         ·have:=(HA.out (.cells #[.string ky,.int .i64 fl,.bool true] 179)).size
          have:=HR.out.chg.size
          exact Or.inr (by omega)
        ·rcases h6 i q with q | q
         ·exact q
         ·omega
       generalize layD most r.1 (grow q ky fl)=r5 at *
       obtain⟨L5,n5,ok5⟩:=r5
       simp only at kl HN
       clear HR k1 k2 k3 h2 h3 h4' h5 h6 y1 y2 y3 hnx hlen hgl HA
       go_wp2_with fail
       refine kl.mono ?_
       rintro e w5 ⟨rfl,hw5⟩
       have HX:=(show Hid _ from HN.out w5 hw5)
       clear kl HN hw5
       go_wp2_with fail
       refine⟨⟨m+1,n5,ok5,HX.out,rfl,rfl,by go_num⟩,?_⟩
       simp[intOf]
       omega
    ·have hm:m=S.ks.length:=by omega
     obtain⟨q1,q2,q3⟩:=HR.out.went (Or.inr hm) HF.out.fl
     have HE:=(show Hid _ from q3)
     have HQ:Hid (R.2.1=nn∧R.2.2=bb):=⟨q1,q2⟩
     clear q1 q2 q3 HR
     go_wp2_with fail
     go_ret2
     refine⟨?_,HE.out⟩
     rw[HQ.out.1,HQ.out.2]
     rfl
end Go.Proofs.YtahhionlbfhinabGreatDoor.Sp
namespace Go.Proofs.YtahhionlbfhinabGreatDoor.Hp
open Go.RowKit
def mvD (H:He)(ob:Ob)(p:Int):List Sp.Sh×Int×Bool:=Sp.moveD H.most H.L ob.shape (rootN ob.kind p)
def preH (H:He)(i:Nat)(ob:Ob)(p:Int):He:={ raiseH (touchH H ob.cell) p with obs:=(raiseH (touchH H ob.cell) p).obs.set i { ob with proto:=p } }
def setPH (H:He)(i:Nat)(ob:Ob)(p:Int):He :=
 if ob.shaped=true then { preH H i ob p with L:=(mvD H ob p).1,obs:=(preH H i ob p).obs.set i { ob with proto:=p,shape:=(mvD H ob p).2.1,shaped:=(mvD H ob p).2.2 } } else preH H i ob p
def setPF (H:He)(o p:Int):He:=match obI H o with
 | none=>H
 | some i=>match H.obs[i]? with
   | none=>H
   | some ob=>if p=ob.proto∨mayB H p=false∨saB H o p=true then H else setPH H i ob p
theorem raise_other {H:He}{p:Int}{i:Nat}{ob:Ob}(hi:H.obs[i]?=some ob)(hp:obI H p≠some i):(raiseH H p).obs[i]?=some ob:=by
 unfold raiseH
 cases hq:obI H p with
 | none=>exact hi
 | some j =>
   simp only
   cases hj:H.obs[j]? with
   | none=>exact hi
   | some ob2 =>
     simp only
     rw[List.getElem?_set_ne (fun e=>hp (by rw[hq,e]))]
     exact hi
section
variable {w w' w1:World}{B hb:Nat}{O S:Nat→Prop}{H H':He}{M M':HV}{tg:Nat→Nat}
theorem setProto_hit (h:HeapAt w B hb tg H M)(hac:Acy H)(hab:AbvOk H)(o p:Int)(o0:0≤o)(o1:o<18446744073709551616)(p0:0≤p)(p1:p<18446744073709551616){i:Nat}{ob:Ob}(ho:obI H o=some i)(hi:H.obs[i]?=some ob)(q1:¬p=ob.proto)(q2:mayB H p=true)(q3:saB H o p=false) :
  Calls Tryz.prog 75 #[.pointer (some ⟨hb,0,none⟩),.int .u64 o,.int .u64 p] w fun e w'=>e = .returned (.tuple #[])∧WentM w B hb tg (setPH H i ob p) M w':=by
 obtain⟨g,cap,ov,hvo,hov,t4,hne,hgl,hcell,hfz,hl1,hl2,hrow⟩:=h.obj hi
 have ka:=at_hit h o o0 o1 i g cap ho hvo
 have hq:obO H o=some ob:=by unfold obO;rw[ho];exact hi
 have km:=mayBe_at h p p0 p1
 rw[q2] at km
 have ks:=stands_any h hac hab o p o0 o1 p0 p1 hq
 rw[q3] at ks
 have kt:=touch_at h hi hvo
 have d1:=hcell 1 _ rfl
 simp only at d1
 have hpp:(p == ob.proto)=false:=by simpa using q1
 have hil:i<H.obs.length:=(List.getElem?_eq_some_iff.1 hi).1
 have hpo:obI H p≠some i:=fun e=>by
  have e1:=(obI_some e).2.2.2
  have e2:=(obI_some ho).2.2.2
  unfold saB at q3
  rw[decide_eq_true (show p=o by rw[e1,e2])] at q3
  cases q3
 have hwf:=h.wf.ob ob (List.mem_of_getElem? hi)
 have HT:Hid (∀w2,WentM w B hb tg (touchH H ob.cell) M w2→Calls Tryz.prog 50 #[.pointer (some ⟨hb,0,none⟩),.int .u64 p] w2 fun e w'=>e = .returned (.tuple #[])∧WentM w B hb tg (raiseH (touchH H ob.cell) p) M w'):=fun w2 q=>by
  obtain⟨tg2,r1,r2,r3⟩:=q
  refine(raise_at r1 p p0 p1).mono ?_
  rintro e w' ⟨rfl,hq⟩
  exact⟨rfl,WentM.next r2 r3 hq⟩
 have HP:Hid (∀w3,WentM w B hb tg (raiseH (touchH H ob.cell) p) M w3→(w3.cell? ⟨g,i*12+1,none⟩=some (.int .u64 ob.proto)∧w3.frozen? ⟨g,i*12+1,none⟩=false)∧WentM w B hb tg (preH H i ob p) M (w3.setCell ⟨g,i*12+1,none⟩ (.int .u64 p))):=fun w3 q=>by
  obtain⟨tg3,r1,r2,r3⟩:=q
  have hi3:(raiseH (touchH H ob.cell) p).obs[i]?=some ob:=raise_other hi hpo
  obtain⟨g',cap',ov',hvo',hov',t4',_,_,hcell',hfz',_⟩:=r1.obj hi3
  have hlen:=(raise_len (touchH H ob.cell) p).1
  have hvo3:M.vo=⟨some ⟨g,0,none⟩,(raiseH (touchH H ob.cell) p).obs.length,cap⟩:=by rw[hlen];exact hvo
  rw[hvo3] at hvo'
  injection hvo' with x1 x2 x3
  injection x1 with x1
  injection x1 with x1
  subst x1
  have d1':=hcell' 1 _ rfl
  simp only at d1'
  have hf:=r1.fld hi3 hov' hvo3 { ob with proto:=p } (j:=1) (u := .int .u64 p) (by omega) rfl rfl rfl rfl ⟨hwf.kd,⟨p0,p1⟩,hwf.ks,hwf.fl,hwf.nx,hwf.el,hwf.inn⟩
  exact⟨⟨d1',hfz' _⟩,WentM.next r2 r3 (HeapAt.wentF r1 hf.2 (fun b q=>by omega) hf.1)⟩
 have HS:Hid (∀w4,WentM w B hb tg (preH H i ob p) M w4→(w4.cell? ⟨g,i*12+10,none⟩=some (.bool ob.shaped)∧w4.cell? ⟨g,i*12+9,none⟩=some (.int .i64 ob.shape)∧w4.cell? ⟨g,i*12+0,none⟩=some (.int .i64 ob.kind)∧w4.cell? ⟨hb,3,none⟩=some (.pointer (some ⟨M.tb,0,none⟩))) ∧
   Calls Tryz.prog 103 #[.pointer (some ⟨M.tb,0,none⟩),.int .i64 ob.shape,.int .u64 (rootN ob.kind p)] w4.drew (fun e w'=>e = .returned (.tuple #[.int .i64 (mvD H ob p).2.1,.bool (mvD H ob p).2.2]) ∧
    ((w'.cell? ⟨g,i*12+9,none⟩=some (.int .i64 ob.shape)∧w'.cell? ⟨g,i*12+10,none⟩=some (.bool ob.shaped)∧w'.frozen? ⟨g,i*12+9,none⟩=false∧w'.frozen? ⟨g,i*12+10,none⟩=false) ∧
      WentM w B hb tg { preH H i ob p with L:=(mvD H ob p).1,obs:=(preH H i ob p).obs.set i { ob with proto:=p,shape:=(mvD H ob p).2.1,shaped:=(mvD H ob p).2.2 } } M ((w'.setCell ⟨g,i*12+9,none⟩ (.int .i64 (mvD H ob p).2.1)).setCell ⟨g,i*12+10,none⟩ (.bool (mvD H ob p).2.2))))):=fun w4 q=>by
  obtain⟨tg4,r1,r2,r3⟩:=q
  have hlen:(preH H i ob p).obs.length=H.obs.length:=by unfold preH;simp only[List.length_set];exact(raise_len (touchH H ob.cell) p).1
  have hi4:(preH H i ob p).obs[i]?=some { ob with proto:=p }:=by unfold preH;exact List.getElem?_set_self (by rw[(raise_len (touchH H ob.cell) p).1];exact hil)
  have hvo4:M.vo=⟨some ⟨g,0,none⟩,(preH H i ob p).obs.length,cap⟩:=by rw[hlen];exact hvo
  obtain⟨g',cap',ov',hvo',hov',t4',_,_,hcell',hfz',_⟩:=r1.obj hi4
  rw[hvo4] at hvo'
  injection hvo' with x1 x2 x3
  injection x1 with x1
  injection x1 with x1
  subst x1
  have e9:=hcell' 9 _ rfl
  have e10:=hcell' 10 _ rfl
  have e0:=hcell' 0 _ rfl
  simp only at e9 e10 e0
  obtain⟨c0,c1,c2,c3,c4,c5,fz⟩:=r1.box
  refine⟨⟨e10,e9,e0,c3⟩,?_⟩
  obtain⟨Ot,ht,hO⟩:=r1.prt 5
  have hO:∀b,Ot b→tg4 b=5:=hO
  have hL:(preH H i ob p).L=H.L:=(raise_len (touchH H ob.cell) p).2.1
  have hm:(preH H i ob p).most=H.most:=(raise_len (touchH H ob.cell) p).2.2
  have hr:0≤rootN ob.kind p∧rootN ob.kind p≤18446744073709551615:=by unfold rootN;omega
  have hroom:(preH H i ob p).most≤Sp.top:=by rw[hm];have:=h.wf.mo;unfold Sp.top;omega
  have kmv:=Sp.move_any w4.drew B M.tb Ot _ _ (ht.below ((Below.refl _ _).drew)) ob.shape (rootN ob.kind p) hr.1 hr.2 (Or.inl hroom)
  rw[hL,hm] at kmv
  refine kmv.mono ?_
  rintro e w' ⟨rfl,hq⟩
  refine⟨rfl,?_⟩
  have hq2:Sp.Went w4.drew B M.tb Ot (preH H i ob p).most (mvD H ob p).1 w':=by rw[hm];exact hq
  obtain⟨s1,s2⟩:=shape_mid r1 hi4 hvo4 hO hq2 (mvD H ob p).2.1 (mvD H ob p).2.2
  exact⟨s1,WentM.next r2 r3 s2⟩
 have HK:Hid (0≤ob.kind∧ob.kind≤6):=hwf.kd
 have HF:Hid (ob.shaped=true→setPH H i ob p={ preH H i ob p with L:=(mvD H ob p).1,obs:=(preH H i ob p).obs.set i { ob with proto:=p,shape:=(mvD H ob p).2.1,shaped:=(mvD H ob p).2.2 } }):=fun e=>by unfold setPH;rw[if_pos e]
 have HG:Hid (ob.shaped=false→setPH H i ob p=preH H i ob p):=fun e=>by unfold setPH;rw[if_neg (by rw[e];simp)]
 generalize hX1:{ preH H i ob p with L:=(mvD H ob p).1,obs:=(preH H i ob p).obs.set i { ob with proto:=p,shape:=(mvD H ob p).2.1,shaped:=(mvD H ob p).2.2 } }=HX at *
 generalize setPH H i ob p=HY at *
 generalize preH H i ob p=HZ at *
 generalize raiseH (touchH H ob.cell) p=HR at *
 generalize touchH H ob.cell=H1 at *
 generalize (mvD H ob p).2.1=sh2 at *
 generalize (mvD H ob p).2.2=ok2 at *
 generalize ob.shape=sh at *
 generalize ob.proto=pr at *
 generalize ob.kind=kd at *
 generalize ob.shaped=ok at *
 generalize M.tb=tb at *
 have hro:=fun W=>rootOf_any W kd p HK.out.1 HK.out.2 p0 p1
 generalize rootN kd p=rn at *
 have HPB:Hid (0≤p∧p<18446744073709551616):=⟨p0,p1⟩
 clear h hac hab ho hi hvo hov t4 hne hgl hcell hfz hl1 hl2 hrow hq q1 q2 q3 hil hpo hwf hX1 HK p0 p1 o0 o1
 go_enter Tryz.func75,Tryz.ntmps75
 go_wp2_with fail
 refine ka.mono ?_
 rintro e w2 ⟨rfl,rfl⟩
 clear ka
 go_wp2_with fail
 refine km.mono ?_
 rintro e w2 ⟨rfl,rfl⟩
 clear km
 go_wp2_with fail
 refine ks.mono ?_
 rintro e w2 ⟨rfl,rfl⟩
 clear ks d1
 go_wp2_with fail
 refine kt.mono ?_
 rintro e w3 ⟨rfl,hw3⟩
 have kr:=HT.out w3 hw3
 clear kt hw3 HT
 go_wp2_with fail
 refine kr.mono ?_
 rintro e w4 ⟨rfl,hw4⟩
 obtain⟨⟨m1,f1⟩,hw5⟩:=HP.out w4 hw4
 obtain⟨w5,hw5e⟩:∃w5,w5=w4.setCell ⟨g,i*12+1,none⟩ (.int .u64 p):=⟨_,rfl⟩
 rw[←hw5e] at hw5
 have H5:Hid (WentM w2 B hb tg HZ M w5):=hw5
 obtain⟨⟨e10,e9,e0,c3⟩,kmv⟩:=HS.out w5 hw5
 simp only[Nat.add_zero] at e0
 clear kr hw4 HP hw5 HS
 go_upto_region 5 with fail
 rw[←hw5e]
 clear hw5e m1 f1
 cases ok with
 | false =>
   have HG2:Hid (HY=HZ):=HG.out rfl
   clear HF HG kmv hro e9 e0 c3
   go_wp2_with fail
   go_end0
   rw[HG2.out]
   exact⟨rfl,H5.out⟩
 | true =>
   have HF2:Hid (HY=HX):=HF.out rfl
   have kro:=hro w5.drew
   clear HF HG H5 hro
   go_wp2_with fail
   first
   | (go_region_with ((first | (go_at_call 52;refine kro.mono ?_;rintro e w6 ⟨rfl,rfl⟩) | (go_at_call 103;refine kmv.mono ?_;rintro e w7 ⟨rfl,⟨y1,y2,y3,y4⟩,hq⟩;have HQ:=(show Hid _ from hq);clear hq))))
   | fail
   all_goals
    go_wp2_with fail
    go_end0
    rw[HF2.out]
    exact⟨rfl,by first | exact HQ.out | exact HQ.out.drew⟩
end
section
variable {w w' w1:World}{B hb:Nat}{O S:Nat→Prop}{H H':He}{M M':HV}{tg:Nat→Nat}
theorem setProto_any (h:HeapAt w B hb tg H M)(hac:Acy H)(hab:AbvOk H)(o p:Int)(o0:0≤o)(o1:o<18446744073709551616)(p0:0≤p)(p1:p<18446744073709551616) :
  Calls Tryz.prog 75 #[.pointer (some ⟨hb,0,none⟩),.int .u64 o,.int .u64 p] w fun e w'=>e = .returned (.tuple #[])∧WentM w B hb tg (setPF H o p) M w':=by
 have HW:Hid (WentM w B hb tg H M w):=WentM.same h (Below.refl _ _)
 cases hq:obO H o with
 | none =>
   have ka:=at_miss h o o0 o1 (obO_none hq)
   have e:setPF H o p=H:=by unfold setPF;rw[obO_none hq]
   rw[e]
   clear h hq e hac hab
   go_enter Tryz.func75,Tryz.ntmps75
   go_wp2_with fail
   refine ka.mono ?_
   rintro e w2 ⟨rfl,rfl⟩
   clear ka
   go_wp2_with fail
   refine bodyPost_ret (results_none rfl _ _ _) rfl ?_
   exact⟨rfl,HW.out⟩
 | some ob =>
   obtain⟨i,ho,hi⟩:=obO_some hq
   have e0:setPF H o p=if p=ob.proto∨mayB H p=false∨saB H o p=true then H else setPH H i ob p:=by unfold setPF;rw[ho];simp only[hi]
   by_cases c:p=ob.proto∨mayB H p=false∨saB H o p=true
   ·rw[e0,if_pos c]
    obtain⟨g,cap,ov,hvo,hov,t4,hne,hgl,hcell,hfz,hl1,hl2,hrow⟩:=h.obj hi
    have ka:=at_hit h o o0 o1 i g cap ho hvo
    have d1:=hcell 1 _ rfl
    simp only at d1
    by_cases q1:p=ob.proto
    ·have hpp:(p == ob.proto)=true:=by simpa using q1
     generalize ob.proto=pr at *
     clear h hq e0 hac hab ho hi c hvo hov t4 hne hgl hcell hfz hl1 hl2 hrow q1
     go_enter Tryz.func75,Tryz.ntmps75
     go_wp2_with fail
     refine ka.mono ?_
     rintro e w2 ⟨rfl,rfl⟩
     clear ka
     go_wp2_with fail
     refine bodyPost_ret (results_none rfl _ _ _) rfl ?_
     exact⟨rfl,HW.out⟩
    ·have hpp:(p == ob.proto)=false:=by simpa using q1
     have km:=mayBe_at h p p0 p1
     cases hm:mayB H p with
     | false =>
       rw[hm] at km
       generalize ob.proto=pr at *
       clear h hq e0 hac hab ho hi c hvo hov t4 hne hgl hcell hfz hl1 hl2 hrow q1 hm
       go_enter Tryz.func75,Tryz.ntmps75
       go_wp2_with fail
       refine ka.mono ?_
       rintro e w2 ⟨rfl,rfl⟩
       clear ka
       go_wp2_with fail
       refine km.mono ?_
       rintro e w2 ⟨rfl,rfl⟩
       clear km
       go_wp2_with fail
       refine bodyPost_ret (results_none rfl _ _ _) rfl ?_
       exact⟨rfl,HW.out⟩
     | true =>
       rw[hm] at km
       have hs:saB H o p=true:=by
        rcases c with c | c | c
        ·exact absurd c q1
        ·rw[hm] at c;cases c
        ·exact c
       have ks:=stands_any h hac hab o p o0 o1 p0 p1 hq
       rw[hs] at ks
       generalize ob.proto=pr at *
       clear h hq e0 hac hab ho hi c hvo hov t4 hne hgl hcell hfz hl1 hl2 hrow q1 hm hs
       go_enter Tryz.func75,Tryz.ntmps75
       go_wp2_with fail
       refine ka.mono ?_
       rintro e w2 ⟨rfl,rfl⟩
       clear ka
       go_wp2_with fail
       refine km.mono ?_
       rintro e w2 ⟨rfl,rfl⟩
       clear km
       go_wp2_with fail
       refine ks.mono ?_
       rintro e w2 ⟨rfl,rfl⟩
       clear ks
       go_wp2_with fail
       refine bodyPost_ret (results_none rfl _ _ _) rfl ?_
       exact⟨rfl,HW.out⟩
   ·rw[e0,if_neg c]
    have q1:¬p=ob.proto:=fun e=>c (Or.inl e)
    have q2:mayB H p=true:=by
     cases hm:mayB H p with
     | true=>rfl
     | false=>exact absurd (Or.inr (Or.inl hm)) c
    have q3:saB H o p=false:=by
     cases hm:saB H o p with
     | false=>rfl
     | true=>exact absurd (Or.inr (Or.inr hm)) c
    exact setProto_hit h hac hab o p o0 o1 p0 p1 ho hi q1 q2 q3
end
structure RelB (ob:Ob)(x:So):Prop where
 kd:ob.kind=x.kind
 pr:ob.proto=x.proto
 sh:ob.shut=x.shut
 nm:x.nm=ob.ps.map Pr.key
 ds:x.ds=ob.ps.map Pr.de
 el:ob.el=x.el
 inn:ob.inn=x.inn
structure RelG (H:He)(S:List So)(ts:List ByteArray):Prop where
 len:H.obs.length=S.length
 ob:∀(i:Nat) ob x,H.obs[i]?=some ob→S[i]?=some x→RelB ob x
 tx:H.tx=ts
section
variable {H:He}{S:List So}{ts:List ByteArray}
theorem RelG.at (h:RelG H S ts)(o:Int):obI H o=obS S o:=by
 unfold obI obS
 rw[h.len]
theorem RelG.oo (h:RelG H S ts)(o:Int):(obO H o=none∧soO S o=none)∨∃ob x,obO H o=some ob∧soO S o=some x∧RelB ob x:=by
 unfold obO soO
 rw[h.at o]
 cases hq:obS S o with
 | none=>exact Or.inl ⟨rfl,rfl⟩
 | some i =>
   have hil:i<S.length:=by
    unfold obS at hq
    split at hq
    ·rename_i c
     have e:(payN o 65530).toNat=i:=Option.some.inj hq
     have:=payN_bd o 65530
     omega
    ·cases hq
   have hil2:i<H.obs.length:=by rw[h.len];exact hil
   have h1:H.obs[i]?=some H.obs[i]:=List.getElem?_eq_getElem hil2
   have h2:S[i]?=some S[i]:=List.getElem?_eq_getElem hil
   exact Or.inr ⟨_,_,h1,h2,h.ob i _ _ h1 h2⟩
theorem RelG.set (h:RelG H S ts){i:Nat}{ob:Ob}{x:So}(hb:RelB ob x):RelG (H.setO i ob) (S.set i x) ts:=by
 refine⟨?_,fun j ob' x' h1 h2 => ?_,h.tx⟩
 ·show(H.obs.set i ob).length=_
  rw[List.length_set,List.length_set,h.len]
 ·have h1:(H.obs.set i ob)[j]?=some ob':=h1
  by_cases c:i=j
  ·subst c
   have hj:i<H.obs.length:=by have:=(List.getElem?_eq_some_iff.1 h1).1;rw[List.length_set] at this;exact this
   rw[List.getElem?_set_self hj] at h1
   rw[List.getElem?_set_self (by rw[←h.len];exact hj)] at h2
   cases h1
   cases h2
   exact hb
  ·rw[List.getElem?_set_ne c] at h1 h2
   exact h.ob j ob' x' h1 h2
theorem rep_null {o:Int}(hn:soO S 18445336698825998337=none)(ho:¬(18445336698825998337:Int)=o):∀n,repB S o n 18445336698825998337=false
 | 0=>rfl
 | n+1=>by
   rw[repB_no ho]
   have e:upS S 18445336698825998337=18445336698825998337:=by unfold upS;rw[hn];rfl
   rw[e]
   exact rep_null hn ho n
theorem RelG.rep (h:RelG H S ts){o:Int}(hn:soO S 18445336698825998337=none)(ho:¬(18445336698825998337:Int)=o):∀(n:Nat)(p:Int),¬p=o→repB S o (n+1) p=abvF H o n p
 | 0,p,hp=>by rw[repB_no hp];rfl
 | n+1,p,hp=>by
   rw[repB_no hp]
   rcases h.oo p with⟨e1,e2⟩ | ⟨ob,x,e1,e2,e3⟩
   ·have e:upS S p=18445336698825998337:=by unfold upS;rw[e2];rfl
    rw[abv_none e1,e]
    exact rep_null hn ho _
   ·have e:upS S p=ob.proto:=by unfold upS;rw[e2,e3.pr];rfl
    rw[abv_step e1,e]
    by_cases c:ob.proto=o
    ·rw[if_pos c,repB_yes c]
    ·rw[if_neg c]
     exact h.rep hn ho n _ c
end
end Go.Proofs.YtahhionlbfhinabGreatDoor.Hp
namespace Go.Proofs.YtahhionlbfhinabGreatDoor.Ce
open Go.RowKit Go.Proofs.YtahhionlbfhinabGreatDoor.Hp
end Go.Proofs.YtahhionlbfhinabGreatDoor.Ce
namespace Go.Proofs.YtahhionlbfhinabGreatDoor.Hp
open Go.RowKit
section
variable {w w' w1:World}{B hb:Nat}{O S:Nat→Prop}{H H':He}{M M':HV}{tg:Nat→Nat}
end
section
variable {w w' w1:World}{B hb:Nat}{O S:Nat→Prop}{H H':He}{M M':HV}{tg:Nat→Nat}
end
section
variable {w w' w1:World}{B hb:Nat}{O S:Nat→Prop}{H H':He}{M M':HV}{tg:Nat→Nat}
end
section
variable {w w' w1:World}{B hb:Nat}{O S:Nat→Prop}{H H':He}{M M':HV}{tg:Nat→Nat}
end
structure He.inv (H:He)(n:Int):Prop where
 neat:H.neat
 hms:∀ob∈H.obs,ob.shaped=true→ob.hm=false
 nx:∀ob∈H.obs,ob.next≤n
 acy:Acy H
 abv:AbvOk H
 pr:∀ob∈H.obs,mayB H ob.proto=true
theorem obI_len {H H':He}(h:H'.obs.length=H.obs.length)(o:Int):obI H' o=obI H o:=by unfold obI;rw[h]
theorem obO_obs {H H':He}(h:H'.obs=H.obs)(o:Int):obO H' o=obO H o:=by unfold obO obI;rw[h]
theorem mayB_len {H H':He}(h:H'.obs.length=H.obs.length)(o:Int):mayB H' o=mayB H o:=by unfold mayB;rw[obI_len h]
theorem He.inv.one {H H':He}{n n':Int}(h:H.inv n){i:Nat}{ob ob':Ob}(hi:H.obs[i]?=some ob)(ho:H'.obs=H.obs.set i ob')(h1:ob'.proto=ob.proto)(h2:ob.above=true→ob'.above=true)(h3:ob'.neat)(h4:ob'.shaped=true→ob'.hm=false)(h5:ob'.next≤n')(hn:n≤n'):H'.inv n':=by
 have hil:=(List.getElem?_eq_some_iff.1 hi).1
 have hlen:H'.obs.length=H.obs.length:=by rw[ho,List.length_set]
 have hO:∀o,obO H' o=if obI H o=some i then some ob' else obO H o:=fun o=>by
  rw[←setO_at (H:=H) (ob':=ob') hil]
  exact obO_obs ho o
 have hm:∀x∈H'.obs,x∈H.obs∨x=ob':=fun x hx=>by
  rw[ho] at hx
  exact List.mem_or_eq_of_mem_set hx
 have hob:=List.mem_of_getElem? hi
 refine⟨fun x hx => ?_,fun x hx => ?_,fun x hx => ?_,fun o => ?_,fun x hx ob2 h2' => ?_,fun x hx => ?_⟩
 ·rcases hm x hx with q | rfl
  ·exact h.neat x q
  ·exact h3
 ·rcases hm x hx with q | rfl
  ·exact h.hms x q
  ·exact h4
 ·rcases hm x hx with q | rfl
  ·have:=h.nx x q;omega
  ·exact h5
 ·rw[hlen]
  refine ends_same (fun q => ?_) _ o (h.acy o)
  rw[hO q]
  by_cases c:obI H q=some i
  ·rw[if_pos c]
   have:obO H q=some ob:=by unfold obO;rw[c];exact hi
   rw[this]
   simp[h1]
  ·rw[if_neg c]
 ·have key:∀p,(∀y,obO H p=some y→y.above=true)→∀y,obO H' p=some y→y.above=true:=fun p hp y hy=>by
   rw[hO p] at hy
   by_cases c:obI H p=some i
   ·rw[if_pos c] at hy
    obtain rfl:=Option.some.inj hy
    exact h2 (hp ob (by unfold obO;rw[c];exact hi))
   ·rw[if_neg c] at hy
    exact hp y hy
  rcases hm x hx with q | rfl
  ·exact key _ (fun y hy=>h.abv x q y hy) ob2 h2'
  ·exact key _ (fun y hy=>h.abv ob hob y (by rw[←h1];exact hy)) ob2 h2'
 ·rw[mayB_len hlen]
  rcases hm x hx with q | rfl
  ·exact h.pr x q
  ·rw[h1];exact h.pr ob hob
theorem He.inv.obs {H H':He}{n n':Int}(h:H.inv n)(ho:H'.obs=H.obs)(hn:n≤n'):H'.inv n':=by
 have hlen:H'.obs.length=H.obs.length:=by rw[ho]
 refine⟨fun x hx=>h.neat x (ho ▸ hx),fun x hx=>h.hms x (ho ▸ hx),fun x hx=>by have:=h.nx x (ho ▸ hx);omega,fun o => ?_,fun x hx ob2 h2=>h.abv x (ho ▸ hx) ob2 (by rw[←obO_obs ho];exact h2),fun x hx=>by rw[mayB_len hlen];exact h.pr x (ho ▸ hx)⟩
 rw[hlen]
 exact ends_same (fun q=>by rw[obO_obs ho]) _ o (h.acy o)
theorem He.inv.raise {H:He}{n:Int}(h:H.inv n)(p:Int):(raiseH H p).inv n:=by
 unfold raiseH
 cases hq:obI H p with
 | none=>exact h
 | some j =>
   simp only
   cases hj:H.obs[j]? with
   | none=>exact h
   | some ob =>
     have hob:=List.mem_of_getElem? hj
     exact h.one (n':=n) hj rfl rfl (fun _=>rfl) (by
      obtain⟨a,b,c,d,e⟩:=h.neat ob hob
      exact⟨a,b,c,d,e⟩) (h.hms ob hob) (h.nx ob hob) (by omega)
theorem raised {H:He}{p:Int}{ob:Ob}(h:obO (raiseH H p) p=some ob):ob.above=true:=by
 unfold raiseH at h
 cases hq:obI H p with
 | none =>
   rw[hq] at h
   unfold obO at h
   simp only[hq] at h
   cases h
 | some j =>
   obtain⟨ob2,hj⟩:=obI_at hq
   rw[hq] at h
   simp only[hj] at h
   have:=setO_at (H:=H) (ob':={ ob2 with above:=true }) (o:=p) (List.getElem?_eq_some_iff.1 hj).1
   rw[if_pos hq] at this
   have h:obO (H.setO j { ob2 with above:=true }) p=some ob:=h
   rw[this] at h
   obtain rfl:=Option.some.inj h
   rfl
theorem He.inv.push {H H':He}{n:Int}(h:H.inv n){p:Int}{x:Ob}(hp:mayB H p=true)(hr:∀y,obO H p=some y→y.above=true)(ho:H'.obs=H.obs++[x])(h1:x.proto=p)(h3:x.neat)(h4:x.shaped=true→x.hm=false)(h5:x.next≤n):H'.inv n:=by
 have hlen:H'.obs.length=H.obs.length+1:=by rw[ho];simp
 have hI:∀o i,obI H o=some i→obI H' o=some i:=fun o i hq=>by
  unfold obI at hq ⊢
  split at hq
  ·rename_i c
   rw[if_pos ⟨c.1,by rw[hlen];have:=c.2;omega⟩]
   exact hq
  ·cases hq
 have hO:∀o y,obO H o=some y→obO H' o=some y:=fun o y hq=>by
  obtain⟨i,h1,h2⟩:=obO_some hq
  unfold obO
  rw[hI o i h1,ho]
  simp only[Option.bind_some]
  rw[List.getElem?_append_left (List.getElem?_eq_some_iff.1 h2).1]
  exact h2
 have hN:∀o,mayB H o=true→obO H o=none→obO H' o=none:=fun o hm hq=>by
  have e:o=nulW:=by
   unfold mayB at hm
   rw[obO_none hq] at hm
   simpa using hm
  have hz:obI H' nulW=none:=by
   unfold obI
   rw[if_neg (by
    intro c
    have:isT nulW 65530=false:=by decide
    rw[this] at c
    exact absurd c.1 (by decide))]
  rw[e]
  unfold obO
  rw[hz]
  rfl
 have hM:∀o,mayB H o=true→mayB H' o=true:=fun o hm=>by
  unfold mayB at hm ⊢
  cases hq:obI H o with
  | none=>rw[hq] at hm;simp only[Option.isSome_none,Bool.or_false] at hm;rw[hm];rfl
  | some i=>rw[hI o i hq];simp
 have hm:∀y∈H'.obs,y∈H.obs∨y=x:=fun y hy=>by
  rw[ho] at hy
  rcases List.mem_append.1 hy with q | q
  ·exact Or.inl q
  ·exact Or.inr (by simpa using q)
 have hE:∀(N:Nat) (o:Int),mayB H o=true→EndsH H N o→EndsH H' N o:=by
  intro N
  induction N with
  | zero=>intro o hmo he;exact hN o hmo he
  | succ N ih =>
    intro o hmo he
    have he:obO H o=none∨∃ob,obO H o=some ob∧EndsH H N ob.proto:=he
    rcases he with q | ⟨ob,q1,q2⟩
    ·exact Or.inl (hN o hmo q)
    ·obtain⟨i,_,hi⟩:=obO_some q1
     exact Or.inr ⟨ob,hO o ob q1,ih ob.proto (h.pr ob (List.mem_of_getElem? hi)) q2⟩
 refine⟨fun y hy => ?_,fun y hy => ?_,fun y hy => ?_,fun o => ?_,fun y hy ob2 h2 => ?_,fun y hy => ?_⟩
 ·rcases hm y hy with q | rfl
  ·exact h.neat y q
  ·exact h3
 ·rcases hm y hy with q | rfl
  ·exact h.hms y q
  ·exact h4
 ·rcases hm y hy with q | rfl
  ·exact h.nx y q
  ·exact h5
 ·cases hq:obO H' o with
  | none=>exact ends_mono 0 _ o hq (by omega)
  | some y =>
    obtain⟨i,hi1,hi2⟩:=obO_some hq
    have hym:mayB H y.proto=true:=by
     rcases hm y (List.mem_of_getElem? hi2) with q | rfl
     ·exact h.pr y q
     ·rw[h1];exact hp
    rw[hlen]
    exact Or.inr ⟨y,hq,hE _ _ hym (h.acy y.proto)⟩
 ·have hpr:mayB H y.proto=true∧∀z,obO H y.proto=some z→z.above=true:=by
   rcases hm y hy with q | rfl
   ·exact⟨h.pr y q,fun z hz=>h.abv y q z hz⟩
   ·rw[h1];exact⟨hp,hr⟩
  cases hq:obO H y.proto with
  | none=>rw[hN _ hpr.1 hq] at h2;cases h2
  | some z =>
    rw[hO _ z hq] at h2
    obtain rfl:=Option.some.inj h2
    exact hpr.2 _ hq
 ·rcases hm y hy with q | rfl
  ·exact hM _ (h.pr y q)
  ·rw[h1];exact hM _ hp
end Go.Proofs.YtahhionlbfhinabGreatDoor.Hp
