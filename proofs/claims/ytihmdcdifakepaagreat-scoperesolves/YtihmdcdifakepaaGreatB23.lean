/- ZL, ZM, MJ -/
import Derived.Test.YtihmdcdifakepaaGreatZK
import Derived.Test.YtihmdcdifakepaaGreatB19
set_option linter.unusedVariables false
set_option linter.unusedSimpArgs false
set_option maxRecDepth 100000
set_option maxHeartbeats 40000000
namespace Go.Proofs.YtihmdcdifakepaaGreat.Rv.Rx
open Go.RowKit Go.Proofs.YtihmdcdifakepaaGreat.Sc Go.Proofs.YtihmdcdifakepaaGreat.Rz
def beginR (x:Nd)(many:Nat)(s:Rz.RS):Rz.RS:={ s with scopes:=s.scopes++[⟨x.pl,s.fn,many,0⟩],fn:=s.scopes.length,loops:=0,labels:=[] }
theorem enter_eq (x:Nd)(many:Nat)(s:Rz.RS):enterR x many s=openP (if selfB x=true then putVarP x.name x.pl 5 many (openP (beginR x many s)) else beginR x many s):=rfl
theorem told_func {n:Nat}{body:Tr n→RM}{x:Nd}{ps:List (Tr n)}{bd:Tr n}{s s1 s2:Rz.RS}{a c1 a1 c2 a2:Int}{kb:Nat}(hs:¬s.scopes.length=200)
  (h1:Told (2*ps.length) (parsP (ndR n) ps (enterR x ps.length s)) (enterR x ps.length s) 0 a s1 c1 a1)
  (h2:Told kb (body bd (if selfB x=true then bumpP s1 else s1)) (if selfB x=true then bumpP s1 else s1) c1 a1 s2 c2 a2) :
  Told (3+2*ps.length+kb) (functionR (ndR n) body x (ps++[bd]) s) s 0 a { s2 with blocks:=s2.blocks.drop (if selfB x=true then 2 else 1),fn:=s.fn,loops:=s.loops,labels:=s.labels } c2 a2:=by
 have hb1:(if selfB x=true then bumpP s1 else s1).blocks=s1.blocks:=by split <;> rfl
 have hl1:(if selfB x=true then bumpP s1 else s1).scopes.length=s1.scopes.length:=by
  split
  ·unfold bumpP;simp
  ·rfl
 have hc1:cr (if selfB x=true then bumpP s1 else s1)≤cr s1+1:=by
  split
  ·exact cr_bump s1
  ·omega
 have he:(enterR x ps.length s).blocks.length=s.blocks.length+(if selfB x=true then 2 else 1)∧(enterR x ps.length s).scopes.length=s.scopes.length+1∧cr (enterR x ps.length s)≤cr s+2:=by
  rw[enter_eq]
  by_cases c:selfB x=true
  ·rw[if_pos c,if_pos c]
   refine⟨by unfold openP putVarP beginR;simp,by unfold openP putVarP beginR;simp,?_⟩
   rw[cr_open,cr_put,cr_open]
   unfold Rv.cr beginR
   simp
   omega
  ·rw[if_neg c,if_neg c]
   refine⟨by unfold openP beginR;simp,by unfold openP beginR;simp,?_⟩
   rw[cr_open]
   unfold Rv.cr beginR
   simp
   omega
 have q1:=h1.lk.blen
 have q2:=h2.lk.blen
 have q3:=h1.lk.scs
 have q4:=h2.lk.scs
 have q5:=h1.cr
 have q6:=h2.cr
 rw[hb1] at q2
 rw[hl1] at q4
 refine⟨⟨?_,rfl,rfl,rfl,?_⟩,?_,fun hc=>absurd rfl hc,fun _ => ?_⟩
 ·show(s2.blocks.drop _).length=s.blocks.length
  rw[List.length_drop,q2,q1,he.1]
  split <;> omega
 ·show s.scopes.length≤s2.scopes.length
  omega
 ·show cr s2≤_
  omega
 ·have g1:=h1.good rfl
  unfold functionR
  rw[if_neg hs]
  have hlast:(ps++[bd]).getLast?=some bd:=by simp
  rw[hlast]
  simp only[List.dropLast_concat,List.length_append,List.length_singleton,Nat.add_sub_cancel]
  cases hp:parsP (ndR n) ps (enterR x ps.length s) with
  | error er =>
    rw[hp] at g1
    obtain⟨p,e⟩:=er
    obtain⟨e1,e2,e3⟩:=g1
    obtain⟨d1,d2,d3⟩:=h2.bad e3
    exact⟨d2.trans e1,d3.trans e2,by rw[d2];exact e3⟩
  | ok s1' =>
    rw[hp] at g1
    obtain⟨e1,e2⟩:=g1
    subst e1
    have g2:=h2.good e2
    show Said ((body bd (if selfB x=true then bumpP s1 else s1)).bind _) _ _ _
    cases hb:body bd (if selfB x=true then bumpP s1 else s1) with
    | error er =>
      rw[hb] at g2
      exact g2
    | ok s2' =>
      rw[hb] at g2
      obtain⟨e3,e4⟩:=g2
      subst e3
      exact⟨rfl,e4⟩
section
variable {w w' w5:World}{B wb:Nat}{O O' S:Nat→Prop}{s s':Rz.RS}{c a:Int}{M:DV}{tg:Nat→Nat}{v6:Value}
theorem RMem.enter (h:RMem w B wb O s c a v6)(hlt:s.scopes.length<200)(x:Nd)(many:Nat){w4 w5 w6:World}(h4:w4=w.setCell ⟨wb,4,none⟩ (.int .i64 (s.scopes.length:Int)))(h5:w5=w4.setCell ⟨wb,5,none⟩ (.slice none 0 0))(h6:w6=w5.setCell ⟨wb,6,none⟩ (.int .i64 0)) :
  ∃ad cap,w.cell? ⟨wb,0,none⟩=some (.slice ad s.scopes.length cap)∧w6.cell? ⟨wb,0,none⟩=some (.slice ad s.scopes.length cap)∧Chg (fun b=>b=wb) w w6∧OwnR scpC 4 53 B w6 (.slice ad s.scopes.length cap) s.scopes∧(∀j,w6.frozen? ⟨wb,j,none⟩=false)∧(∀b,(Value.slice ad s.scopes.length cap).ownBlock=some b→O b∧b≠wb) ∧
  ∀w7 v',Chg (fun b=>(Value.slice ad s.scopes.length cap).ownBlock=some b) w6 w7→OwnR scpC 4 53 B w7 v' (s.scopes++[⟨x.pl,s.fn,many,0⟩])→(∀b,v'.ownBlock=some b→(Value.slice ad s.scopes.length cap).ownBlock=some b∨w6.heap.size≤b) →
   ∃O1,RMem (w7.setCell ⟨wb,0,none⟩ v') B wb O1 (beginR x many s) c a (.slice none 0 0)∧Chg O w (w7.setCell ⟨wb,0,none⟩ v')∧(∀b,O1 b→O b∨w.heap.size≤b)∧(∀b,v6.ownBlock=some b→¬O1 b)∧OwnR lbC 2 103 B (w7.setCell ⟨wb,0,none⟩ v') v6 s.labels∧∀b,v6.ownBlock=some b→O b:=by
 obtain⟨tg,M,hA,hgd,rfl,hO⟩:=h
 obtain⟨a4,c4⟩:=hA.fld (s':={ s with fn:=s.scopes.length }) (c':=c) (a':=a) (j:=4) (u := .int .i64 (s.scopes.length:Int)) M rfl (Prt.plain rfl rfl rfl rfl rfl) hA.len
 rw[←h4] at a4 c4
 obtain⟨t4,ht4⟩:∃t,t=rtg tg w.heap.size w.heap.size 0:=⟨_,rfl⟩
 rw[←ht4] at a4
 obtain⟨t5,a5,c5,o5,n5,l5,z5⟩:=a4.lab (w5:=w4) (v' := .slice none 0 0) (xs':=[]) (Below.refl _ _) (OwnR.nil _ _) (fun b q=>by cases q)
 rw[←h5] at a5 c5 l5
 obtain⟨a6,c6⟩:=a5.fld (s':={ s with fn:=s.scopes.length,labels:=[],loops:=0 }) (c':=c) (a':=a) (j:=6) (u := .int .i64 0) { M with v6 := .slice none 0 0 } rfl (Prt.plain rfl rfl rfl rfl rfl) a5.len
 rw[←h6] at a6 c6
 obtain⟨t6,ht6⟩:∃t,t=rtg t5 w5.heap.size w5.heap.size 0:=⟨_,rfl⟩
 rw[←ht6] at a6
 have h2:RowIn scpC 4 53 B w6 (fun b=>t6 b=2) M.v0 s.scopes:=a6.prt 2
 obtain⟨ad,cap,hv0,l1,l2,hg⟩:=own_slice h2.1
 have hB:=hA.B0
 have e4:w4.heap.size=w.heap.size:=by rw[h4];simp
 have e5:w5.heap.size=w.heap.size:=by rw[h5];simp[e4]
 have e6:w6.heap.size=w.heap.size:=by rw[h6];simp[e5]
 have st:Stp w tg w6 t6:=by
  refine(Stp.trans (w1:=w4) (t1:=t4) ?_ (Stp.trans (w1:=w5) (t1:=t5) ⟨c5.mono (fun b q=>by omega),o5⟩ ?_))
  ·rw[ht4];exact Stp.rtg c4 (fun b q=>by omega)
  ·rw[ht6];exact Stp.rtg c6 (fun b q=>by omega)
 have hw6:Chg (fun b=>b=wb) w w6:=by
  rw[h6,h5,h4]
  exact((Chg.set (S:=fun b=>b=wb) w _ _ rfl).trans (Chg.set (S:=fun b=>b=wb) _ _ _ rfl) (fun _ _ q=>q)).trans (Chg.set (S:=fun b=>b=wb) _ _ _ rfl) (fun _ _ q=>q)
 have b6:=a6.B0
 have hn6:∀b,M.v6.ownBlock=some b→t6 b=0∧b<w.heap.size∧tg b=6:=fun b q=>by
  have q4:=(l5.lt b q).2
  have r6:RowIn lbC 2 103 B w (fun b=>tg b=6) M.v6 s.labels:=hA.prt 6
  rw[e5] at q4
  exact⟨by rw[ht6,rtg_old (by rw[e5];exact q4)];exact n5 b q,q4,r6.2 b q⟩
 have l6:OwnR lbC 2 103 B w6 M.v6 s.labels:=l5.kept c6 (fun b q e=>by have h1:=n5 b q;have e:t5 b=1:=e;omega)
 rw[hv0] at h2
 have k0:=hA.box.1
 rw[hv0] at k0
 have k6:=a6.box.1
 have k6:w6.cell? ⟨wb,0,none⟩=some M.v0:=k6
 rw[hv0] at k6
 refine⟨ad,cap,k0,k6,hw6,h2.1,a6.box.2.2.2.2.2.2.2.2.2,fun b q => ?_,fun w7 v' hc ho hat => ?_⟩
 ·have q2:=h2.2 b q
  refine⟨(hO b).2 ?_,fun e=>by rw[e] at q2;omega⟩
  rcases st.old b (by omega) with z | z
  ·exact z
  ·have:=(a6.lt b (by omega)).2;omega
 ·have hr:=a6.row0 (w5:=w7) (v':=v') (xs':=s.scopes++[⟨x.pl,s.fn,many,0⟩]) (by show Chg (fun b=>M.v0.ownBlock=some b) _ _;rw[hv0];exact hc) ho (fun b q=>by show M.v0.ownBlock=some b∨_;rw[hv0];exact hat b q)
  obtain⟨t7,ht7⟩:∃t,t=rtg t6 w6.heap.size w7.heap.size 2:=⟨_,rfl⟩
  rw[←ht7] at hr
  have st7:Stp w tg (w7.setCell ⟨wb,0,none⟩ v') t7:=st.trans (by rw[ht7];exact Stp.rtg hr.2 (fun b q=>by omega))
  refine⟨fun b=>t7 b≠0,⟨t7,_,hr.1,⟨?_,hgd.blk,hgd.wf,hgd.few,?_⟩,rfl,fun b=>Iff.rfl⟩,st7.chg.mono (fun b q=>(hO b).2 q),fun b q=>(st7.old b q).imp (fun q=>(hO b).2 q) id,fun b q q2 => ?_,?_,fun b q=>(hO b).2 (by have:=(hn6 b q).2.2;omega)⟩
  ·show s.scopes.length<(s.scopes++[_]).length
   simp
  ·show(s.scopes++[_]).length≤200
   simp
   omega
  ·have q2:t7 b≠0:=q2
   rw[ht7,rtg_old (by rw[e6];exact(hn6 b q).2.1)] at q2
   exact q2 (hn6 b q).1
  ·exact l6.kept hr.2 (fun b q e=>by have h1:=(hn6 b q).1;have e:t6 b=1∨t6 b=2:=e;omega)
theorem RMem.leave {w9:World}{O2:Nat→Prop}{s2:Rz.RS}{c2 a2:Int}{vB:Value}(h:RMem w B wb O s c a v6)(h1:Chg O w w9)(h2:∀b,O2 b→O b∨w.heap.size≤b)(h3:∀b,v6.ownBlock=some b→¬O2 b)(h4:OwnR lbC 2 103 B w9 v6 s.labels)(h5:∀b,v6.ownBlock=some b→O b)(hm:RMem w9 B wb O2 s2 c2 a2 vB)(hf:s.fn<s2.scopes.length) :
  (w9.cell? ⟨wb,4,none⟩=some (.int .i64 (s2.fn:Int))∧w9.cell? ⟨wb,5,none⟩=some vB∧w9.cell? ⟨wb,6,none⟩=some (.int .i64 (s2.loops:Int))∧∀j,w9.frozen? ⟨wb,j,none⟩=false) ∧
  RWent w B wb O { s2 with fn:=s.fn,loops:=s.loops,labels:=s.labels } c2 a2 v6 (((w9.setCell ⟨wb,4,none⟩ (.int .i64 (s.fn:Int))).setCell ⟨wb,5,none⟩ v6).setCell ⟨wb,6,none⟩ (.int .i64 (s.loops:Int))):=by
 obtain⟨O3,m3,k1,k2⟩:=hm.set4 s.fn hf
 have h6:OwnR lbC 2 103 B (w9.setCell ⟨wb,4,none⟩ (.int .i64 (s.fn:Int))) v6 s.labels:=h4.kept k1 h3
 obtain⟨O4,m4,j1,j2⟩:=m3.back h6 (fun b q q3=>by
  rcases k2 b q3 with z | z
  ·exact h3 b q z
  ·have:=(h4.lt b q).2;omega)
 obtain⟨O5,m5,i1,i2⟩:=m4.set6 s.loops
 have hb:=hm.box
 have hO3:∀b,O3 b→O b∨w.heap.size≤b:=fun b q=>by
  rcases k2 b q with z | z
  ·exact h2 b z
  ·exact Or.inr (Nat.le_trans h1.size z)
 have hc1:=h1.trans k1 (fun i hi q=>by
  rcases h2 i q with z | z
  ·exact z
  ·omega)
 have hc2:=hc1.trans j1 (fun i hi q=>by
  rcases hO3 i q with z | z
  ·exact z
  ·omega)
 have hO4:∀b,O4 b→O b∨w.heap.size≤b:=fun b q=>by
  rcases j2 b q with z | z
  ·exact hO3 b z
  ·exact Or.inl (h5 b z)
 refine⟨⟨hb.1,hb.2.1,hb.2.2.1,hb.2.2.2.2.2⟩,O5,m5,hc2.trans i1 (fun i hi q => ?_),fun b q => ?_⟩
 ·rcases hO4 i q with z | z
  ·exact z
  ·omega
 ·rcases i2 b q with z | z
  ·exact hO4 b z
  ·exact Or.inr (Nat.le_trans hc2.size z)
end
theorem own_one {β:Type}{enc:β→List Value}{t e:TypeId}{k bytes:Nat}(R:RT enc t e k bytes){w:World}{B g:Nat}{y:β}{cs:Array Value}(h:w.heap[g]?=some (.cells cs e (0,0)))(hc:cs.toList=enc y)(hb:B≤g):OwnR enc k e B w (.slice (some ⟨g,0,none⟩) 1 1) [y]:=by
 have hs:cs.size=k:=by rw[←Array.length_toList,hc,R.len]
 refine⟨?_,Or.inr ⟨g,1,cs,rfl,hb,h,Nat.le_refl _,by unfold maxLen;omega,by rw[hs];simp,?_⟩⟩
 ·simp[R.len]
 ·rw[hc]
  simp only[List.length_singleton,Nat.one_mul,List.flatMap_cons,List.flatMap_nil,List.append_nil]
  exact List.take_of_length_le (by rw[R.len];exact Nat.le_refl _)
section
variable {w w' w5:World}{B wb:Nat}{O O' S:Nat→Prop}{s s':Rz.RS}{c a:Int}{M:DV}{tg:Nat→Nat}{v6:Value}
theorem RMem.own (h:RMem w B wb O s c a v6){bs:List Blk}(hbs:s.blocks=[] :: bs)(nm:ByteArray)(hnm:nm.size≤maxLen)(pl:Int)(slot:Nat) :
  ∃g ml cap ad1 cap1,w.cell? ⟨wb,3,none⟩=some (.slice (some ⟨g,0,none⟩) (ml+1) cap)∧ml+1≤cap∧cap≤maxLen∧w.cell? ⟨wb,1,none⟩=some (.slice ad1 s.vars.length cap1)∧cap1≤maxLen∧(∃u,w.cell? ⟨g,ml,none⟩=some u)∧w.frozen? ⟨g,ml,none⟩=false∧O g ∧
   ∀(wp:World) (g5:Nat),Below w.heap.size w wp→w.heap.size≤g5→wp.heap[g5]?=some (.cells #[.string nm,.int .i64 (s.vars.length:Int)] 86 (0,0))→∀wA,wA=wp.setCell ⟨g,ml,none⟩ (.slice (some ⟨g5,0,none⟩) 1 1) →
    wA.cell? ⟨wb,1,none⟩=some (.slice ad1 s.vars.length cap1)∧wA.cell? ⟨wb,4,none⟩=some (.int .i64 (s.fn:Int))∧wA.frozen? ⟨wb,1,none⟩=false∧Chg O w wA∧OwnR vrC 6 61 B wA (.slice ad1 s.vars.length cap1) s.vars∧(∀b,(Value.slice ad1 s.vars.length cap1).ownBlock=some b→O b∧b≠wb)∧B≤wA.heap.size∧wb<wA.heap.size ∧
    ∀w6 v',Chg (fun b=>(Value.slice ad1 s.vars.length cap1).ownBlock=some b) wA w6→OwnR vrC 6 61 B w6 v' (s.vars++[⟨nm,pl,5,s.fn,slot,false⟩])→(∀b,v'.ownBlock=some b→(Value.slice ad1 s.vars.length cap1).ownBlock=some b∨wA.heap.size≤b) →
     RWent w B wb O (putVarP nm pl 5 slot s) c a v6 (w6.setCell ⟨wb,1,none⟩ v'):=by
 obtain⟨tg,M,hA,hgd,rfl,hO⟩:=h
 obtain⟨ms0,m,g,cap,ma,mc,hms,hml,hv3,l1,l2,hg5,hm,k1,k2,ho,ht,d0,fz,hne⟩:=hA.last hbs
 have c3:=hA.box.2.2.2.1
 rw[hv3] at c3
 have r3:RowIn vrC 6 61 B w (fun b=>tg b=3) M.v1 s.vars:=hA.prt 3
 obtain⟨ad1,cap1,hv1,j1,j2,_⟩:=own_slice r3.1
 have c1:=hA.box.2.1
 rw[hv1] at c1
 refine⟨g,ms0.length,cap,ad1,cap1,c3,l1,l2,c1,j2,⟨_,d0⟩,fz _,(hO g).2 (by omega),fun wp g5 hb hg hbx wA hwA => ?_⟩
 have hn1:=hA.name (w5:=wp) (e:=(nm,s.vars.length)) (m':=⟨some ⟨g5,0,none⟩,1,1⟩) hbs hms hml hv3 (Chg.of_below hb) ht (own_one rxNm hbx rfl (Nat.le_trans (Nat.le_trans hA.B0.2.2 (Nat.le_of_lt hA.B0.2.1)) hg)) (fun b q=>by
  have q:g5=b:=by simpa [SV.val,Value.ownBlock] using q
  exact Or.inr (by omega))
 have hwA':wp.setCell ⟨g,ms0.length,none⟩ (SV.val ⟨some ⟨g5,0,none⟩,1,1⟩)=wA:=hwA.symm
 rw[hwA'] at hn1
 obtain⟨t1,ht1⟩:∃t,t=rtg tg w.heap.size wp.heap.size (ms0.length+7):=⟨_,rfl⟩
 rw[←ht1] at hn1
 obtain⟨a1,g1⟩:=hn1
 have st1:Stp w tg wA t1:=by rw[ht1];exact Stp.rtg g1 (fun b q=>by omega)
 have x1:=a1.box.2.1
 have x1:wA.cell? ⟨wb,1,none⟩=some M.v1:=x1
 have x4:wA.cell? ⟨wb,4,none⟩=some (.int .i64 (s.fn:Int)):=a1.box.2.2.2.2.1
 have y3:RowIn vrC 6 61 B wA (fun b=>t1 b=3) M.v1 s.vars:=a1.prt 3
 rw[hv1] at x1 y3
 have hB:=a1.B0
 refine⟨x1,x4,a1.box.2.2.2.2.2.2.2.2.2 1,st1.chg.mono (fun b q=>(hO b).2 q),y3.1,fun b q => ?_,by omega,hB.2.1,fun w6 v' hc ho6 hat => ?_⟩
 ·have q3:=y3.2 b q
  refine⟨(hO b).2 ?_,fun e=>by rw[e] at q3;omega⟩
  rcases st1.old b (by omega) with z | z
  ·exact z
  ·exfalso
   have hlt:=(y3.1.lt b q).2
   have hsz:wA.heap.size=wp.heap.size:=by rw[hwA];simp
   rw[ht1,rtg_new z (by omega)] at q3
   omega
 ·have hr:=a1.row1 (w5:=w6) (v':=v') (xs':=s.vars++[⟨nm,pl,5,s.fn,slot,false⟩]) (by show Chg (fun b=>M.v1.ownBlock=some b) _ _;rw[hv1];exact hc) ho6 (fun b q=>by show M.v1.ownBlock=some b∨_;rw[hv1];exact hat b q)
  refine Stp.went (tg':=rtg t1 wA.heap.size w6.heap.size 3) (st1.trans (Stp.rtg hr.2 (fun b q=>by omega))) hO (M':={ M with bs:=ms0++[⟨some ⟨g5,0,none⟩,1,1⟩],v1:=v' }) ?_ ?_ rfl
  ·have:=hr.1
   unfold putVarP
   rw[hbs]
   exact this
  ·refine⟨hgd.fnl,?_,?_,?_,hgd.scl⟩
   ·intro b hb' e he
    unfold putVarP at hb' ⊢
    rw[hbs] at hb'
    simp only[List.length_append,List.length_singleton] at hb' ⊢
    rcases List.mem_cons.1 hb' with q | q
    ·rw[q] at he
     rcases List.mem_cons.1 he with q2 | q2
     ·rw[q2];exact Nat.lt_succ_self _
     ·cases q2
    ·have:=hgd.blk b (by rw[hbs];exact List.mem_cons_of_mem _ q) e he;omega
   ·intro b hb'
    unfold putVarP at hb'
    rw[hbs] at hb'
    rcases List.mem_cons.1 hb' with q | q
    ·rw[q]
     refine⟨by simp,fun e he => ?_⟩
     rcases List.mem_cons.1 he with q2 | q2
     ·rw[q2];exact hnm
     ·cases q2
    ·exact hgd.wf b (by rw[hbs];exact List.mem_cons_of_mem _ q)
   ·intro b hb'
    unfold putVarP at hb' ⊢
    rw[hbs] at hb'
    simp only[List.length_append,List.length_singleton] at hb' ⊢
    rcases List.mem_cons.1 hb' with q | q
    ·rw[q];simp
    ·have:=hgd.few b (by rw[hbs];exact List.mem_cons_of_mem _ q);omega
end
end Go.Proofs.YtihmdcdifakepaaGreat.Rv.Rx
namespace Go.Proofs.YtihmdcdifakepaaGreat.Rv
open Go.RowKit Go.Proofs.YtihmdcdifakepaaGreat.Sc Go.Proofs.YtihmdcdifakepaaGreat.Rz
structure MemW (w:World)(B rb:Nat)(tg:Nat→Nat)(s:Rz.RS)(v0 v1 v2 v3 v6:Value)(ms:List (Option Nat)):Prop where
 box:w.heap[rb]?=some (.cells #[v0,v1,v2,v3,.int .i64 (s.fn:Int),.int .i64 (s.loops:Int),v6] 45 (0,0))
 r0:OwnR scpC 4 53 B w v0 s.scopes
 r1:OwnR vrC 6 61 B w v1 s.vars
 r2:OwnR usC 2 57 B w v2 s.uses
 r3:OwnR mpC 1 124 B w v3 ms
 r6:OwnR lbC 2 142 B w v6 s.labels
 t0:tg rb=0
 t1:∀b,v0.ownBlock=some b→tg b=1
 t2:∀b,v1.ownBlock=some b→tg b=2
 t3:∀b,v2.ownBlock=some b→tg b=3
 t4:∀b,v3.ownBlock=some b→tg b=4
 t5:∀b,v6.ownBlock=some b→tg b=5
 tm:∀(i b:Nat),ms[i]?=some (some b)→tg b=6+i∧B≤b∧b<w.heap.size
 ml:ms.length=s.blocks.length
 mp:∀(i:Nat) (m:Option Nat) (b:Blk),ms[i]?=some m→s.blocks.reverse[i]?=some b→MpAt w m b
 lo:B≤rb
section
variable {w w':World}{B rb:Nat}{tg:Nat→Nat}{s:Rz.RS}{v0 v1 v2 v3 v6:Value}{ms:List (Option Nat)}
theorem MemAt.weak (h:MemAt w B rb tg s v0 v1 v2 v3 v6 ms):MemW w B rb tg s v0 v1 v2 v3 v6 ms:=⟨h.box,h.r0,h.r1,h.r2,h.r3,h.r6,h.t0,h.t1,h.t2,h.t3,h.t4,h.t5,h.tm,h.ml,h.mp,h.lo⟩
theorem MemW.full (h:MemW w B rb tg s v0 v1 v2 v3 v6 ms)(hg:Gd s):MemAt w B rb tg s v0 v1 v2 v3 v6 ms:=⟨h.box,h.r0,h.r1,h.r2,h.r3,h.r6,h.t0,h.t1,h.t2,h.t3,h.t4,h.t5,h.tm,h.ml,h.mp,hg,h.lo⟩
theorem MemW.rlt (h:MemW w B rb tg s v0 v1 v2 v3 v6 ms):rb<w.heap.size:=(Array.getElem?_eq_some_iff.1 h.box).1
theorem MemW.row1 (h:MemW w B rb tg s v0 v1 v2 v3 v6 ms){w5:World}{v1':Value}{xs':List Rz.Vr}(hc:Chg (fun b=>v1.ownBlock=some b) w w5)(ho:OwnR vrC 6 61 B w5 v1' xs')(hat:∀b,v1'.ownBlock=some b→v1.ownBlock=some b∨w.heap.size≤b)  :
  MemW (w5.setCell ⟨rb,1,none⟩ v1') B rb (retag tg v1' 2) { s with vars:=xs' } v0 v1' v2 v3 v6 ms∧Chg (Ow rb v0 v1 v2 v3 v6 ms) w (w5.setCell ⟨rb,1,none⟩ v1')∧∀b,Ow rb v0 v1' v2 v3 v6 ms b→Ow rb v0 v1 v2 v3 v6 ms b∨w.heap.size≤b:=by
 have hrb:rb<w.heap.size:=h.rlt
 have hnr:¬v1'.ownBlock=some rb:=other h.t2 hat hrb h.t0 (by omega)
 have hrs:¬v1.ownBlock=some rb:=fun q=>by have:=h.t2 rb q;have:=h.t0;omega
 have hbox5:w5.heap[rb]?=_:=(hc.block rb hrb hrs).trans h.box
 have hset:=heap_setCell_same w5 rb 1 _ 45 v1' hbox5
 have n0:∀b,v0.ownBlock=some b→¬v1'.ownBlock=some b∧b≠rb:=fun b q=>⟨other h.t2 hat (h.r0.lt b q).2 (h.t1 b q) (by omega),fun e=>by have h1:=h.t1 b q;have h2:=h.t0;rw[e] at h1;omega⟩
 have o0:OwnR scpC 4 53 B (w5.setCell ⟨rb,1,none⟩ v1') v0 s.scopes:=(h.r0.kept hc (fun b q e=>by have h1:=h.t1 b q;have h2:=h.t2 b e;omega)).set (a:=⟨rb,1,none⟩) (fun b q=>(n0 b q).2) v1'
 have n2:∀b,v2.ownBlock=some b→¬v1'.ownBlock=some b∧b≠rb:=fun b q=>⟨other h.t2 hat (h.r2.lt b q).2 (h.t3 b q) (by omega),fun e=>by have h1:=h.t3 b q;have h2:=h.t0;rw[e] at h1;omega⟩
 have o2:OwnR usC 2 57 B (w5.setCell ⟨rb,1,none⟩ v1') v2 s.uses:=(h.r2.kept hc (fun b q e=>by have h1:=h.t3 b q;have h2:=h.t2 b e;omega)).set (a:=⟨rb,1,none⟩) (fun b q=>(n2 b q).2) v1'
 have n3:∀b,v3.ownBlock=some b→¬v1'.ownBlock=some b∧b≠rb:=fun b q=>⟨other h.t2 hat (h.r3.lt b q).2 (h.t4 b q) (by omega),fun e=>by have h1:=h.t4 b q;have h2:=h.t0;rw[e] at h1;omega⟩
 have o3:OwnR mpC 1 124 B (w5.setCell ⟨rb,1,none⟩ v1') v3 ms:=(h.r3.kept hc (fun b q e=>by have h1:=h.t4 b q;have h2:=h.t2 b e;omega)).set (a:=⟨rb,1,none⟩) (fun b q=>(n3 b q).2) v1'
 have n6:∀b,v6.ownBlock=some b→¬v1'.ownBlock=some b∧b≠rb:=fun b q=>⟨other h.t2 hat (h.r6.lt b q).2 (h.t5 b q) (by omega),fun e=>by have h1:=h.t5 b q;have h2:=h.t0;rw[e] at h1;omega⟩
 have o6:OwnR lbC 2 142 B (w5.setCell ⟨rb,1,none⟩ v1') v6 s.labels:=(h.r6.kept hc (fun b q e=>by have h1:=h.t5 b q;have h2:=h.t2 b e;omega)).set (a:=⟨rb,1,none⟩) (fun b q=>(n6 b q).2) v1'
 have oo:OwnR vrC 6 61 B (w5.setCell ⟨rb,1,none⟩ v1') v1' xs':=ho.set (a:=⟨rb,1,none⟩) (fun b q e=>by have e2:b=rb:=e;rw[e2] at q;exact hnr q) v1'
 have nm:∀(i b:Nat),ms[i]?=some (some b)→¬v1'.ownBlock=some b∧b≠rb∧¬v1.ownBlock=some b:=fun i b q=>by
  obtain⟨a1,a2,a3⟩:=h.tm i b q
  exact⟨other h.t2 hat a3 a1 (by omega),fun e=>by have h2:=h.t0;rw[e] at a1;omega,fun e=>by have h2:=h.t2 b e;omega⟩
 have hmap:∀(i:Nat) (m:Option Nat) (b:Blk),ms[i]?=some m→MpAt w m b→MpAt (w5.setCell ⟨rb,1,none⟩ v1') m b:=fun i m b q1 q2=>q2.kept (fun mb e=>by
  subst e
  obtain⟨a1,a2,a3⟩:=nm i mb q1
  rw[Below.heap_setCell w5 ⟨rb,1,none⟩ v1' mb a2]
  exact hc.block mb (h.tm i mb q1).2.2 a3)
 have hsz:w.heap.size≤(w5.setCell ⟨rb,1,none⟩ v1').heap.size:=by simp;exact hc.size
 refine⟨⟨hset,o0,oo,o2,o3,o6,by rw[retag_no hnr];exact h.t0,fun b q=>by rw[retag_no (n0 b q).1];exact h.t1 b q,fun b q=>retag_is q,fun b q=>by rw[retag_no (n2 b q).1];exact h.t3 b q,fun b q=>by rw[retag_no (n3 b q).1];exact h.t4 b q,fun b q=>by rw[retag_no (n6 b q).1];exact h.t5 b q,fun i b q=>by
  obtain⟨a1,a2,a3⟩:=h.tm i b q
  rw[retag_no (nm i b q).1]
  exact⟨a1,a2,Nat.lt_of_lt_of_le a3 hsz⟩,h.ml,fun i m b q1 q2=>hmap i m b q1 (h.mp i m b q1 q2),h.lo⟩,?_,?_⟩
 ·exact(hc.mono (S':=Ow rb v0 v1 v2 v3 v6 ms) (fun b q=>Or.inr (Or.inr (Or.inl q)))).trans (Chg.set (S:=Ow rb v0 v1 v2 v3 v6 ms) w5 ⟨rb,1,none⟩ v1' (Or.inl rfl)) (fun _ _ q=>q)
 ·rintro b (q | q | q | q | q | q | ⟨i,q⟩)
  ·exact Or.inl (Or.inl q)
  ·exact Or.inl (Or.inr (Or.inl q))
  ·exact(hat b q).imp (fun q=>Or.inr (Or.inr (Or.inl q))) id
  ·exact Or.inl (Or.inr (Or.inr (Or.inr (Or.inl q))))
  ·exact Or.inl (Or.inr (Or.inr (Or.inr (Or.inr (Or.inl q)))))
  ·exact Or.inl (Or.inr (Or.inr (Or.inr (Or.inr (Or.inr (Or.inl q))))))
  ·exact Or.inl (Or.inr (Or.inr (Or.inr (Or.inr (Or.inr (Or.inr ⟨i,q⟩))))))
theorem MemW.name (h:MemW w B rb tg s v0 v1 v2 v3 v6 ms){i mb:Nat}(hi:ms[i]?=some (some mb))(hil:i+1=ms.length){b0:Blk}{bs:List Blk}(hbs:s.blocks=b0 :: bs)(hg:w.grownBy w' (some mb)){b1:Blk}(hm:MpAt w' (some mb) b1) :
  MemW w' B rb tg { s with blocks:=b1 :: bs } v0 v1 v2 v3 v6 ms∧Chg (Ow rb v0 v1 v2 v3 v6 ms) w w':=by
 obtain⟨m1,m2,m3⟩:=h.tm i mb hi
 have hc:Chg (fun b=>b=mb) w w':=Chg.of_grown hg (fun k q=>by cases q;rfl)
 have hl:=h.ml
 rw[hbs,List.length_cons] at hl
 refine⟨⟨(hc.block rb h.rlt (fun e=>by have:=h.t0;rw[e] at this;omega)).trans h.box,h.r0.kept hc (fun b q e=>by have h1:=h.t1 b q;rw[e] at h1;omega),h.r1.kept hc (fun b q e=>by have h1:=h.t2 b q;rw[e] at h1;omega),h.r2.kept hc (fun b q e=>by have h1:=h.t3 b q;rw[e] at h1;omega),h.r3.kept hc (fun b q e=>by have h1:=h.t4 b q;rw[e] at h1;omega),h.r6.kept hc (fun b q e=>by have h1:=h.t5 b q;rw[e] at h1;omega),h.t0,h.t1,h.t2,h.t3,h.t4,h.t5,fun k b q => ?_,by rw[List.length_cons];omega,fun k m b q1 q2 => ?_,h.lo⟩,hc.mono (fun b q=>Or.inr (Or.inr (Or.inr (Or.inr (Or.inr (Or.inr ⟨i,by rw[q];exact hi⟩))))))⟩
 ·obtain⟨a1,a2,a3⟩:=h.tm k b q
  exact⟨a1,a2,Nat.lt_of_lt_of_le a3 hc.size⟩
 ·rw[List.reverse_cons] at q2
  have hkl:=(List.getElem?_eq_some_iff.1 q1).1
  by_cases c:k=i
  ·subst c
   rw[hi] at q1
   cases q1
   rw[List.getElem?_append_right (by rw[List.length_reverse];omega),List.getElem?_singleton] at q2
   split at q2
   ·cases q2;exact hm
   ·cases q2
  ·rw[List.getElem?_append_left (by rw[List.length_reverse];omega)] at q2
   refine(h.mp k m b q1 (by rw[hbs,List.reverse_cons,List.getElem?_append_left (by rw[List.length_reverse];omega)];exact q2)).kept (fun mb' e => ?_)
   subst e
   obtain⟨a1,a2,a3⟩:=h.tm k mb' q1
   exact hc.block mb' a3 (fun e=>by rw[e] at a1;omega)
end
end Go.Proofs.YtihmdcdifakepaaGreat.Rv
