/- HN, HO, HX -/
import Derived.Test.YtahhionlbfhinabGreatDoorB9
set_option linter.unusedVariables false
set_option linter.unusedSimpArgs false
set_option maxRecDepth 100000
set_option maxHeartbeats 40000000
namespace Go.Proofs.YtahhionlbfhinabGreatDoor.Hp
open Go.RowKit
def Ob.added (o:Ob)(k:ByteArray)(d:De):Ob:={ o with ps:=o.ps++[⟨k,o.next,d⟩],next:=o.next+1 }
section
variable {w w' w1:World}{B hb:Nat}{O S:Nat→Prop}{H H':He}{M M':HV}{tg:Nat→Nat}
theorem add_mid (h:HeapAt w B hb tg H M){i g cap:Nat}{ob:Ob}{ov:OV}(hi:H.obs[i]?=some ob)(hv:M.ovs[i]?=some ov)(hvo:M.vo=⟨some ⟨g,0,none⟩,H.obs.length,cap⟩)(k:ByteArray)(hk:k.size≤maxLen)(d:De)(hd:0≤d.fl∧d.fl≤15)(hlen:ob.ps.length+1≤2000000000001)(hnx:ob.next<2000000000001)
  {W W1 W2:World} {G C:Nat} (q1:OwnR prC 5 116 B W (.slice (some ⟨G,0,none⟩) (ob.ps.length+1) C) (ob.ps++[⟨k,ob.next,d⟩])) (q2:Chg (fun b=>ov.vl.val.ownBlock=some b) w W) (q3:ov.vl.val.ownBlock=some G∨w.heap.size≤G)
  (e1:W1=W.setCell ⟨g,i*12+4,none⟩ (.slice (some ⟨G,0,none⟩) (ob.ps.length+1) C)) (e2:W2=W1.setCell ⟨g,i*12+6,none⟩ (.int .i64 (ob.next+1))) :
  W1.cell? ⟨g,i*12+4,none⟩=some (.slice (some ⟨G,0,none⟩) (ob.ps.length+1) C)∧W1.cell? ⟨g,i*12+5,none⟩=some (.map ov.vm)∧W1.cell? ⟨g,i*12+6,none⟩=some (.int .i64 ob.next)∧W1.frozen? ⟨g,i*12+6,none⟩=false∧WentM w B hb tg { H with obs:=H.obs.set i (ob.added k d) } { M with ovs:=M.ovs.set i { ov with vl:=⟨some ⟨G,0,none⟩,ob.ps.length+1,C⟩ } } W2:=by
 have hwf:=h.wf.ob ob (List.mem_of_getElem? hi)
 have hr:RowIn prC 5 _ B w _ ov.vl ob.ps:=h.part hi hv 0 (by omega)
 have ht:∀b,ov.vl.val.ownBlock=some b→tg b=7+4*i+0:=hr.2
 have hc:Chg (fun b=>tg b=7+4*i+0) w W:=q2.mono ht
 have hks:∀p∈ob.ps++[⟨k,ob.next,d⟩],p.key.size≤maxLen:=fun p hp=>by
  rcases List.mem_append.1 hp with q | q
  ·exact hwf.ks p q
  ·rw[List.mem_singleton.1 q];exact hk
 have hfl:∀p∈ob.ps++[⟨k,ob.next,d⟩],0≤p.de.fl∧p.de.fl≤15:=fun p hp=>by
  rcases List.mem_append.1 hp with q | q
  ·exact hwf.fl p q
  ·rw[List.mem_singleton.1 q];exact hd
 have hll:(ob.ps++[(⟨k,ob.next,d⟩:Pr)]).length=ob.ps.length+1:=by simp
 obtain⟨p1,p2⟩:=h.put hi hv hvo 0 (by omega) hc { ob with ps:=ob.ps++[⟨k,ob.next,d⟩] } { ov with vl:=⟨some ⟨G,0,none⟩,ob.ps.length+1,C⟩ } (j:=4) (u := .slice (some ⟨G,0,none⟩) (ob.ps.length+1) C) (by omega) rfl (fun O o1 o2=>by
  refine⟨q1,fun b q => ?_⟩
  have hbg:b=G:=by simpa [SV.val,Value.ownBlock] using q.symm
  subst hbg
  rcases q3 with c | c
  ·exact o1 b (h.lt b (by have:=ht b c;omega)).2 (ht b c)
  ·exact o2 b c (q1.lt b rfl).2) (fun c' W' O' c4 cn q=>by
  match c',q with
  | 0,q=>exact absurd rfl cn
  | 1,q=>exact q
  | 2,q=>exact q
  | _+3,q=>exact q) ⟨hwf.kd,hwf.pr,hks,hfl,⟨hwf.nx.1,hwf.nx.2.1,by simp only[hll];exact hlen⟩,hwf.el,hwf.inn⟩
 rw[←e1] at p1 p2
 have hil:i<H.obs.length:=(List.getElem?_eq_some_iff.1 hi).1
 have hil2:i<M.ovs.length:=(List.getElem?_eq_some_iff.1 hv).1
 have hi1:({ H with obs:=H.obs.set i { ob with ps:=ob.ps++[⟨k,ob.next,d⟩] } }:He).obs[i]?=some { ob with ps:=ob.ps++[⟨k,ob.next,d⟩] }:=List.getElem?_set_self hil
 have hv1:({ M with ovs:=M.ovs.set i { ov with vl:=⟨some ⟨G,0,none⟩,ob.ps.length+1,C⟩ } }:HV).ovs[i]?=some { ov with vl:=⟨some ⟨G,0,none⟩,ob.ps.length+1,C⟩ }:=List.getElem?_set_self hil2
 have hvo1:({ M with ovs:=M.ovs.set i { ov with vl:=⟨some ⟨G,0,none⟩,ob.ps.length+1,C⟩ } }:HV).vo=⟨some ⟨g,0,none⟩,({ H with obs:=H.obs.set i { ob with ps:=ob.ps++[⟨k,ob.next,d⟩] } }:He).obs.length,cap⟩:=by
  simp only[List.length_set]
  exact hvo
 obtain⟨g',cap',ov1,hvo',hov1,t4,hne,hgl,hcell,hfz,_⟩:=p1.obj hi1
 rw[hvo1] at hvo'
 injection hvo' with x1 x2 x3
 injection x1 with x1
 injection x1 with x1
 subst x1
 rw[hv1] at hov1
 cases hov1
 have d4:=hcell 4 _ rfl
 have d5:=hcell 5 _ rfl
 have d6:=hcell 6 _ rfl
 simp only at d4 d5 d6
 have pf:=p1.fld hi1 hv1 hvo1 (ob.added k d) (j:=6) (u := .int .i64 (ob.next+1)) (by omega) rfl rfl rfl rfl ⟨hwf.kd,hwf.pr,hks,hfl,⟨by simp only[Ob.added];have:=hwf.nx.1;omega,by simp only[Ob.added];omega,by simp only[Ob.added,hll];exact hlen⟩,hwf.el,hwf.inn⟩
 rw[←e2] at pf
 simp only[List.set_set] at pf
 refine⟨d4,d5,d6,hfz _,?_⟩
 have hsz:W1.heap.size=W.heap.size:=by rw[e1];simp
 refine⟨_,pf.1,(p2.trans pf.2 (fun b hb q => ?_)).mono (fun b q => ?_),fun b q => ?_⟩
 ·have q:rtg tg w.heap.size W.heap.size (7+4*i+0) b=4:=q
  rw[rtg_old hb] at q
  exact Or.inl q
 ·show tg b≠0
  omega
 ·by_cases c:b<w.heap.size
  ·rw[rtg_old c] at q
   exact Or.inl q
  ·exact Or.inr (by omega)
theorem add_small (h:HeapAt w B hb tg H M){i g cap:Nat}{ob:Ob}{ov:OV}(hi:H.obs[i]?=some ob)(hv:M.ovs[i]?=some ov)(hvo:M.vo=⟨some ⟨g,0,none⟩,H.obs.length,cap⟩)(hm:ob.hm=false)(k:ByteArray)(hk:k.size≤maxLen)(d:De)(hd:0≤d.fl∧d.fl≤15)(hlen:ob.ps.length+1≤16)(hnx:ob.next<2000000000000) :
  Calls Tryz.prog 128 #[.pointer (some ⟨g,i*12+4,none⟩),.string k,deV d] w fun e w'=>e = .returned (.tuple #[])∧∃vl',WentM w B hb tg { H with obs:=H.obs.set i (ob.added k d) } { M with ovs:=M.ovs.set i { ov with vl:=vl' } } w':=by
 obtain⟨wb,hwb⟩:∃wb,wb=w.alloc (.cells #[.int .u64 d.va,.int .u64 d.se,.int .i64 d.fl] 39):=⟨_,rfl⟩
 have hB:Below w.heap.size w wb:=by rw[hwb];exact(Below.refl _ _).alloc (Nat.le_refl _) _
 have hbx:wb.heap[w.heap.size]?=some (.cells #[.int .u64 d.va,.int .u64 d.se,.int .i64 d.fl] 39 (0,0)):=by rw[hwb];exact at_new _ _
 have h2:=h.below hB
 obtain⟨g',cap',ov',hvo',hov',t4,hne,hgl,hcell,hfz,_⟩:=h2.obj hi
 rw[hvo] at hvo'
 injection hvo' with x1 x2 x3
 injection x1 with x1
 injection x1 with x1
 subst x1
 rw[hv] at hov'
 cases hov'
 have c4:=hcell 4 _ rfl
 have c6:=hcell 6 _ rfl
 simp only at c4 c6
 have hr:RowIn prC 5 _ B wb _ ov.vl ob.ps:=h2.part hi hv 0 (by omega)
 obtain⟨q1,q2,q3,q4⟩:=hr.open rtPr.len
 have hown:=hr.1
 have hB0:=h2.B0
 have ht:∀b,ov.vl.val.ownBlock=some b→tg b=7+4*i+0:=hr.2
 have hng:¬ov.vl.val.ownBlock=some g:=fun q=>by have:=ht g q;omega
 have hwf:=h.wf.ob ob (List.mem_of_getElem? hi)
 have HMID:Hid (∀W G C,OwnR prC 5 116 B W (.slice (some ⟨G,0,none⟩) (ob.ps.length+1) C) (ob.ps++[⟨k,ob.next,d⟩])→Chg (fun b=>ov.vl.val.ownBlock=some b) wb W→(ov.vl.val.ownBlock=some G∨wb.heap.size≤G)→∀W1 W2,W1=W.setCell ⟨g,i*12+4,none⟩ (.slice (some ⟨G,0,none⟩) (ob.ps.length+1) C)→W2=W1.setCell ⟨g,i*12+6,none⟩ (.int .i64 (ob.next+1))→W1.cell? ⟨g,i*12+4,none⟩=some (.slice (some ⟨G,0,none⟩) (ob.ps.length+1) C)∧W1.cell? ⟨g,i*12+5,none⟩=some (.map none)∧W1.cell? ⟨g,i*12+6,none⟩=some (.int .i64 ob.next)∧W1.frozen? ⟨g,i*12+6,none⟩=false∧∃vl',WentM w B hb tg { H with obs:=H.obs.set i (ob.added k d) } { M with ovs:=M.ovs.set i { ov with vl:=vl' } } W2):=fun W G C r1 r2 r3 W1 W2 r4 r5=>by
  obtain⟨s1,s2,s3,s4,s5⟩:=add_mid h2 hi hv hvo k hk d hd (by omega) (by omega) r1 r2 r3 r4 r5
  rw[vm_none (h.part hi hv 1 (by omega)) hm] at s2
  exact⟨s1,s2,s3,s4,_,WentM.behind hB s5⟩
 have HFZ:Hid (∀W,Chg (fun b=>ov.vl.val.ownBlock=some b) wb W→W.cell? ⟨g,i*12+4,none⟩=some ov.vl.val∧W.frozen? ⟨g,i*12+4,none⟩=false):=fun W q=>⟨q.cell c4 hng,by rw[World.frozen?_of_block (w:=wb) (q.block g hgl hng)];exact hfz _⟩
 have b0:wb.cell? ⟨w.heap.size,0,none⟩=some (.int .u64 d.va):=cell_of_row wb w.heap.size 0 _ _ (0,0) hbx
 have b1:wb.cell? ⟨w.heap.size,1,none⟩=some (.int .u64 d.se):=cell_of_row wb w.heap.size 1 _ _ (0,0) hbx
 have b2:wb.cell? ⟨w.heap.size,2,none⟩=some (.int .i64 d.fl):=cell_of_row wb w.heap.size 2 _ _ (0,0) hbx
 have HBX:Hid (((ob.ps.length+1)+(ob.ps.length+1) / 4+192)*48≤281474976710656∧ob.ps.length+1≤maxLen):=⟨by omega,by unfold maxLen;omega⟩
 have HBB:Hid (B≤wb.heap.size):=by show _≤_;omega
 have HAL:Hid (Below wb.heap.size wb (wb.drew.alloc (.cells #[.string k,.int .i64 ob.next,.int .u64 d.va,.int .u64 d.se,.int .i64 d.fl] 116))):=((Below.refl wb.heap.size wb).drew).alloc (Nat.le_refl _) _
 have HOW:Hid (OwnR prC 5 116 B (wb.drew.alloc (.cells #[.string k,.int .i64 ob.next,.int .u64 d.va,.int .u64 d.se,.int .i64 d.fl] 116)) ov.vl.val ob.ps):=hown.below HAL.out
 have g12:(wb.alloc (.cells #[.string k,.int .i64 ob.next,.int .u64 d.va,.int .u64 d.se,.int .i64 d.fl] 116)).cell? ⟨g,i*12+4,none⟩=some ov.vl.val:=cells_below ((Below.refl wb.heap.size wb).alloc (Nat.le_refl _) _) _ _ c4
 have f4:=hfz (i*12+4)
 have hgn:¬g=wb.heap.size:=by omega
 have hxn:¬w.heap.size=wb.heap.size:=by have:=(Array.getElem?_eq_some_iff.1 hbx).1;omega
 have q69:∀(w:World) (r:Option Nat),(binOp .neq 92 (.map r) (.map none)).run Tryz.prog w = .ok (.bool (!r.isNone)) w:=fun w r=>run_neq_map_nil w _ _ _ r Tryz.underlying92
 have hnw:IntKind.i64.wrap (ob.next+1)=ob.next+1:=by rw[IntKind.wrap_i64];have:=hwf.nx.1;omega
 have hl16:decide ((16:Int)<((ob.ps.length+1:Nat):Int))=false:=decide_eq_false (by omega)
 have hl16':¬((16:Int)<((ob.ps.length+1:Nat):Int)):=by omega
 have hl16'':¬((16:Int)<((ob.ps.length:Int)+1)):=by omega
 unfold SV.val at c4 g12 HMID HFZ HOW
 rw[q1] at c4 g12 HMID HFZ HOW
 generalize hHH:{ H with obs:=H.obs.set i (ob.added k d) }=HN at *
 generalize hps:ob.ps=ps at *
 generalize ob.next=nx at *
 generalize ov.vl.ad=ad at *
 generalize ov.vl.cap=cp at *
 unfold deV
 obtain⟨va,se,fl⟩:=d
 simp only at *
 clear h h2 hi hvo hv hB hbx hcell hfz hne hgl t4 hr q2 q3 q4 q1 hown hB0 ht hng hwf hm hk hlen hnx hd hHH hps x2 x3
 go_enter Tryz.func128,Tryz.ntmps128
 go_upto_region 1 with fail
 rw[←hwb]
 clear hwb
 generalize w.heap.size=xb at b0 b1 b2 hxn ⊢
 go_region_law ((refine step_row rtPr (by rfl) _ _ (by rfl) B (.slice ad ps.length cp) ps (by rfl) (by exact HOW.out) wb.heap.size ⟨k,nx,va,se,fl⟩ #[.string k,.int .i64 nx,.int .u64 va,.int .u64 se,.int .i64 fl] 116 (by rfl) (by exact at_new _ _) (by rfl) (by exact HBX.out.2) (by exact HBX.out.1) (by exact Nat.le_trans HBB.out HAL.out.size) ?_;intro g5 cap5 w9 ho5 hg5 hl5;have HO:Hid (OwnR prC 5 116 B w9 (.slice (some ⟨g5,0,none⟩) (ps.length+1) cap5) (ps++[⟨k,nx,va,se,fl⟩])∧Chg (fun b=>(Value.slice ad ps.length cp).ownBlock=some b) wb w9∧((Value.slice ad ps.length cp).ownBlock=some g5∨wb.heap.size≤g5)):=⟨ho5,(Chg.of_below HAL.out).trans (Chg.of_grown (S:=fun b=>(Value.slice ad ps.length cp).ownBlock=some b) hg5 (fun k q=>q)) (fun _ _ q=>q),hl5.imp id (fun q=>by rw[q];exact HAL.out.size)⟩;obtain⟨z1,z2⟩:=HFZ.out w9 HO.out.2.1;clear ho5 hg5 hl5))
 all_goals
  obtain⟨s1,s2,s3,s4,s5⟩:=HMID.out w9 g5 cap5 HO.out.1 HO.out.2.1 HO.out.2.2 _ _ rfl rfl
  have HS5:=(show Hid _ from s5)
  clear s5 HO HFZ HOW HBB HAL HMID z1 z2 HBX g12 c4 c6 f4
  generalize (w9.setCell ⟨g,i*12+4,none⟩ (.slice (some ⟨g5,0,none⟩) (ps.length+1) cap5))=w10 at *
  go_wp2_with fail
  go_end0
  obtain⟨vl',hw'⟩:=HS5.out
  exact⟨rfl,vl',by first | exact hw' | exact hw'.drew⟩
end
section
variable {w w' w1:World}{B hb:Nat}{O S:Nat→Prop}{H H':He}{M M':HV}{tg:Nat→Nat}
theorem WentM.next {tg2:Nat→Nat}(p2:Chg (fun b=>tg b≠0) w w1)(p3:∀b,tg2 b≠0→tg b≠0∨w.heap.size≤b)(k:WentM w1 B hb tg2 H' M' w'):WentM w B hb tg H' M' w':=by
 obtain⟨tg3,k1,k2,k3⟩:=k
 refine⟨tg3,k1,p2.trans k2 (fun i hi q => ?_),fun b q => ?_⟩
 ·rcases p3 i q with c | c
  ·exact c
  ·omega
 ·rcases k3 b q with c | c
  ·exact p3 b c
  ·exact Or.inr (Nat.le_trans p2.size c)
theorem shape_mid (h:HeapAt w B hb tg H M){i g cap:Nat}{ob:Ob}(hi:H.obs[i]?=some ob)(hvo:M.vo=⟨some ⟨g,0,none⟩,H.obs.length,cap⟩){Ot:Nat→Prop}(hO:∀b,Ot b→tg b=5){L':List Sp.Sh}{w5:World}(hw:Sp.Went w.drew B M.tb Ot H.most L' w5)(sh:Int)(ok:Bool) :
  (w5.cell? ⟨g,i*12+9,none⟩=some (.int .i64 ob.shape)∧w5.cell? ⟨g,i*12+10,none⟩=some (.bool ob.shaped)∧w5.frozen? ⟨g,i*12+9,none⟩=false∧w5.frozen? ⟨g,i*12+10,none⟩=false) ∧
  WentM w B hb tg { H with L:=L',obs:=H.obs.set i { ob with shape:=sh,shaped:=ok } } M ((w5.setCell ⟨g,i*12+9,none⟩ (.int .i64 sh)).setCell ⟨g,i*12+10,none⟩ (.bool ok)):=by
 have hd:HeapAt w.drew B hb tg H M:=h.below ((Below.refl _ _).drew)
 have hwf:=h.wf.ob ob (List.mem_of_getElem? hi)
 obtain⟨⟨tg5,k1,k2,k3⟩,k4⟩:=hd.tree hO hw
 have hi1:({ H with L:=L' }:He).obs[i]?=some ob:=hi
 obtain⟨g',cap',ov,hvo',hov,t4,hne,hgl,hcell,hfz,_⟩:=k1.obj hi1
 have hvo1:M.vo=⟨some ⟨g,0,none⟩,({ H with L:=L' }:He).obs.length,cap⟩:=hvo
 have hvv:=hvo'
 rw[hvo1] at hvv
 injection hvv with x1 x2 x3
 injection x1 with x1
 injection x1 with x1
 subst x1
 have d9:=hcell 9 _ rfl
 have d10:=hcell 10 _ rfl
 simp only at d9 d10
 refine⟨⟨d9,d10,hfz _,hfz _⟩,?_⟩
 have p1:=k1.fld hi1 hov hvo1 { ob with shape:=sh } (j:=9) (u := .int .i64 sh) (by omega) rfl rfl rfl rfl ⟨hwf.kd,hwf.pr,hwf.ks,hwf.fl,hwf.nx,hwf.el,hwf.inn⟩
 have hil:i<H.obs.length:=(List.getElem?_eq_some_iff.1 hi).1
 have hi2:({ ({ H with L:=L' }:He) with obs:=({ H with L:=L' }:He).obs.set i { ob with shape:=sh } }:He).obs[i]?=some { ob with shape:=sh }:=List.getElem?_set_self hil
 have hvo2:M.vo=⟨some ⟨g,0,none⟩,({ ({ H with L:=L' }:He) with obs:=({ H with L:=L' }:He).obs.set i { ob with shape:=sh } }:He).obs.length,cap⟩:=by
  simp only[List.length_set]
  exact hvo
 have p2:=p1.1.fld hi2 hov hvo2 { ob with shape:=sh,shaped:=ok } (j:=10) (u := .bool ok) (by omega) rfl rfl rfl rfl ⟨hwf.kd,hwf.pr,hwf.ks,hwf.fl,hwf.nx,hwf.el,hwf.inn⟩
 have p2':=p2.1
 simp only[List.set_set] at p2'
 have cc:Chg (fun b=>tg5 b=4) w5 ((w5.setCell ⟨g,i*12+9,none⟩ (.int .i64 sh)).setCell ⟨g,i*12+10,none⟩ (.bool ok)):=p1.2.trans p2.2 (fun _ _ q=>q)
 refine WentM.behind ((Below.refl _ _).drew) (WentM.trans ⟨tg5,k1,k2,k3⟩ (fun tgy hy => ?_))
 have q1:=hy.fld hi1 hov hvo1 { ob with shape:=sh } (j:=9) (u := .int .i64 sh) (by omega) rfl rfl rfl rfl ⟨hwf.kd,hwf.pr,hwf.ks,hwf.fl,hwf.nx,hwf.el,hwf.inn⟩
 have q2:=q1.1.fld hi2 hov hvo2 { ob with shape:=sh,shaped:=ok } (j:=10) (u := .bool ok) (by omega) rfl rfl rfl rfl ⟨hwf.kd,hwf.pr,hwf.ks,hwf.fl,hwf.nx,hwf.el,hwf.inn⟩
 have q2':=q2.1
 simp only[List.set_set] at q2'
 exact⟨tgy,q2',(q1.2.trans q2.2 (fun _ _ q=>q)).mono (fun b q=>by show tgy b≠0;have q:tgy b=4:=q;omega),fun b q=>Or.inl q⟩
def layO (H:He)(ob:Ob)(k:ByteArray)(d:De):Ob:={ ob.added k d with shape:=(Sp.addD H.most H.L ob.shape k d.fl).2.1,shaped:=(Sp.addD H.most H.L ob.shape k d.fl).2.2 }
def layH (H:He)(i:Nat)(ob:Ob)(k:ByteArray)(d:De):He :=
 { H with L:=(Sp.addD H.most H.L ob.shape k d.fl).1,obs:=H.obs.set i (layO H ob k d) }
theorem lay_small (h:HeapAt w B hb tg H M){i g cap:Nat}{ob:Ob}{ov:OV}(hi:H.obs[i]?=some ob)(hv:M.ovs[i]?=some ov)(hvo:M.vo=⟨some ⟨g,0,none⟩,H.obs.length,cap⟩)(hm:ob.hm=false)(hsh:ob.shaped=true)(k:ByteArray)(hk:k.size≤maxLen)(d:De)(hd:0≤d.fl∧d.fl≤15)(hlen:ob.ps.length+1≤16)(hnx:ob.next<2000000000000) :
  Calls Tryz.prog 113 #[.pointer (some ⟨hb,0,none⟩),.pointer (some ⟨g,i*12,none⟩),.string k,deV d] w fun e w'=>e = .returned (.tuple #[])∧∃vl',WentM w B hb tg (layH H i ob k d) { M with ovs:=M.ovs.set i { ov with vl:=vl' } } w':=by
 obtain⟨wb,hwb⟩:∃wb,wb=w.alloc (.cells #[.int .u64 d.va,.int .u64 d.se,.int .i64 d.fl] 39):=⟨_,rfl⟩
 have hB:Below w.heap.size w wb:=by rw[hwb];exact(Below.refl _ _).alloc (Nat.le_refl _) _
 have hbx:wb.heap[w.heap.size]?=some (.cells #[.int .u64 d.va,.int .u64 d.se,.int .i64 d.fl] 39 (0,0)):=by rw[hwb];exact at_new _ _
 have h2:HeapAt wb.drew B hb tg H M:=(h.below hB).below ((Below.refl _ _).drew)
 have kadd:=add_small h2 hi hv hvo hm k hk d hd hlen hnx
 have htx:tg w.heap.size=0:=by
  by_cases c:tg w.heap.size=0
  ·exact c
  ·have:=(h.lt _ c).2;omega
 have hxs:w.heap.size<wb.drew.heap.size:=(Array.getElem?_eq_some_iff.1 hbx).1
 have hil:i<H.obs.length:=(List.getElem?_eq_some_iff.1 hi).1
 have hil2:i<M.ovs.length:=(List.getElem?_eq_some_iff.1 hv).1
 have hfl : -9223372036854775808≤d.fl∧d.fl≤9223372036854775807:=by omega
 have HA:Hid (∀w2 vl',WentM wb.drew B hb tg { H with obs:=H.obs.set i (ob.added k d) } { M with ovs:=M.ovs.set i { ov with vl:=vl' } } w2 →
   (w2.cell? ⟨w.heap.size,0,none⟩=some (.int .u64 d.va)∧w2.cell? ⟨w.heap.size,1,none⟩=some (.int .u64 d.se)∧w2.cell? ⟨w.heap.size,2,none⟩=some (.int .i64 d.fl)∧w2.cell? ⟨hb,3,none⟩=some (.pointer (some ⟨M.tb,0,none⟩))∧w2.cell? ⟨g,i*12+9,none⟩=some (.int .i64 ob.shape)∧w2.cell? ⟨g,i*12+10,none⟩=some (.bool true)) ∧
   Calls Tryz.prog 129 #[.pointer (some ⟨g,i*12+4,none⟩)] w2 (fun e w'=>e = .returned (.int .i64 ((ob.ps.length+1:Nat):Int))∧w'=w2) ∧
   Calls Tryz.prog 130 #[.pointer (some ⟨M.tb,0,none⟩),.int .i64 ob.shape,.string k,.int .i64 d.fl] w2.drew (fun e w'=>e = .returned (.tuple #[.int .i64 (Sp.addD H.most H.L ob.shape k d.fl).2.1,.bool (Sp.addD H.most H.L ob.shape k d.fl).2.2]) ∧
    ((w'.cell? ⟨g,i*12+9,none⟩=some (.int .i64 ob.shape)∧w'.cell? ⟨g,i*12+10,none⟩=some (.bool true)∧w'.frozen? ⟨g,i*12+9,none⟩=false∧w'.frozen? ⟨g,i*12+10,none⟩=false) ∧
      WentM w B hb tg (layH H i ob k d) { M with ovs:=M.ovs.set i { ov with vl:=vl' } } ((w'.setCell ⟨g,i*12+9,none⟩ (.int .i64 (Sp.addD H.most H.L ob.shape k d.fl).2.1)).setCell ⟨g,i*12+10,none⟩ (.bool (Sp.addD H.most H.L ob.shape k d.fl).2.2))))):=fun w2 vl' hw2=>by
  obtain⟨tg2,p1,p2,p3⟩:=hw2
  have hbx2:w2.heap[w.heap.size]?=some (.cells #[.int .u64 d.va,.int .u64 d.se,.int .i64 d.fl] 39 (0,0)):=by
   rw[p2.block _ hxs (fun q=>q htx)]
   exact hbx
  have hi1:({ H with obs:=H.obs.set i (ob.added k d) }:He).obs[i]?=some (ob.added k d):=List.getElem?_set_self hil
  have hvo1:({ M with ovs:=M.ovs.set i { ov with vl:=vl' } }:HV).vo=⟨some ⟨g,0,none⟩,({ H with obs:=H.obs.set i (ob.added k d) }:He).obs.length,cap⟩:=by
   simp only[List.length_set]
   exact hvo
  obtain⟨g',cap',ov1,hvo',hov,t4,hne,hgl,hcell,hfz,_⟩:=p1.obj hi1
  have hvv:=hvo'
  rw[hvo1] at hvv
  injection hvv with x1 x2 x3
  injection x1 with x1
  injection x1 with x1
  subst x1
  have d9:=hcell 9 _ rfl
  have d10:=hcell 10 _ rfl
  simp only[Ob.added] at d9 d10
  rw[hsh] at d10
  obtain⟨c0,c1,c2,c3,c4,c5,fz⟩:=p1.box
  refine⟨⟨cell_of_row w2 w.heap.size 0 _ _ (0,0) hbx2,cell_of_row w2 w.heap.size 1 _ _ (0,0) hbx2,cell_of_row w2 w.heap.size 2 _ _ (0,0) hbx2,c3,d9,d10⟩,?_,?_⟩
  ·have hs:=size_at p1 hi1 hvo1
   simp only[Ob.added,List.length_append,List.length_singleton] at hs
   exact hs
  ·obtain⟨Ot,ht,hO⟩:=p1.prt 5
   have hO:∀b,Ot b→tg2 b=5:=hO
   refine(Sp.add_any w2.drew B M.tb Ot H.most H.L (ht.below ((Below.refl _ _).drew)) ob.shape k d.fl ⟨hk,hfl.1,hfl.2⟩ (Or.inl (by have:=h.wf.mo;unfold Sp.top;omega))).mono ?_
   rintro e w' ⟨rfl,hq⟩
   refine⟨rfl,?_⟩
   obtain⟨s1,s2⟩:=shape_mid p1 hi1 hvo1 hO hq (Sp.addD H.most H.L ob.shape k d.fl).2.1 (Sp.addD H.most H.L ob.shape k d.fl).2.2
   refine⟨⟨s1.1,by rw[←hsh];exact s1.2.1,s1.2.2⟩,?_⟩
   have hH:layH H i ob k d={ { H with obs:=H.obs.set i (ob.added k d) } with L:=(Sp.addD H.most H.L ob.shape k d.fl).1,obs:=({ H with obs:=H.obs.set i (ob.added k d) }:He).obs.set i { ob.added k d with shape:=(Sp.addD H.most H.L ob.shape k d.fl).2.1,shaped:=(Sp.addD H.most H.L ob.shape k d.fl).2.2 } }:=by
    unfold layH layO
    simp only[List.set_set]
   rw[hH]
   exact WentM.behind hB (WentM.behind ((Below.refl _ _).drew) (WentM.next p2 p3 s2))
 have b0:wb.cell? ⟨w.heap.size,0,none⟩=some (.int .u64 d.va):=cell_of_row wb w.heap.size 0 _ _ (0,0) hbx
 have b1:wb.cell? ⟨w.heap.size,1,none⟩=some (.int .u64 d.se):=cell_of_row wb w.heap.size 1 _ _ (0,0) hbx
 have b2:wb.cell? ⟨w.heap.size,2,none⟩=some (.int .i64 d.fl):=cell_of_row wb w.heap.size 2 _ _ (0,0) hbx
 have hl16:decide ((16:Int)<((ob.ps.length+1:Nat):Int))=false:=decide_eq_false (by omega)
 have hl16':¬((16:Int)<((ob.ps.length+1:Nat):Int)):=by omega
 generalize hsq:(Sp.addD H.most H.L ob.shape k d.fl).2.1=sh2 at *
 generalize hok:(Sp.addD H.most H.L ob.shape k d.fl).2.2=ok2 at *
 generalize hlh:layH H i ob k d=HL at *
 generalize hlo:{ H with obs:=H.obs.set i (ob.added k d) }=HX at *
 generalize ob.ps.length+1=len at *
 generalize ob.shape=sh at *
 generalize M.tb=tb at *
 unfold deV at kadd ⊢
 obtain⟨va,se,fl⟩:=d
 simp only at *
 clear h h2 hi hv hvo hm hsh hB hbx htx hxs hil hil2 hfl hk hd hlen hnx hsq hok hlh hlo
 go_enter Tryz.func113,Tryz.ntmps113
 go_upto_region 1 with fail
 rw[←hwb]
 clear hwb
 generalize w.heap.size=xb at b0 b1 b2 HA ⊢
 first
 | (go_region_with ((go_at_call 128;refine kadd.mono ?_;rintro e w2 ⟨rfl,vl',hw2⟩;have HB:=(show Hid _ from HA.out w2 vl' hw2);obtain⟨⟨a0,a1,a2,a3,a4,a5⟩,ksz,_⟩:=HB.out;clear hw2)))
 | fail
 all_goals
  clear kadd b0 b1 b2 HA
  go_wp2_with fail
  refine ksz.mono ?_
  rintro e w3 ⟨rfl,rfl⟩
  clear ksz
  have ktr:=HB.out.2.2
  clear HB
  go_wp2_with fail
  first
  | (go_region_with ((go_at_call 130;refine ktr.mono ?_;rintro e w5 ⟨rfl,⟨y1,y2,y3,y4⟩,hq⟩;have HQ:=(show Hid _ from hq);clear hq)))
  | fail
  all_goals
   go_wp2_with fail
   go_end0
   exact⟨rfl,vl',by first | exact HQ.out | exact HQ.out.drew⟩
end
def resL (el:List Int)(n:Nat):List Int:=el.take n++List.replicate (n - el.length) holW
theorem OwnR.congr {β:Type}{enc:β→List Value}{k:Nat}{e:TypeId}{B:Nat}{w:World}{v:Value}{xs ys:List β}(h:OwnR enc k e B w v xs)(h1:ys.length=xs.length)(h2:ys.flatMap enc=xs.flatMap enc):OwnR enc k e B w v ys:=by
 unfold OwnR
 rw[h1,h2]
 exact h
theorem flat_same {β:Type}{enc:β→List Value}{y y':β}(he:enc y'=enc y):∀(xs:List β)(i:Nat),xs[i]?=some y→(xs.set i y').flatMap enc=xs.flatMap enc
 | [],i,hi=>by simp at hi
 | x :: xs,0,hi=>by
   simp at hi
   subst hi
   rw[List.set_cons_zero,List.flatMap_cons,List.flatMap_cons,he]
 | x :: xs,i+1,hi=>by
   simp at hi
   rw[List.set_cons_succ,List.flatMap_cons,List.flatMap_cons,flat_same he xs i hi]
theorem set_self {α:Type}{l:List α}{i:Nat}{x:α}(h:l[i]?=some x):l.set i x=l:=by
 obtain⟨a,b⟩:=List.getElem?_eq_some_iff.1 h
 rw[←b]
 exact List.set_getElem_self a
section
variable {w w' w1 w5:World}{B hb:Nat}{O S:Nat→Prop}{H H':He}{M M':HV}{tg:Nat→Nat}
theorem HeapAt.els (h:HeapAt w B hb tg H M){i g cap:Nat}{ob:Ob}{ov:OV}(hi:H.obs[i]?=some ob)(hv:M.ovs[i]?=some ov)(hvo:M.vo=⟨some ⟨g,0,none⟩,H.obs.length,cap⟩){s:SV}{el':List Int}(q1:OwnR wC 1 24 B w5 s.val el')(q2:Chg (fun b=>ov.ve.val.ownBlock=some b) w w5)(q3:∀b,s.val.ownBlock=some b→ov.ve.val.ownBlock=some b∨w.heap.size≤b)(hl:el'.length≤4096) :
  WentM w B hb tg { H with obs:=H.obs.set i { ob with el:=el' } } { M with ovs:=M.ovs.set i { ov with ve:=s } } (w5.setCell ⟨g,i*12+7,none⟩ s.val):=by
 have hwf:=h.wf.ob ob (List.mem_of_getElem? hi)
 have hr:RowIn wC 1 _ B w _ ov.ve ob.el:=h.part hi hv 2 (by omega)
 have ht:∀b,ov.ve.val.ownBlock=some b→tg b=7+4*i+2:=hr.2
 have hc:Chg (fun b=>tg b=7+4*i+2) w w5:=q2.mono ht
 obtain⟨p1,p2⟩:=h.put hi hv hvo 2 (by omega) hc { ob with el:=el' } { ov with ve:=s } (j:=7) (u:=s.val) (by omega) rfl (fun O o1 o2=>by
  refine⟨q1,fun b q => ?_⟩
  rcases q3 b q with c | c
  ·exact o1 b (h.lt b (by have:=ht b c;omega)).2 (ht b c)
  ·exact o2 b c (q1.lt b q).2) (fun c' W' O' c4 cn q=>by
  match c',q with
  | 0,q=>exact q
  | 1,q=>exact q
  | 2,q=>exact absurd rfl cn
  | _+3,q=>exact q) ⟨hwf.kd,hwf.pr,hwf.ks,hwf.fl,hwf.nx,hl,hwf.inn⟩
 refine⟨_,p1,p2.mono (fun b q=>by show tg b≠0;omega),fun b q => ?_⟩
 by_cases c:b<w.heap.size
 ·rw[rtg_old c] at q
  exact Or.inl q
 ·exact Or.inr (by omega)
theorem HeapAt.elst (h:HeapAt w B hb tg H M){i ge ecap:Nat}{ob:Ob}{ov:OV}(hi:H.obs[i]?=some ob)(hv:M.ovs[i]?=some ov)(hve:ov.ve=⟨some ⟨ge,0,none⟩,ob.el.length,ecap⟩){n:Nat}(hn:n<ob.el.length)(v:Int) :
  WentM w B hb tg { H with obs:=H.obs.set i { ob with el:=ob.el.set n v } } M (w.setCell ⟨ge,n,none⟩ (.int .u64 v)):=by
 have hwf:=h.wf.ob ob (List.mem_of_getElem? hi)
 have hr:RowIn wC 1 24 B w _ ov.ve ob.el:=h.part hi hv 2 (by omega)
 have hr1:=hr.1
 have ht:=hr.2
 rw[hve] at hr1 ht
 unfold SV.val at hr1 ht
 simp only at hr1 ht
 have htg:tg ge=7+4*i+2:=ht ge rfl
 have hil:i<H.obs.length:=(List.getElem?_eq_some_iff.1 hi).1
 have hil2:i<M.ovs.length:=(List.getElem?_eq_some_iff.1 hv).1
 have hput:=hr1.put (j:=0) (u := .int .u64 v) (y':=v) rtW.len (List.getElem?_eq_getElem hn) (by omega) rfl
 simp only[Nat.mul_one,Nat.add_zero] at hput
 have hc:Chg (fun b=>tg b=7+4*i+2) w (w.setCell ⟨ge,n,none⟩ (.int .u64 v)):=Chg.set (S:=fun b=>tg b=7+4*i+2) w ⟨ge,n,none⟩ _ htg
 have hsz:(w.setCell ⟨ge,n,none⟩ (.int .u64 v)).heap.size=w.heap.size:=by simp
 refine h.wentM (k0:=7+4*i+2) hc (fun b _ q=>by omega) ?_
 refine h.up (H':={ H with obs:=H.obs.set i { ob with el:=ob.el.set n v } }) (M':=M) hc (fun k=>k=7+4*i+2) (7+4*i+2) (fun b _ q=>⟨q,by omega⟩) (fun k q => ?_) (fun k O q hk => ?_) (by simp only[List.length_set];exact h.len) ⟨?_,by simp only[List.length_set];exact h.wf.ol,h.wf.tn,h.wf.ts,h.wf.tl,h.wf.mo,h.wf.br⟩
 ·subst q
  rw[show 7+4*i+2=(4*i+2)+7 by omega]
  intro ob1 ov1 e1 e2
  rw[show(4*i+2) / 4=i by omega] at e1 e2
  rw[show(4*i+2) % 4=2 by omega]
  have e1':(H.obs.set i { ob with el:=ob.el.set n v })[i]?=some ob1:=e1
  rw[List.getElem?_set_self hil] at e1'
  have e2':M.ovs[i]?=some ov1:=e2
  rw[hv] at e2'
  cases e1'
  cases e2'
  refine⟨?_,fun b q => ?_⟩
  ·show OwnR wC 1 _ B _ ov.ve.val (ob.el.set n v)
   rw[hve]
   exact hput
  ·rw[hve] at q
   have hbg:b=ge:=by simpa [SV.val,Value.ownBlock] using q.symm
   show rtg _ _ _ _ _=_
   rw[hbg,rtg_old (h.lt ge (by omega)).2]
   omega
 ·match k,hk,q with
  | 0,hk,q=>trivial
  | 1,hk,q=>exact hk
  | 2,hk,q=>exact hk
  | 3,hk,q=>exact hk
  | 4,hk,q =>
    refine⟨?_,hk.2⟩
    show OwnR obC 12 _ B _ M.vo.val ((H.obs.set i { ob with el:=ob.el.set n v }).zip M.ovs)
    have hz:(H.obs.set i { ob with el:=ob.el.set n v }).zip M.ovs=(H.obs.zip M.ovs).set i ({ ob with el:=ob.el.set n v },ov):=by
     conv=>lhs;rw[←set_self hv]
     rw[zip_set]
    rw[hz]
    exact OwnR.congr hk.1 (by simp) (flat_same (enc:=obC) (y:=(ob,ov)) (y':=({ ob with el:=ob.el.set n v },ov)) rfl _ i (zip_at hi hv))
  | 5,hk,q=>exact hk
  | 6,hk,q=>exact hk
  | k+7,hk,q =>
    intro ob1 ov1 e1 e2
    have e1':(H.obs.set i { ob with el:=ob.el.set n v })[k / 4]?=some ob1:=e1
    by_cases c2:i=k / 4
    ·rw[←c2,List.getElem?_set_self hil] at e1'
     cases e1'
     have e2':M.ovs[i]?=some ov1:=by rw[c2];exact e2
     rw[hv] at e2'
     cases e2'
     have hk2:=hk ob ov (by rw[←c2];exact hi) (by rw[←c2];exact hv)
     have hne:k % 4≠2:=fun e=>q (by omega)
     generalize k % 4=c4 at *
     match c4,hk2,hne with
     | 0,hk2,_=>exact hk2
     | 1,hk2,_=>exact hk2
     | 2,_,hne=>exact absurd rfl hne
     | _+3,hk2,_=>exact hk2
    ·rw[List.getElem?_set_ne c2] at e1'
     exact hk ob1 ov1 e1' e2
 ·intro o ho
  rcases List.mem_or_eq_of_mem_set ho with q | q
  ·exact h.wf.ob o q
  ·rw[q]
   exact⟨hwf.kd,hwf.pr,hwf.ks,hwf.fl,hwf.nx,by simp only[List.length_set];exact hwf.el,hwf.inn⟩
end
end Go.Proofs.YtahhionlbfhinabGreatDoor.Hp
