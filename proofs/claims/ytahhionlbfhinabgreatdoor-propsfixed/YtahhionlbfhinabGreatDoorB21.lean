/- IJ, IK, IM, IL -/
import Derived.Test.YtahhionlbfhinabGreatDoorB20
set_option linter.unusedVariables false
set_option linter.unusedSimpArgs false
set_option maxRecDepth 100000
set_option maxHeartbeats 40000000
namespace Go.Proofs.YtahhionlbfhinabGreatDoor.Hp
open Go.RowKit
def Ob.mapped (o:Ob)(k:ByteArray)(d:De):Ob:={ o with ps:=o.ps++[⟨k,o.next,d⟩],next:=o.next+1,hm:=true,mp:=camd (o.ps++[⟨k,o.next,d⟩]) }
section
variable {w w' w1:World}{B hb:Nat}{O S:Nat→Prop}{H H':He}{M M':HV}{tg:Nat→Nat}
theorem HeapAt.nxt (h:HeapAt w B hb tg H M){i g cap:Nat}{ob:Ob}{ov:OV}(hi:H.obs[i]?=some ob)(hv:M.ovs[i]?=some ov)(hvo:M.vo=⟨some ⟨g,0,none⟩,H.obs.length,cap⟩)(hnx:ob.next<2000000000001) :
  w.cell? ⟨g,i*12+6,none⟩=some (.int .i64 ob.next)∧w.frozen? ⟨g,i*12+6,none⟩=false∧WentM w B hb tg { H with obs:=H.obs.set i { ob with next:=ob.next+1 } } M (w.setCell ⟨g,i*12+6,none⟩ (.int .i64 (ob.next+1))):=by
 obtain⟨c4,c5,c6,fz,hgl,t4⟩:=h.tab hi hv hvo
 have hwf:=h.wf.ob ob (List.mem_of_getElem? hi)
 have pf:=h.fld hi hv hvo { ob with next:=ob.next+1 } (j:=6) (u := .int .i64 (ob.next+1)) (by omega) rfl rfl rfl rfl ⟨hwf.kd,hwf.pr,hwf.ks,hwf.fl,⟨by have:=hwf.nx.1;simp only;omega,by simp only;omega,hwf.nx.2.2⟩,hwf.el,hwf.inn⟩
 exact⟨c6,fz _,h.wentF pf.2 (fun b q=>by omega) pf.1⟩
theorem big_mid (h:HeapAt w B hb tg H M){i g cap:Nat}{ob:Ob}{ov:OV}(hi:H.obs[i]?=some ob)(hv:M.ovs[i]?=some ov)(hvo:M.vo=⟨some ⟨g,0,none⟩,H.obs.length,cap⟩)(hne:ob.neat)(k:ByteArray)(hk:k.size≤maxLen)(hno:plc ob.ps k=none)(d:De)(hd:0≤d.fl∧d.fl≤15)(hnx:ob.next<2000000000000)
  {W W1:World} {G C:Nat} (q1:OwnR prC 5 116 B W (.slice (some ⟨G,0,none⟩) (ob.ps.length+1) C) (ob.ps++[⟨k,ob.next,d⟩])) (q2:Chg (fun b=>ov.vl.val.ownBlock=some b) w W) (q3:ov.vl.val.ownBlock=some G∨w.heap.size≤G)
  (e1:W1=W.setCell ⟨g,i*12+4,none⟩ (.slice (some ⟨G,0,none⟩) (ob.ps.length+1) C)) :
  (W1.cell? ⟨g,i*12+4,none⟩=some (.slice (some ⟨G,0,none⟩) (ob.ps.length+1) C)∧W1.cell? ⟨g,i*12+5,none⟩=some (.map ov.vm)∧W1.cell? ⟨g,i*12+6,none⟩=some (.int .i64 ob.next)) ∧
  (∀mb,ov.vm=some mb→ob.hm=true→∃w7,(Instr.mapUpdate 92 (.map (some mb)) (.string k) (.int .i64 ob.next)).run Tryz.prog W1.drew = .ok () w7∧w7.cell? ⟨g,i*12+6,none⟩=some (.int .i64 ob.next)∧w7.frozen? ⟨g,i*12+6,none⟩=false∧∃M',M'.vo=M.vo∧WentM w B hb tg { H with obs:=H.obs.set i (ob.mapped k d) } M' (w7.setCell ⟨g,i*12+6,none⟩ (.int .i64 (ob.next+1)))) ∧
  Calls Tryz.prog 142 #[.pointer (some ⟨g,i*12+4,none⟩)] W1 (fun e w7=>e = .returned (.tuple #[])∧w7.cell? ⟨g,i*12+6,none⟩=some (.int .i64 ob.next)∧w7.frozen? ⟨g,i*12+6,none⟩=false∧∃M',M'.vo=M.vo∧WentM w B hb tg { H with obs:=H.obs.set i (ob.mapped k d) } M' (w7.setCell ⟨g,i*12+6,none⟩ (.int .i64 (ob.next+1)))):=by
 have hpl:=hne.pl
 obtain⟨tg1,p1,p2,p3⟩:=add_list h hi hv hvo k hk d hd (by omega) q1 q2 q3
 rw[←e1] at p1 p2
 have hwf:=h.wf.ob ob (List.mem_of_getElem? hi)
 have hil:i<H.obs.length:=(List.getElem?_eq_some_iff.1 hi).1
 have hil2:i<M.ovs.length:=(List.getElem?_eq_some_iff.1 hv).1
 generalize hps:ob.ps++[(⟨k,ob.next,d⟩:Pr)]=ps1 at *
 generalize hvl:(⟨some ⟨G,0,none⟩,ob.ps.length+1,C⟩:SV)=vl1 at *
 have hi1:({ H with obs:=H.obs.set i { ob with ps:=ps1 } }:He).obs[i]?=some { ob with ps:=ps1 }:=List.getElem?_set_self hil
 have hv1:({ M with ovs:=M.ovs.set i { ov with vl:=vl1 } }:HV).ovs[i]?=some { ov with vl:=vl1 }:=List.getElem?_set_self hil2
 have hvo1:({ M with ovs:=M.ovs.set i { ov with vl:=vl1 } }:HV).vo=⟨some ⟨g,0,none⟩,({ H with obs:=H.obs.set i { ob with ps:=ps1 } }:He).obs.length,cap⟩:=by
  simp only[List.length_set]
  exact hvo
 obtain⟨c4,c5,c6,fz,hgl,t4⟩:=p1.tab hi1 hv1 hvo1
 have hkn:(ps1.map Pr.key).Nodup:=by
  rw[←hps,List.map_append,List.nodup_append]
  refine⟨hne.kn,by simp,fun a ha b hb e => ?_⟩
  obtain⟨p,hp,rfl⟩:=List.mem_map.1 ha
  simp at hb
  rw[hb] at e
  exact plc_none hno p hp e
 have hlen1:ps1.length=ob.ps.length+1:=by rw[←hps];simp
 have c4':W1.cell? ⟨g,i*12+4,none⟩=some (.slice (some ⟨G,0,none⟩) (ob.ps.length+1) C):=by
  rw[c4,←hvl]
  simp only[hlen1]
 refine⟨⟨c4',c5,c6⟩,fun mb hmb hm => ?_,?_⟩
 ·have hcm:camd ps1=ob.mp++[(k,ob.next)]:=by
   rw[hne.mp hm,←hps]
   unfold camd
   rw[List.map_append]
   rfl
  obtain⟨w7,r1,tg7,s1,s2,s3⟩:=(p1.below ((Below.refl _ _).drew)).mput hi1 hv1 hmb (by show BkOk ob.mp;rw[hne.mp hm];exact camd_ok hne.kn hwf.ks) hk (by
   show ∀x∈ob.mp,x.1≠k
   rw[hne.mp hm]
   intro x hx e
   obtain⟨p,hp,rfl⟩:=List.mem_map.1 hx
   exact plc_none hno p hp e) ob.next
  have hi7:({ ({ H with obs:=H.obs.set i { ob with ps:=ps1 } }:He) with obs:=({ H with obs:=H.obs.set i { ob with ps:=ps1 } }:He).obs.set i { ({ ob with ps:=ps1 }:Ob) with mp:=ob.mp++[(k,ob.next)] } }:He).obs[i]?=some { ({ ob with ps:=ps1 }:Ob) with mp:=ob.mp++[(k,ob.next)] }:=List.getElem?_set_self (by simpa using hil)
  obtain⟨y1,y2,y3⟩:=s1.nxt hi7 hv1 (by simp only[List.length_set];exact hvo) (by show ob.next<_;omega)
  simp only[List.set_set] at y3
  refine⟨w7,r1,y1,y2,{ M with ovs:=M.ovs.set i { ov with vl:=vl1 } },rfl,WentM.next p2 p3 (WentM.behind ((Below.refl _ _).drew) (WentM.next s2 s3 ?_))⟩
  ·have e:ob.mapped k d={ ob with ps:=ps1,next:=ob.next+1,mp:=ob.mp++[(k,ob.next)] }:=by
    unfold Ob.mapped
    rw[hps,hcm,←hm]
   rw[e]
   exact y3
 ·refine(note_at p1 hi1 hv1 hvo1 hkn).mono ?_
  rintro e w7 ⟨rfl,mb,tg7,s1,s2,s3⟩
  have hi7:({ ({ H with obs:=H.obs.set i { ob with ps:=ps1 } }:He) with obs:=({ H with obs:=H.obs.set i { ob with ps:=ps1 } }:He).obs.set i { ({ ob with ps:=ps1 }:Ob) with hm:=true,mp:=camd ps1 } }:He).obs[i]?=some { ({ ob with ps:=ps1 }:Ob) with hm:=true,mp:=camd ps1 }:=List.getElem?_set_self (by simpa using hil)
  have hv7:({ ({ M with ovs:=M.ovs.set i { ov with vl:=vl1 } }:HV) with ovs:=({ M with ovs:=M.ovs.set i { ov with vl:=vl1 } }:HV).ovs.set i { ({ ov with vl:=vl1 }:OV) with vm:=some mb } }:HV).ovs[i]?=some { ({ ov with vl:=vl1 }:OV) with vm:=some mb }:=List.getElem?_set_self (by simpa using hil2)
  obtain⟨y1,y2,y3⟩:=s1.nxt hi7 hv7 (by simp only[List.length_set];exact hvo) (by show ob.next<_;omega)
  simp only[List.set_set] at y3
  refine⟨rfl,y1,y2,{ M with ovs:=M.ovs.set i { ({ ov with vl:=vl1 }:OV) with vm:=some mb } },rfl,WentM.next p2 p3 (WentM.next s2 s3 ?_)⟩
  have e:ob.mapped k d={ ob with ps:=ps1,next:=ob.next+1,hm:=true,mp:=camd ps1 }:=by
   unfold Ob.mapped
   rw[hps]
  rw[e]
  exact y3
theorem add_big (h:HeapAt w B hb tg H M){i g cap:Nat}{ob:Ob}{ov:OV}(hi:H.obs[i]?=some ob)(hv:M.ovs[i]?=some ov)(hvo:M.vo=⟨some ⟨g,0,none⟩,H.obs.length,cap⟩)(hnt:ob.neat)(hbig:ob.hm=true∨16<ob.ps.length+1)(k:ByteArray)(hk:k.size≤maxLen)(hno:plc ob.ps k=none)(d:De)(hd:0≤d.fl∧d.fl≤15)(hnx:ob.next<2000000000000) :
  Calls Tryz.prog 128 #[.pointer (some ⟨g,i*12+4,none⟩),.string k,deV d] w fun e w'=>e = .returned (.tuple #[])∧∃M',M'.vo=M.vo∧WentM w B hb tg { H with obs:=H.obs.set i (ob.mapped k d) } M' w':=by
 obtain⟨wb,hwb⟩:∃wb,wb=w.alloc (.cells #[.int .u64 d.va,.int .u64 d.se,.int .i64 d.fl] 39):=⟨_,rfl⟩
 have hB:Below w.heap.size w wb:=by rw[hwb];exact(Below.refl _ _).alloc (Nat.le_refl _) _
 have hbx:wb.heap[w.heap.size]?=some (.cells #[.int .u64 d.va,.int .u64 d.se,.int .i64 d.fl] 39 (0,0)):=by rw[hwb];exact at_new _ _
 have h2:=h.below hB
 obtain⟨g',cap',ov',hvo',hov',t4,hne,hgl,hcell,hfz,_⟩:=h2.obj hi
 rw[hvo] at hvo'
 injection hvo' with x1 x2 x3
 injection x1 with x1
 injection x1 with x1
 subst x1
 rw[hv] at hov'
 cases hov'
 have c4:=hcell 4 _ rfl
 have c6:=hcell 6 _ rfl
 simp only at c4 c6
 have hr:RowIn prC 5 _ B wb _ ov.vl ob.ps:=h2.part hi hv 0 (by omega)
 obtain⟨q1,q2,q3,q4⟩:=hr.open rtPr.len
 have hown:=hr.1
 have hB0:=h2.B0
 have ht:∀b,ov.vl.val.ownBlock=some b→tg b=7+4*i+0:=hr.2
 have hng:¬ov.vl.val.ownBlock=some g:=fun q=>by have:=ht g q;omega
 have hwf:=h.wf.ob ob (List.mem_of_getElem? hi)
 have hpl:=hnt.pl
 have HMID:Hid (∀W G C,OwnR prC 5 116 B W (.slice (some ⟨G,0,none⟩) (ob.ps.length+1) C) (ob.ps++[⟨k,ob.next,d⟩])→Chg (fun b=>ov.vl.val.ownBlock=some b) wb W→(ov.vl.val.ownBlock=some G∨wb.heap.size≤G)→∀W1,W1=W.setCell ⟨g,i*12+4,none⟩ (.slice (some ⟨G,0,none⟩) (ob.ps.length+1) C) →
  (W1.cell? ⟨g,i*12+4,none⟩=some (.slice (some ⟨G,0,none⟩) (ob.ps.length+1) C)∧W1.cell? ⟨g,i*12+5,none⟩=some (.map ov.vm)∧W1.cell? ⟨g,i*12+6,none⟩=some (.int .i64 ob.next)) ∧
  (∀mb,ov.vm=some mb→ob.hm=true→∃w7,(Instr.mapUpdate 92 (.map (some mb)) (.string k) (.int .i64 ob.next)).run Tryz.prog W1.drew = .ok () w7∧w7.cell? ⟨g,i*12+6,none⟩=some (.int .i64 ob.next)∧w7.frozen? ⟨g,i*12+6,none⟩=false∧∃M',M'.vo=M.vo∧WentM w B hb tg { H with obs:=H.obs.set i (ob.mapped k d) } M' (w7.setCell ⟨g,i*12+6,none⟩ (.int .i64 (ob.next+1)))) ∧
  Calls Tryz.prog 142 #[.pointer (some ⟨g,i*12+4,none⟩)] W1 (fun e w7=>e = .returned (.tuple #[])∧w7.cell? ⟨g,i*12+6,none⟩=some (.int .i64 ob.next)∧w7.frozen? ⟨g,i*12+6,none⟩=false∧∃M',M'.vo=M.vo∧WentM w B hb tg { H with obs:=H.obs.set i (ob.mapped k d) } M' (w7.setCell ⟨g,i*12+6,none⟩ (.int .i64 (ob.next+1))))):=fun W G C r1 r2 r3 W1 r4=>by
  obtain⟨s1,s2,s3⟩:=big_mid h2 hi hv hvo hnt k hk hno d hd hnx r1 r2 r3 r4
  refine⟨s1,fun mb h1 h2 => ?_,s3.mono ?_⟩
  ·obtain⟨w7,y1,y2,y3,M',y5,y4⟩:=s2 mb h1 h2
   exact⟨w7,y1,y2,y3,M',y5,WentM.behind hB y4⟩
  ·rintro e w7 ⟨rfl,y2,y3,M',y5,y4⟩
   exact⟨rfl,y2,y3,M',y5,WentM.behind hB y4⟩
 have HVM:Hid ((ob.hm=true∧∃mb,ov.vm=some mb)∨(ob.hm=false∧ov.vm=none∧16<ob.ps.length+1)):=by
  have hp1:=h.part hi hv 1 (by omega)
  cases hm:ob.hm with
  | true =>
    refine Or.inl ⟨rfl,?_⟩
    have:=hp1.1
    rw[hm] at this
    cases hvm:ov.vm with
    | none=>rw[hvm] at this;cases this
    | some mb=>exact⟨mb,rfl⟩
  | false =>
    refine Or.inr ⟨rfl,vm_none hp1 hm,?_⟩
    rcases hbig with q | q
    ·rw[hm] at q;cases q
    ·exact q
 have HFZ:Hid (∀W,Chg (fun b=>ov.vl.val.ownBlock=some b) wb W→W.cell? ⟨g,i*12+4,none⟩=some ov.vl.val∧W.frozen? ⟨g,i*12+4,none⟩=false):=fun W q=>⟨q.cell c4 hng,by rw[World.frozen?_of_block (w:=wb) (q.block g hgl hng)];exact hfz _⟩
 have b0:wb.cell? ⟨w.heap.size,0,none⟩=some (.int .u64 d.va):=cell_of_row wb w.heap.size 0 _ _ (0,0) hbx
 have b1:wb.cell? ⟨w.heap.size,1,none⟩=some (.int .u64 d.se):=cell_of_row wb w.heap.size 1 _ _ (0,0) hbx
 have b2:wb.cell? ⟨w.heap.size,2,none⟩=some (.int .i64 d.fl):=cell_of_row wb w.heap.size 2 _ _ (0,0) hbx
 have HBX:Hid (((ob.ps.length+1)+(ob.ps.length+1) / 4+192)*48≤281474976710656∧ob.ps.length+1≤maxLen):=⟨by omega,by unfold maxLen;omega⟩
 have HBB:Hid (B≤wb.heap.size):=by show _≤_;omega
 have HAL:Hid (Below wb.heap.size wb (wb.drew.alloc (.cells #[.string k,.int .i64 ob.next,.int .u64 d.va,.int .u64 d.se,.int .i64 d.fl] 116))):=((Below.refl wb.heap.size wb).drew).alloc (Nat.le_refl _) _
 have HOW:Hid (OwnR prC 5 116 B (wb.drew.alloc (.cells #[.string k,.int .i64 ob.next,.int .u64 d.va,.int .u64 d.se,.int .i64 d.fl] 116)) ov.vl.val ob.ps):=hown.below HAL.out
 have g12:(wb.alloc (.cells #[.string k,.int .i64 ob.next,.int .u64 d.va,.int .u64 d.se,.int .i64 d.fl] 116)).cell? ⟨g,i*12+4,none⟩=some ov.vl.val:=cells_below ((Below.refl wb.heap.size wb).alloc (Nat.le_refl _) _) _ _ c4
 have f4:=hfz (i*12+4)
 have hgn:¬g=wb.heap.size:=by omega
 have hxn:¬w.heap.size=wb.heap.size:=by have:=(Array.getElem?_eq_some_iff.1 hbx).1;omega
 have q69:∀(w:World) (r:Option Nat),(binOp .neq 92 (.map r) (.map none)).run Tryz.prog w = .ok (.bool (!r.isNone)) w:=fun w r=>run_neq_map_nil w _ _ _ r Tryz.underlying92
 have hnw:IntKind.i64.wrap (ob.next+1)=ob.next+1:=by rw[IntKind.wrap_i64];have:=hwf.nx.1;omega
 unfold SV.val at c4 g12 HMID HFZ HOW
 rw[q1] at c4 g12 HMID HFZ HOW
 generalize hHH:{ H with obs:=H.obs.set i (ob.mapped k d) }=HN at *
 generalize hps:ob.ps=ps at *
 generalize ob.next=nx at *
 generalize hohm:ob.hm=ohm at *
 generalize hovm:ov.vm=ovm at *
 generalize ov.vl.ad=ad at *
 generalize ov.vl.cap=cp at *
 unfold deV
 obtain⟨va,se,fl⟩:=d
 simp only at *
 clear h h2 hi hvo hv hB hbx hcell hfz hne hgl t4 hr q2 q3 q4 q1 hown hB0 ht hng hwf hk hnx hd hHH hps x2 x3 hnt hbig hno hohm hovm hpl
 go_enter Tryz.func128,Tryz.ntmps128
 go_upto_region 1 with fail
 rw[←hwb]
 clear hwb
 generalize w.heap.size=xb at b0 b1 b2 hxn ⊢
 go_region_law ((refine step_row rtPr (by rfl) _ _ (by rfl) B (.slice ad ps.length cp) ps (by rfl) (by exact HOW.out) wb.heap.size ⟨k,nx,va,se,fl⟩ #[.string k,.int .i64 nx,.int .u64 va,.int .u64 se,.int .i64 fl] 116 (by rfl) (by exact at_new _ _) (by rfl) (by exact HBX.out.2) (by exact HBX.out.1) (by exact Nat.le_trans HBB.out HAL.out.size) ?_;intro g5 cap5 w9 ho5 hg5 hl5;have HO:Hid (OwnR prC 5 116 B w9 (.slice (some ⟨g5,0,none⟩) (ps.length+1) cap5) (ps++[⟨k,nx,va,se,fl⟩])∧Chg (fun b=>(Value.slice ad ps.length cp).ownBlock=some b) wb w9∧((Value.slice ad ps.length cp).ownBlock=some g5∨wb.heap.size≤g5)):=⟨ho5,(Chg.of_below HAL.out).trans (Chg.of_grown (S:=fun b=>(Value.slice ad ps.length cp).ownBlock=some b) hg5 (fun k q=>q)) (fun _ _ q=>q),hl5.imp id (fun q=>by rw[q];exact HAL.out.size)⟩;obtain⟨z1,z2⟩:=HFZ.out w9 HO.out.2.1;clear ho5 hg5 hl5))
 all_goals
  obtain⟨⟨s1,s2,s3⟩,s4,s5⟩:=HMID.out w9 g5 cap5 HO.out.1 HO.out.2.1 HO.out.2.2 _ rfl
  have HS4:=(show Hid _ from s4)
  clear s4 HO HFZ HOW HBB HAL HMID z1 z2 HBX g12 c4 c6 f4
  generalize (w9.setCell ⟨g,i*12+4,none⟩ (.slice (some ⟨g5,0,none⟩) (ps.length+1) cap5))=w10 at *
  rcases HVM.out with⟨hv1,mb,hv2⟩ | ⟨hv1,hv2,hv3⟩
  ·subst hv1 hv2
   obtain⟨w7,r1,r2,r3,r4⟩:=HS4.out mb rfl rfl
   have HR4:=(show Hid _ from r4)
   clear HS4 s5 HVM r4
   go_wp2_with fail
   go_region
   all_goals
    go_wp2_with fail
    go_end0
    obtain⟨M',hvo',hw'⟩:=HR4.out
    exact⟨rfl,M',hvo',by first | exact hw' | exact hw'.drew⟩
  ·subst hv1 hv2
   have hl16:decide ((16:Int)<((ps.length+1:Nat):Int))=true:=decide_eq_true (by omega)
   have hl16':(16:Int)<((ps.length+1:Nat):Int):=by omega
   clear HS4 HVM hv3
   go_wp2_with fail
   refine s5.mono ?_
   rintro e w7 ⟨rfl,r2,r3,r4⟩
   have HR4:=(show Hid _ from r4)
   clear s5 r4 s1 s2 s3
   go_wp2_with fail
   go_end0
   obtain⟨M',hvo',hw'⟩:=HR4.out
   exact⟨rfl,M',hvo',by first | exact hw' | exact hw'.drew⟩
end
section
variable {w w' w1:World}{B hb:Nat}{O S:Nat→Prop}{H H':He}{M M':HV}{tg:Nat→Nat}
def Ob.lost (o:Ob):Ob:={ o with shape:=0,shaped:=false }
theorem lose_at (h:HeapAt w B hb tg H M){i g cap:Nat}{ob:Ob}(hi:H.obs[i]?=some ob)(hvo:M.vo=⟨some ⟨g,0,none⟩,H.obs.length,cap⟩) :
  Calls Tryz.prog 101 #[.pointer (some ⟨g,i*12,none⟩)] w fun e w'=>e = .returned (.tuple #[])∧WentM w B hb tg { H with obs:=H.obs.set i ob.lost } M w':=by
 obtain⟨g',cap',ov,hvo',hov,t4,hne,hgl,hcell,hfz,_⟩:=h.obj hi
 have hvv:=hvo'
 rw[hvo] at hvv
 injection hvv with x1 x2 x3
 injection x1 with x1
 injection x1 with x1
 subst x1
 have d9:=hcell 9 _ rfl
 have d10:=hcell 10 _ rfl
 simp only at d9 d10
 have f9:=hfz (i*12+9)
 have f10:=hfz (i*12+10)
 have hwf:=h.wf.ob ob (List.mem_of_getElem? hi)
 have hil:i<H.obs.length:=(List.getElem?_eq_some_iff.1 hi).1
 have p1:=h.fld hi hov hvo { ob with shape:=0 } (j:=9) (u := .int .i64 0) (by omega) rfl rfl rfl rfl ⟨hwf.kd,hwf.pr,hwf.ks,hwf.fl,hwf.nx,hwf.el,hwf.inn⟩
 have hi2:({ H with obs:=H.obs.set i { ob with shape:=0 } }:He).obs[i]?=some { ob with shape:=0 }:=List.getElem?_set_self hil
 have p2:=p1.1.fld hi2 hov (by simp only[List.length_set];exact hvo) ob.lost (j:=10) (u := .bool false) (by omega) rfl rfl rfl rfl ⟨hwf.kd,hwf.pr,hwf.ks,hwf.fl,hwf.nx,hwf.el,hwf.inn⟩
 have p3:=p2.1
 simp only[List.set_set] at p3
 have HW:Hid (WentM w B hb tg { H with obs:=H.obs.set i ob.lost } M ((w.setCell ⟨g,i*12+9,none⟩ (.int .i64 0)).setCell ⟨g,i*12+10,none⟩ (.bool false))):=h.wentF (p1.2.trans p2.2 (fun _ _ q=>q)) (fun b q=>by omega) p3
 generalize { H with obs:=H.obs.set i ob.lost }=HN at *
 clear h hi hvo hvo' hov t4 hne hgl hcell hfz hwf hil p1 hi2 p2 p3 x2 x3
 go_enter Tryz.func101,Tryz.ntmps101
 go_wp2_with fail
 go_end0
 exact⟨rfl,HW.out⟩
def Ob.plus (o:Ob)(k:ByteArray)(d:De):Ob:=if o.hm=true∨16<o.ps.length+1 then o.mapped k d else o.added k d
theorem add_any (h:HeapAt w B hb tg H M){i g cap:Nat}{ob:Ob}(hi:H.obs[i]?=some ob)(hvo:M.vo=⟨some ⟨g,0,none⟩,H.obs.length,cap⟩)(hnt:ob.neat)(k:ByteArray)(hk:k.size≤maxLen)(hno:plc ob.ps k=none)(d:De)(hd:0≤d.fl∧d.fl≤15)(hnx:ob.next<2000000000000) :
  Calls Tryz.prog 128 #[.pointer (some ⟨g,i*12+4,none⟩),.string k,deV d] w fun e w'=>e = .returned (.tuple #[])∧∃M',M'.vo=M.vo∧WentM w B hb tg { H with obs:=H.obs.set i (ob.plus k d) } M' w':=by
 obtain⟨_,_,ov,_,hov,_⟩:=h.obj hi
 unfold Ob.plus
 by_cases c:ob.hm=true∨16<ob.ps.length+1
 ·rw[if_pos c]
  exact add_big h hi hov hvo hnt c k hk hno d hd hnx
 ·rw[if_neg c]
  have hm:ob.hm=false:=by
   cases q:ob.hm with
   | false=>rfl
   | true=>exact absurd (Or.inl q) c
  refine(add_small h hi hov hvo hm k hk d hd (by rcases Nat.lt_or_ge 16 (ob.ps.length+1) with q | q;exact absurd (Or.inr q) c;exact q) hnx).mono ?_
  rintro e w' ⟨rfl,vl',hq⟩
  exact⟨rfl,{ M with ovs:=M.ovs.set i { ov with vl:=vl' } },rfl,hq⟩
theorem plus_len (o:Ob)(k:ByteArray)(d:De):(o.plus k d).ps=o.ps++[⟨k,o.next,d⟩]∧(o.plus k d).shape=o.shape∧(o.plus k d).shaped=o.shaped:=by
 unfold Ob.plus
 split <;> exact⟨rfl,rfl,rfl⟩
def Ob.bare (o:Ob)(k:ByteArray)(d:De):Ob:=if 16<o.ps.length+1 then (o.plus k d).lost else o.plus k d
theorem lay_bare (h:HeapAt w B hb tg H M){i g cap:Nat}{ob:Ob}(hi:H.obs[i]?=some ob)(hvo:M.vo=⟨some ⟨g,0,none⟩,H.obs.length,cap⟩)(hnt:ob.neat)(hb16:16<ob.ps.length+1∨ob.shaped=false)(k:ByteArray)(hk:k.size≤maxLen)(hno:plc ob.ps k=none)(d:De)(hd:0≤d.fl∧d.fl≤15)(hnx:ob.next<2000000000000) :
  Calls Tryz.prog 113 #[.pointer (some ⟨hb,0,none⟩),.pointer (some ⟨g,i*12,none⟩),.string k,deV d] w fun e w'=>e = .returned (.tuple #[])∧∃M',M'.vo=M.vo∧WentM w B hb tg { H with obs:=H.obs.set i (ob.bare k d) } M' w':=by
 obtain⟨wb,hwb⟩:∃wb,wb=w.alloc (.cells #[.int .u64 d.va,.int .u64 d.se,.int .i64 d.fl] 39):=⟨_,rfl⟩
 have hB:Below w.heap.size w wb:=by rw[hwb];exact(Below.refl _ _).alloc (Nat.le_refl _) _
 have hbx:wb.heap[w.heap.size]?=some (.cells #[.int .u64 d.va,.int .u64 d.se,.int .i64 d.fl] 39 (0,0)):=by rw[hwb];exact at_new _ _
 have h2:HeapAt wb.drew B hb tg H M:=(h.below hB).below ((Below.refl _ _).drew)
 have kadd:=add_any h2 hi hvo hnt k hk hno d hd hnx
 have hil:i<H.obs.length:=(List.getElem?_eq_some_iff.1 hi).1
 have hpl:=plus_len ob k d
 have HA:Hid (∀w2 M2,M2.vo=M.vo→WentM wb.drew B hb tg { H with obs:=H.obs.set i (ob.plus k d) } M2 w2 →
   Calls Tryz.prog 129 #[.pointer (some ⟨g,i*12+4,none⟩)] w2 (fun e w'=>e = .returned (.int .i64 ((ob.ps.length+1:Nat):Int))∧w'=w2) ∧
   w2.cell? ⟨g,i*12+10,none⟩=some (.bool ob.shaped) ∧
   (¬16<ob.ps.length+1→∃M',M'.vo=M.vo∧WentM w B hb tg { H with obs:=H.obs.set i (ob.bare k d) } M' w2) ∧
   (16<ob.ps.length+1→Calls Tryz.prog 101 #[.pointer (some ⟨g,i*12,none⟩)] w2 (fun e w'=>e = .returned (.tuple #[])∧∃M',M'.vo=M.vo∧WentM w B hb tg { H with obs:=H.obs.set i (ob.bare k d) } M' w'))):=fun w2 M2 hM2 hw2=>by
  have hw0:=hw2
  obtain⟨tg2,p1,p2,p3⟩:=hw2
  have hi1:({ H with obs:=H.obs.set i (ob.plus k d) }:He).obs[i]?=some (ob.plus k d):=List.getElem?_set_self hil
  have hvo1:M2.vo=⟨some ⟨g,0,none⟩,({ H with obs:=H.obs.set i (ob.plus k d) }:He).obs.length,cap⟩:=by
   simp only[List.length_set]
   rw[hM2]
   exact hvo
  obtain⟨g',cap',ov1,hvo',hov,t4,hne,hgl,hcell,hfz,_⟩:=p1.obj hi1
  have hvv:=hvo'
  rw[hvo1] at hvv
  injection hvv with x1 x2 x3
  injection x1 with x1
  injection x1 with x1
  subst x1
  have d10:=hcell 10 _ rfl
  simp only at d10
  rw[hpl.2.2] at d10
  have hs:=size_at p1 hi1 hvo1
  rw[hpl.1,List.length_append,List.length_singleton] at hs
  refine⟨hs,d10,fun c=>⟨M2,hM2,?_⟩,fun c => ?_⟩
  ·unfold Ob.bare
   rw[if_neg c]
   exact WentM.behind hB (WentM.behind ((Below.refl _ _).drew) hw0)
  ·refine(lose_at p1 hi1 hvo1).mono ?_
   rintro e w' ⟨rfl,hq⟩
   refine⟨rfl,M2,hM2,?_⟩
   unfold Ob.bare
   rw[if_pos c]
   simp only[List.set_set] at hq
   exact WentM.behind hB (WentM.behind ((Below.refl _ _).drew) (WentM.next p2 p3 hq))
 have b0:wb.cell? ⟨w.heap.size,0,none⟩=some (.int .u64 d.va):=cell_of_row wb w.heap.size 0 _ _ (0,0) hbx
 have b1:wb.cell? ⟨w.heap.size,1,none⟩=some (.int .u64 d.se):=cell_of_row wb w.heap.size 1 _ _ (0,0) hbx
 have b2:wb.cell? ⟨w.heap.size,2,none⟩=some (.int .i64 d.fl):=cell_of_row wb w.heap.size 2 _ _ (0,0) hbx
 have HSH:Hid (16<ob.ps.length+1∨ob.shaped=false):=hb16
 generalize hlh:{ H with obs:=H.obs.set i (ob.bare k d) }=HL at *
 generalize hlo:{ H with obs:=H.obs.set i (ob.plus k d) }=HX at *
 generalize ob.ps.length+1=len at *
 generalize hsd:ob.shaped=sd at *
 unfold deV at kadd ⊢
 obtain⟨va,se,fl⟩:=d
 simp only at *
 clear h h2 hi hvo hnt hb16 hB hbx hil hpl hk hno hd hnx hlh hlo hsd
 by_cases c16:16<len
 ·have hl16:decide ((16:Int)<(len:Int))=true:=decide_eq_true (by omega)
  have hl16':(16:Int)<(len:Int):=by omega
  have HC16:Hid (16<len):=c16
  clear c16
  go_enter Tryz.func113,Tryz.ntmps113
  go_upto_region 1 with fail
  rw[←hwb]
  clear hwb
  generalize w.heap.size=xb at b0 b1 b2 HA ⊢
  first
  | (go_region_with ((go_at_call 128;refine kadd.mono ?_;rintro e w2 ⟨rfl,M2,hM2,hw2⟩;obtain⟨ksz,a5,_,klo⟩:=HA.out w2 M2 hM2 hw2;have kls:=klo HC16.out;clear hw2 klo)))
  | fail
  all_goals
   clear kadd b0 b1 b2 HA
   go_wp2_with fail
   refine ksz.mono ?_
   rintro e w3 ⟨rfl,rfl⟩
   clear ksz
   go_wp2_with fail
   refine kls.mono ?_
   rintro e w4 ⟨rfl,hq⟩
   have HQ:=(show Hid _ from hq)
   clear kls hq
   go_wp2_with fail
   go_end0
   exact⟨rfl,HQ.out⟩
 ·have hl16:decide ((16:Int)<(len:Int))=false:=decide_eq_false (by omega)
  have hl16':¬((16:Int)<(len:Int)):=by omega
  have hsf:sd=false:=by rcases HSH.out with q | q;exact absurd q c16;exact q
  subst hsf
  have HC16:Hid (¬16<len):=c16
  clear c16 HSH
  go_enter Tryz.func113,Tryz.ntmps113
  go_upto_region 1 with fail
  rw[←hwb]
  clear hwb
  generalize w.heap.size=xb at b0 b1 b2 HA ⊢
  first
  | (go_region_with ((go_at_call 128;refine kadd.mono ?_;rintro e w2 ⟨rfl,M2,hM2,hw2⟩;obtain⟨ksz,a5,kno,_⟩:=HA.out w2 M2 hM2 hw2;have HQ:=(show Hid _ from kno HC16.out);clear hw2 kno)))
  | fail
  all_goals
   clear kadd b0 b1 b2 HA
   go_wp2_with fail
   refine ksz.mono ?_
   rintro e w3 ⟨rfl,rfl⟩
   clear ksz
   go_wp2_with fail
   go_end0
   exact⟨rfl,HQ.out⟩
end
def regN (n:Nat):Code→Option Code
 | .region k ops d=>if k=n then some (.region k ops d) else none
 | .seq a b=>match regN n a with
   | some c=>some c
   | none=>regN n b
 | .cond _ a b=>match regN n a with
   | some c=>some c
   | none=>regN n b
 | .block _ c=>regN n c
 | .loop c=>regN n c
 | .scope c=>regN n c
 | _=>none
def PQ (Q:World→Prop):Exit→Act→World→Prop:=fun e a w'=>match e with
 | .normal=>a.defers=[]∧Q w'
 | _=>False
theorem replReg (w3:World)(hb g off gl lo xb tb:Nat)(sh fl sh2:Int)(ok2:Bool)(pk:ByteArray)(Q:World→Prop)
  (a0:w3.cell? ⟨xb,2,none⟩=some (.int .i64 fl)) (a1:w3.cell? ⟨hb,3,none⟩=some (.pointer (some ⟨tb,0,none⟩))) (a2:w3.cell? ⟨g,off+9,none⟩=some (.int .i64 sh)) (a4:w3.cell? ⟨gl,lo,none⟩=some (.string pk))
  (ktr:Calls Tryz.prog 127 #[.pointer (some ⟨tb,0,none⟩),.int .i64 sh,.string pk,.int .i64 fl] w3.drew (fun e w'=>e = .returned (.tuple #[.int .i64 sh2,.bool ok2])∧((w'.cell? ⟨g,off+9,none⟩=some (.int .i64 sh)∧w'.cell? ⟨g,off+10,none⟩=some (.bool true)∧w'.frozen? ⟨g,off+9,none⟩=false∧w'.frozen? ⟨g,off+10,none⟩=false)∧Q ((w'.setCell ⟨g,off+9,none⟩ (.int .i64 sh2)).setCell ⟨g,off+10,none⟩ (.bool ok2)))))
  (c2 c3 c4 c5 c6 c9 c10 c11 c12 c13 c14 c15 c16 c17 c18 c19 c20 c21 c22 c23 c24 c25 c26 c27 c28 c29 c30 c31 c32 c33 c34 c35 c36 c37 c38 c39 c40 c41 c42 c43 c44 c45 c46 c47:Value) :
  Code.wp Tryz.prog ((Tryz.f112.body.bind (regN 4)).getD .skip) (PQ Q) ⟨#[.pointer (some ⟨hb,0,none⟩),.pointer (some ⟨g,off,none⟩),c2,c3,c4,c5,c6,.pointer (some ⟨xb,0,none⟩),.pointer (some ⟨gl,lo,none⟩),c9,c10,c11,c12,c13,c14,c15,c16,c17,c18,c19,c20,c21,c22,c23,c24,c25,c26,c27,c28,c29,c30,c31,c32,c33,c34,c35,c36,c37,c38,c39,c40,c41,c42,c43,c44,c45,c46,c47],[]⟩ w3:=by
 conv=>arg 2;whnf
 first
 | (go_region_with ((go_at_call 127;refine ktr.mono ?_;rintro e w5 ⟨rfl,⟨y1,y2,y3,y4⟩,hq⟩;have HQ:=(show Hid _ from hq);clear hq)))
 | fail
 all_goals exact⟨rfl,HQ.out⟩
def setD (ps:List Pr)(n:Nat)(p:Pr)(d:De):List Pr:=ps.set n ⟨p.key,p.came,d⟩
section
variable {w w' w1:World}{B hb:Nat}{O S:Nat→Prop}{H H':He}{M M':HV}{tg:Nat→Nat}
theorem HeapAt.dset (h:HeapAt w B hb tg H M){i gl lcap:Nat}{ob:Ob}{ov:OV}(hi:H.obs[i]?=some ob)(hv:M.ovs[i]?=some ov)(hvl:ov.vl=⟨some ⟨gl,0,none⟩,ob.ps.length,lcap⟩){n:Nat}{p:Pr}(hp:ob.ps[n]?=some p)(d:De)(hd:0≤d.fl∧d.fl≤15) :
  WentM w B hb tg { H with obs:=H.obs.set i { ob with ps:=setD ob.ps n p d } } M (((w.setCell ⟨gl,n*5+2,none⟩ (.int .u64 d.va)).setCell ⟨gl,n*5+3,none⟩ (.int .u64 d.se)).setCell ⟨gl,n*5+4,none⟩ (.int .i64 d.fl)):=by
 have hwf:=h.wf.ob ob (List.mem_of_getElem? hi)
 have hr:RowIn prC 5 116 B w _ ov.vl ob.ps:=h.part hi hv 0 (by omega)
 have hr1:=hr.1
 have ht:=hr.2
 rw[hvl] at hr1 ht
 unfold SV.val at hr1 ht
 simp only at hr1 ht
 have htg:tg gl=7+4*i+0:=ht gl rfl
 have hil:i<H.obs.length:=(List.getElem?_eq_some_iff.1 hi).1
 have hnl:n<ob.ps.length:=(List.getElem?_eq_some_iff.1 hp).1
 have o1:=hr1.put (j:=2) (u := .int .u64 d.va) (y':=⟨p.key,p.came,⟨d.va,p.de.se,p.de.fl⟩⟩) rtPr.len hp (by omega) rfl
 have o2:=o1.put (j:=3) (u := .int .u64 d.se) (y':=⟨p.key,p.came,⟨d.va,d.se,p.de.fl⟩⟩) rtPr.len (List.getElem?_set_self hnl) (by omega) rfl
 have o3:=o2.put (j:=4) (u := .int .i64 d.fl) (y':=⟨p.key,p.came,d⟩) rtPr.len (List.getElem?_set_self (by rw[List.length_set];exact hnl)) (by omega) rfl
 rw[List.set_set,List.set_set] at o3
 generalize hw3:((w.setCell ⟨gl,n*5+2,none⟩ (.int .u64 d.va)).setCell ⟨gl,n*5+3,none⟩ (.int .u64 d.se)).setCell ⟨gl,n*5+4,none⟩ (.int .i64 d.fl)=w3 at *
 have hc:Chg (fun b=>tg b=7+4*i+0) w w3:=by
  rw[←hw3]
  exact((Chg.set (S:=fun b=>tg b=7+4*i+0) w ⟨gl,n*5+2,none⟩ _ htg).trans (Chg.set (S:=fun b=>tg b=7+4*i+0) _ ⟨gl,n*5+3,none⟩ _ htg) (fun _ _ q=>q)).trans (Chg.set (S:=fun b=>tg b=7+4*i+0) _ ⟨gl,n*5+4,none⟩ _ htg) (fun _ _ q=>q)
 have hks:∀q∈setD ob.ps n p d,q.key.size≤maxLen:=fun q hq=>by
  rcases List.mem_or_eq_of_mem_set hq with c | c
  ·exact hwf.ks q c
  ·rw[c];exact hwf.ks p (List.mem_of_getElem? hp)
 have hfl:∀q∈setD ob.ps n p d,0≤q.de.fl∧q.de.fl≤15:=fun q hq=>by
  rcases List.mem_or_eq_of_mem_set hq with c | c
  ·exact hwf.fl q c
  ·rw[c];exact hd
 refine h.wentM (k0:=7+4*i+0) hc (fun b _ q=>by omega) ?_
 refine h.up (H':={ H with obs:=H.obs.set i { ob with ps:=setD ob.ps n p d } }) (M':=M) hc (fun kj=>kj=7+4*i+0) (7+4*i+0) (fun b _ q=>⟨q,by omega⟩) (fun kj q => ?_) (fun kj O q hk => ?_) (by simp only[List.length_set];exact h.len) ⟨?_,by simp only[List.length_set];exact h.wf.ol,h.wf.tn,h.wf.ts,h.wf.tl,h.wf.mo,h.wf.br⟩
 ·subst q
  rw[show 7+4*i+0=(4*i)+7 by omega]
  intro ob1 ov1 e1 e2
  rw[show(4*i) / 4=i by omega] at e1 e2
  rw[show(4*i) % 4=0 by omega]
  have e1':(H.obs.set i { ob with ps:=setD ob.ps n p d })[i]?=some ob1:=e1
  rw[List.getElem?_set_self hil] at e1'
  have e2':M.ovs[i]?=some ov1:=e2
  rw[hv] at e2'
  cases e1'
  cases e2'
  refine⟨?_,fun b q => ?_⟩
  ·show OwnR prC 5 _ B _ ov.vl.val (ob.ps.set n ⟨p.key,p.came,d⟩)
   rw[hvl]
   exact o3
  ·rw[hvl] at q
   have hbg:b=gl:=by simpa [SV.val,Value.ownBlock] using q.symm
   show rtg _ _ _ _ _=_
   rw[hbg,rtg_old (h.lt gl (by omega)).2]
   omega
 ·match kj,hk,q with
  | 0,hk,q=>trivial
  | 1,hk,q=>exact hk
  | 2,hk,q=>exact hk
  | 3,hk,q=>exact hk
  | 4,hk,q =>
    refine⟨?_,hk.2⟩
    show OwnR obC 12 _ B _ M.vo.val ((H.obs.set i { ob with ps:=setD ob.ps n p d }).zip M.ovs)
    have hz:(H.obs.set i { ob with ps:=setD ob.ps n p d }).zip M.ovs=(H.obs.zip M.ovs).set i ({ ob with ps:=setD ob.ps n p d },ov):=by
     conv=>lhs;rw[←set_self hv]
     rw[zip_set]
    rw[hz]
    exact OwnR.congr hk.1 (by simp) (flat_same (enc:=obC) (y:=(ob,ov)) (y':=({ ob with ps:=setD ob.ps n p d },ov)) rfl _ i (zip_at hi hv))
  | 5,hk,q=>exact hk
  | 6,hk,q=>exact hk
  | k'+7,hk,q =>
    intro ob1 ov1 e1 e2
    have e1':(H.obs.set i { ob with ps:=setD ob.ps n p d })[k' / 4]?=some ob1:=e1
    by_cases c2:i=k' / 4
    ·rw[←c2,List.getElem?_set_self hil] at e1'
     cases e1'
     have e2':M.ovs[i]?=some ov1:=by rw[c2];exact e2
     rw[hv] at e2'
     cases e2'
     have hk2:=hk ob ov (by rw[←c2];exact hi) (by rw[←c2];exact hv)
     have hne:k' % 4≠0:=fun e=>q (by omega)
     generalize k' % 4=c4 at *
     match c4,hk2,hne with
     | 0,_,hne=>exact absurd rfl hne
     | 1,hk2,_=>exact hk2
     | 2,hk2,_=>exact hk2
     | _+3,hk2,_=>exact hk2
    ·rw[List.getElem?_set_ne c2] at e1'
     exact hk ob1 ov1 e1' e2
 ·intro o ho
  rcases List.mem_or_eq_of_mem_set ho with q | q
  ·exact h.wf.ob o q
  ·rw[q]
   exact⟨hwf.kd,hwf.pr,hks,hfl,⟨hwf.nx.1,hwf.nx.2.1,by simp only[setD,List.length_set];exact hwf.nx.2.2⟩,hwf.el,hwf.inn⟩
def replH (H:He)(i:Nat)(ob:Ob)(n:Nat)(p:Pr)(d:De):He :=
 if ob.shaped=true then { H with L:=(Sp.changeD H.most H.L ob.shape p.key d.fl).1,obs:=H.obs.set i { ob with ps:=setD ob.ps n p d,shape:=(Sp.changeD H.most H.L ob.shape p.key d.fl).2.1,shaped:=(Sp.changeD H.most H.L ob.shape p.key d.fl).2.2 } }
 else { H with obs:=H.obs.set i { ob with ps:=setD ob.ps n p d } }
theorem replace_at (h:HeapAt w B hb tg H M){i g cap:Nat}{ob:Ob}(hi:H.obs[i]?=some ob)(hvo:M.vo=⟨some ⟨g,0,none⟩,H.obs.length,cap⟩){n:Nat}{p:Pr}(hp:ob.ps[n]?=some p)(d:De)(hd:0≤d.fl∧d.fl≤15) :
  Calls Tryz.prog 112 #[.pointer (some ⟨hb,0,none⟩),.pointer (some ⟨g,i*12,none⟩),.int .i64 (n:Int),deV d] w fun e w'=>e = .returned (.tuple #[])∧WentM w B hb tg (replH H i ob n p d) M w':=by
 obtain⟨wb,hwb⟩:∃wb,wb=w.alloc (.cells #[.int .u64 d.va,.int .u64 d.se,.int .i64 d.fl] 39):=⟨_,rfl⟩
 have hB:Below w.heap.size w wb:=by rw[hwb];exact(Below.refl _ _).alloc (Nat.le_refl _) _
 have hbx:wb.heap[w.heap.size]?=some (.cells #[.int .u64 d.va,.int .u64 d.se,.int .i64 d.fl] 39 (0,0)):=by rw[hwb];exact at_new _ _
 have h2:HeapAt wb B hb tg H M:=h.below hB
 obtain⟨_,_,ov,_,hov,_⟩:=h2.obj hi
 have hnl:n<ob.ps.length:=(List.getElem?_eq_some_iff.1 hp).1
 have hwf:=h.wf.ob ob (List.mem_of_getElem? hi)
 have htx:tg w.heap.size=0:=by
  by_cases c:tg w.heap.size=0
  ·exact c
  ·have:=(h.lt _ c).2;omega
 have hil:i<H.obs.length:=(List.getElem?_eq_some_iff.1 hi).1
 obtain⟨c4,_,_,fz,hgl,t4⟩:=h2.tab hi hov hvo
 have hr:RowIn prC 5 116 B wb _ ov.vl ob.ps:=h2.part hi hov 0 (by omega)
 obtain⟨q1,q2,q3,q4⟩:=hr.open rtPr.len
 obtain⟨gl,e1,hgl1,hgl2,hgl3,hc,hfz⟩:=q4 (by intro e;rw[e] at hnl;simp at hnl)
 have hgl3:tg gl=7+4*i+0:=hgl3
 rcases hvl:ov.vl with⟨lad,llen,lcap⟩
 rw[hvl] at q1 q2 q3 e1 c4
 simp only at q1 q2 q3 e1 c4
 subst q1 e1
 have d0:=hc n p hp 0 _ rfl
 have d2:=hc n p hp 2 _ rfl
 have d3:=hc n p hp 3 _ rfl
 have d4:=hc n p hp 4 _ rfl
 simp only[Nat.add_zero] at d0
 have f2:=hfz (n*5+2)
 have f3:=hfz (n*5+3)
 have f4:=hfz (n*5+4)
 have hds:=h2.dset hi hov hvl hp d hd
 obtain⟨w3,hw3⟩:∃w3,w3=((wb.setCell ⟨gl,n*5+2,none⟩ (.int .u64 d.va)).setCell ⟨gl,n*5+3,none⟩ (.int .u64 d.se)).setCell ⟨gl,n*5+4,none⟩ (.int .i64 d.fl):=⟨_,rfl⟩
 rw[←hw3] at hds
 have hxs:w.heap.size<wb.heap.size:=(Array.getElem?_eq_some_iff.1 hbx).1
 have hfl : -9223372036854775808≤d.fl∧d.fl≤9223372036854775807:=by omega
 have HA:Hid ((w3.cell? ⟨w.heap.size,2,none⟩=some (.int .i64 d.fl)∧w3.cell? ⟨hb,3,none⟩=some (.pointer (some ⟨M.tb,0,none⟩))∧w3.cell? ⟨g,i*12+9,none⟩=some (.int .i64 ob.shape)∧w3.cell? ⟨g,i*12+10,none⟩=some (.bool ob.shaped)∧w3.cell? ⟨gl,n*5,none⟩=some (.string p.key)) ∧
   (ob.shaped=false→WentM w B hb tg (replH H i ob n p d) M w3) ∧
   (ob.shaped=true→Calls Tryz.prog 127 #[.pointer (some ⟨M.tb,0,none⟩),.int .i64 ob.shape,.string p.key,.int .i64 d.fl] w3.drew (fun e w'=>e = .returned (.tuple #[.int .i64 (Sp.changeD H.most H.L ob.shape p.key d.fl).2.1,.bool (Sp.changeD H.most H.L ob.shape p.key d.fl).2.2]) ∧
    ((w'.cell? ⟨g,i*12+9,none⟩=some (.int .i64 ob.shape)∧w'.cell? ⟨g,i*12+10,none⟩=some (.bool ob.shaped)∧w'.frozen? ⟨g,i*12+9,none⟩=false∧w'.frozen? ⟨g,i*12+10,none⟩=false) ∧
      WentM w B hb tg (replH H i ob n p d) M ((w'.setCell ⟨g,i*12+9,none⟩ (.int .i64 (Sp.changeD H.most H.L ob.shape p.key d.fl).2.1)).setCell ⟨g,i*12+10,none⟩ (.bool (Sp.changeD H.most H.L ob.shape p.key d.fl).2.2)))))):=by
  have hw0:=hds
  obtain⟨tg2,p1,p2,p3⟩:=hds
  have hbx2:w3.heap[w.heap.size]?=some (.cells #[.int .u64 d.va,.int .u64 d.se,.int .i64 d.fl] 39 (0,0)):=by
   rw[p2.block _ hxs (fun q=>q htx)]
   exact hbx
  have hi1:({ H with obs:=H.obs.set i { ob with ps:=setD ob.ps n p d } }:He).obs[i]?=some { ob with ps:=setD ob.ps n p d }:=List.getElem?_set_self hil
  have hvo1:M.vo=⟨some ⟨g,0,none⟩,({ H with obs:=H.obs.set i { ob with ps:=setD ob.ps n p d } }:He).obs.length,cap⟩:=by
   simp only[List.length_set]
   exact hvo
  obtain⟨g',cap',ov1,hvo',hov1,t4',hne',hgl',hcell',hfz',_⟩:=p1.obj hi1
  have hvv:=hvo'
  rw[hvo1] at hvv
  injection hvv with x1 x2 x3
  injection x1 with x1
  injection x1 with x1
  subst x1
  have y9:=hcell' 9 _ rfl
  have y10:=hcell' 10 _ rfl
  simp only at y9 y10
  obtain⟨b0,b1,b2,b3,b4,b5,bfz⟩:=p1.box
  have k0:w3.cell? ⟨gl,n*5,none⟩=some (.string p.key):=by
   rw[hw3,World.cell?_setCell_other _ _ _ _ (by simp),World.cell?_setCell_other _ _ _ _ (by simp),World.cell?_setCell_other _ _ _ _ (by simp)]
   exact d0
  refine⟨⟨cell_of_row w3 w.heap.size 2 _ _ (0,0) hbx2,b3,y9,y10,k0⟩,fun hs => ?_,fun hs => ?_⟩
  ·unfold replH
   rw[if_neg (by rw[hs];simp)]
   exact WentM.behind hB hw0
  ·obtain⟨Ot,ht,hO⟩:=p1.prt 5
   have hO:∀b,Ot b→tg2 b=5:=hO
   refine(Sp.change_any w3.drew B M.tb Ot H.most H.L (ht.below ((Below.refl _ _).drew)) ob.shape p.key d.fl ⟨hwf.ks p (List.mem_of_getElem? hp),hfl.1,hfl.2⟩ (Or.inl (by have:=h.wf.mo;unfold Sp.top;omega))).mono ?_
   rintro e w' ⟨rfl,hq⟩
   refine⟨rfl,?_⟩
   obtain⟨s1,s2⟩:=shape_mid p1 hi1 hvo1 hO hq (Sp.changeD H.most H.L ob.shape p.key d.fl).2.1 (Sp.changeD H.most H.L ob.shape p.key d.fl).2.2
   refine⟨s1,?_⟩
   unfold replH
   rw[if_pos hs]
   simp only[List.set_set] at s2
   exact WentM.behind hB (WentM.next p2 p3 s2)
 have b0:wb.cell? ⟨w.heap.size,0,none⟩=some (.int .u64 d.va):=cell_of_row wb w.heap.size 0 _ _ (0,0) hbx
 have b1:wb.cell? ⟨w.heap.size,1,none⟩=some (.int .u64 d.se):=cell_of_row wb w.heap.size 1 _ _ (0,0) hbx
 have b2:wb.cell? ⟨w.heap.size,2,none⟩=some (.int .i64 d.fl):=cell_of_row wb w.heap.size 2 _ _ (0,0) hbx
 have hnn:(n:Int)<(ob.ps.length:Int):=by omega
 have hlim:(ob.ps.length:Int)≤9223372036854775807:=by unfold maxLen at q3;omega
 generalize hsq:(Sp.changeD H.most H.L ob.shape p.key d.fl).2.1=sh2 at *
 generalize hok:(Sp.changeD H.most H.L ob.shape p.key d.fl).2.2=ok2 at *
 generalize hlh:replH H i ob n p d=HL at *
 generalize ob.ps.length=len at *
 generalize ob.shape=sh at *
 generalize hsd:ob.shaped=sd at *
 generalize M.tb=tb at *
 obtain⟨pk,pc,pv,pse,pf⟩:=p
 unfold deV
 obtain⟨va,se,fl⟩:=d
 simp only at *
 clear h h2 hi hvo hov hwf hp hB hbx htx hil hnl hfz fz hgl t4 hr q2 q3 q4 hc hgl1 hgl2 hgl3 hvl hds hxs hfl hd hsq hok hlh hsd
 go_enter Tryz.func112,Tryz.ntmps112
 go_upto_region 1 with fail
 rw[←hwb]
 clear hwb
 generalize w.heap.size=xb at b0 b1 b2 HA ⊢
 go_upto_region 3 with fail
 rw[←hw3]
 clear hw3 d0 d2 d3 d4 f2 f3 f4 b0 b1 b2 c4
 obtain⟨⟨a0,a1,a2,a3,a4⟩,ano,ayes⟩:=HA.out
 cases sd with
 | false =>
   have HQ:=(show Hid _ from ano rfl)
   clear HA ano ayes
   go_wp2_with fail
   go_end0
   exact⟨rfl,HQ.out⟩
 | true =>
   have ktr:=ayes rfl
   clear HA ano ayes
   go_upto_region 4 with fail
   refine Code.wp_mono ?_ (replReg w3 hb g (i*12) gl (n*5) xb tb sh fl sh2 ok2 pk (fun W=>WentM w B hb tg HL M W) a0 a1 a2 a4 ktr _ _ _ _ _ _ _ _ _ _ _ _ _ _ _ _ _ _ _ _ _ _ _ _ _ _ _ _ _ _ _ _ _ _ _ _ _ _ _ _ _ _ _ _)
   intro e a W hP
   cases e with
   | normal =>
     obtain⟨hdf,hQ⟩:=hP
     have HQ:Hid (WentM w B hb tg HL M W):=hQ
     obtain⟨tm,df⟩:=a
     have hdf:df=[]:=hdf
     subst hdf
     clear ktr a0 a1 a2 a3 a4 hQ
     go_wp2_with fail
     go_end0
     exact⟨rfl,HQ.out⟩
   | _=>exact hP.elim
end
end Go.Proofs.YtahhionlbfhinabGreatDoor.Hp
