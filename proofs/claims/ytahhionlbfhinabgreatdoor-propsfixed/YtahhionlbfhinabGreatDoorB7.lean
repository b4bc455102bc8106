/- HE, HF, HG -/
import Derived.Test.YtahhionlbfhinabGreatDoorB6
set_option linter.unusedVariables false
set_option linter.unusedSimpArgs false
set_option maxRecDepth 100000
set_option maxHeartbeats 40000000
namespace Go.Proofs.YtahhionlbfhinabGreatDoor.Hp
open Go.RowKit
theorem OwnR.at' {β:Type}{enc:β→List Value}{k:Nat}{e:TypeId}{B:Nat}{w:World}{g n cap:Nat}{xs:List β}(hk:∀y,(enc y).length=k)(h:OwnR enc k e B w (.slice (some ⟨g,0,none⟩) n cap) xs){i:Nat}{y:β}(hi:xs[i]?=some y){j:Nat}{u:Value}(hj:(enc y)[j]?=some u) :
  w.cell? ⟨g,i*k+j,none⟩=some u:=by
 rcases h.2 with⟨h1,_⟩ | ⟨g',cap',cur,h1,hb,hg,hnc,hcm,hcs,ht⟩
 ·cases h1
 ·cases h1
  have hf:=flat_at hk xs i y hi j u hj
  rw[cell_of_row w g _ cur e (0,0) hg]
  have hl:=(List.getElem?_eq_some_iff.1 hf).1
  rw[flat_len hk] at hl
  have e1:(cur.toList.take (xs.length*k))[i*k+j]?=some u:=by rw[ht];exact hf
  rw[List.getElem?_take_of_lt hl] at e1
  simpa using e1
theorem OwnR.fz {β:Type}{enc:β→List Value}{k:Nat}{e:TypeId}{B:Nat}{w:World}{g n cap:Nat}{xs:List β}(h:OwnR enc k e B w (.slice (some ⟨g,0,none⟩) n cap) xs)(j:Nat):w.frozen? ⟨g,j,none⟩=false:=by
 rcases h.2 with⟨h1,_⟩ | ⟨g',cap',cur,h1,hb,hg,hnc,hcm,hcs,ht⟩
 ·cases h1
 ·cases h1
  exact frozen_of_row w g j cur e hg
theorem flat_set {β:Type}{enc:β→List Value}{k:Nat}(hk:∀y,(enc y).length=k){y y':β}{j:Nat}{u:Value}(hj:j<k)(he:enc y'=(enc y).set j u) :
  ∀(xs:List β) (i:Nat),xs[i]?=some y→(xs.set i y').flatMap enc=(xs.flatMap enc).set (i*k+j) u
 | [],i,hi=>by simp at hi
 | x :: xs,0,hi=>by
   simp at hi
   subst hi
   rw[List.set_cons_zero,List.flatMap_cons,List.flatMap_cons,Nat.zero_mul,Nat.zero_add,List.set_append_left _ _ (by rw[hk];exact hj),he]
 | x :: xs,i+1,hi=>by
   simp at hi
   rw[List.set_cons_succ,List.flatMap_cons,List.flatMap_cons,flat_set hk hj he xs i hi,List.set_append_right _ _ (by rw[hk,Nat.succ_mul];omega)]
   congr 2
   rw[hk,Nat.succ_mul]
   omega
theorem OwnR.put {β:Type}{enc:β→List Value}{k:Nat}{e:TypeId}{B:Nat}{w:World}{g n cap:Nat}{xs:List β}(hk:∀y,(enc y).length=k)(h:OwnR enc k e B w (.slice (some ⟨g,0,none⟩) n cap) xs){i j:Nat}{y y':β}{u:Value}(hi:xs[i]?=some y)(hj:j<k)(he:enc y'=(enc y).set j u) :
  OwnR enc k e B (w.setCell ⟨g,i*k+j,none⟩ u) (.slice (some ⟨g,0,none⟩) n cap) (xs.set i y'):=by
 rcases h.2 with⟨h1,h0⟩ | ⟨g',cap',cur,h1,hb,hg,hn,hc,hs,ht⟩
 ·cases h1
 ·cases h1
  refine⟨?_,Or.inr ⟨g,cap,cur.setIfInBounds (i*k+j) u,by rw[List.length_set],hb,heap_setCell_same w g (i*k+j) cur e u hg,by rw[List.length_set];exact hn,hc,by rw[Array.size_setIfInBounds];exact hs,?_⟩⟩
  ·rw[flat_len hk]
  ·rw[Array.toList_setIfInBounds,List.length_set,flat_set hk hj he xs i hi,←ht,List.take_set]
theorem zip_set {α β:Type}(a:α)(b:β):∀(xs:List α)(ys:List β)(i:Nat),(xs.set i a).zip (ys.set i b)=(xs.zip ys).set i (a,b)
 | [],ys,i=>by simp
 | x :: xs,[],i=>by simp
 | x :: xs,y :: ys,0=>by simp
 | x :: xs,y :: ys,i+1=>by simp[zip_set a b xs ys i]
theorem zip_at {α β:Type}{xs:List α}{ys:List β}{i:Nat}{a:α}{b:β}(h1:xs[i]?=some a)(h2:ys[i]?=some b):(xs.zip ys)[i]?=some (a,b):=by
 rw[List.getElem?_zip_eq_some]
 exact⟨h1,h2⟩
section
variable {w w5:World}{B hb:Nat}{O S:Nat→Prop}{H:He}{M:HV}{tg:Nat→Nat}
theorem HeapAt.box (h:HeapAt w B hb tg H M):w.cell? ⟨hb,0,none⟩=some M.vt.val∧w.cell? ⟨hb,1,none⟩=some (.map (some M.mb))∧w.cell? ⟨hb,2,none⟩=some M.vo.val∧w.cell? ⟨hb,3,none⟩=some (.pointer (some ⟨M.tb,0,none⟩))∧w.cell? ⟨hb,4,none⟩=some (.pointer (some ⟨M.cb,0,none⟩))∧w.cell? ⟨hb,5,none⟩=some (.int .i64 H.br)∧∀n,w.frozen? ⟨hb,n,none⟩=false:=by
 have hp:=(h.prt 1).2
 refine⟨?_,?_,?_,?_,?_,?_,fun n=>frozen_of_row w hb n _ _ hp⟩ <;> rw[cell_of_row w hb _ _ _ (0,0) hp] <;> rfl
theorem HeapAt.vol (h:HeapAt w B hb tg H M):∃ad cap,M.vo=⟨ad,H.obs.length,cap⟩∧H.obs.length≤cap∧cap≤maxLen:=by
 have hp:RowIn obC 12 _ B w _ M.vo (H.obs.zip M.ovs):=h.prt 4
 have hl:(H.obs.zip M.ovs).length=H.obs.length:=by rw[List.length_zip,h.len];omega
 obtain⟨⟨ad,cap,xs⟩,h1,h2,h3,_⟩:=hp.1.sl rtOb.len
 simp only at h2
 subst h2
 have h4:=h3.len
 have h5:=h3.cap
 simp only[hl] at h4
 rcases hvo:M.vo with⟨ad',n',cap'⟩
 rw[hvo] at h1
 unfold SV.val Sli.val at h1
 injection h1 with e1 e2 e3
 simp only at e1 e2 e3 h5
 subst e3
 exact⟨ad',cap',by rw[e2,hl],h4,h5⟩
theorem HeapAt.obj (h:HeapAt w B hb tg H M){i:Nat}{ob:Ob}(hi:H.obs[i]?=some ob) :
  ∃g cap ov,M.vo=⟨some ⟨g,0,none⟩,H.obs.length,cap⟩∧M.ovs[i]?=some ov∧tg g=4∧g≠hb∧g<w.heap.size∧(∀j u,(obC (ob,ov))[j]?=some u→w.cell? ⟨g,i*12+j,none⟩=some u)∧(∀n,w.frozen? ⟨g,n,none⟩=false)∧H.obs.length≤cap∧cap≤maxLen∧OwnR obC 12 96 B w (.slice (some ⟨g,0,none⟩) H.obs.length cap) (H.obs.zip M.ovs):=by
 have hp:RowIn obC 12 _ B w _ M.vo (H.obs.zip M.ovs):=h.prt 4
 obtain⟨ad,cap,hv,h1,h2⟩:=h.vol
 have hil:i<H.obs.length:=(List.getElem?_eq_some_iff.1 hi).1
 have hov:∃ov,M.ovs[i]?=some ov:=⟨_,List.getElem?_eq_getElem (by rw[h.len];exact hil)⟩
 obtain⟨ov,hov⟩:=hov
 have hz:=zip_at hi hov
 have hr:=hp.1
 have hblk:=hp.2
 rw[hv] at hr hblk
 unfold SV.val at hr hblk
 simp only at hr hblk
 rcases hr.2 with⟨h5,h6⟩ | ⟨g,cap',cur,h5,h6⟩
 ·rw[List.eq_nil_of_length_eq_zero h6] at hz
  simp at hz
 ·injection h5 with e1 e2 e3
  subst e1 e3
  have t4:tg g=4:=hblk g rfl
  have:=h.B0
  refine⟨g,cap,ov,hv,hov,t4,fun e=>by rw[e] at t4;omega,(h.lt g (by omega)).2,fun j u hj=>hr.at' rtOb.len hz hj,fun n=>hr.fz n,h1,h2,hr⟩
theorem HeapAt.put (h:HeapAt w B hb tg H M){i g cap:Nat}{ob:Ob}{ov:OV}(hi:H.obs[i]?=some ob)(hv:M.ovs[i]?=some ov)(hvo:M.vo=⟨some ⟨g,0,none⟩,H.obs.length,cap⟩)(c:Nat)(hc4:c<4)(hc:Chg (fun b=>tg b=7+4*i+c) w w5)
  (ob':Ob) (ov':OV) {j:Nat} {u:Value} (hj:j<12) (he:obC (ob',ov')=(obC (ob,ov)).set j u)
  (hnew:∀O:Nat→Prop,(∀b,b<w.heap.size→tg b=7+4*i+c→O b)→(∀b,w.heap.size≤b→b<w5.heap.size→O b)→ObP w5 B O ob' ov' c)
  (hsame:∀c' (W:World) (O:Nat→Prop),c'<4→c'≠c→ObP W B O ob ov c'→ObP W B O ob' ov' c') (hwf:ob'.wf) :
  HeapAt (w5.setCell ⟨g,i*12+j,none⟩ u) B hb (rtg tg w.heap.size w5.heap.size (7+4*i+c)) { H with obs:=H.obs.set i ob' } { M with ovs:=M.ovs.set i ov' }∧Chg (fun b=>tg b=4∨tg b=7+4*i+c) w (w5.setCell ⟨g,i*12+j,none⟩ u):=by
 have hp:RowIn obC 12 _ B w _ M.vo (H.obs.zip M.ovs):=h.prt 4
 have hz:=zip_at hi hv
 have hr:=hp.1
 have hblk:=hp.2
 rw[hvo] at hr hblk
 unfold SV.val at hr hblk
 simp only at hr hblk
 have t4:tg g=4:=hblk g rfl
 have hg:g<w.heap.size:=(h.lt g (by omega)).2
 have hsz:(w5.setCell ⟨g,i*12+j,none⟩ u).heap.size=w5.heap.size:=by simp
 have hcc:Chg (fun b=>tg b=4∨tg b=7+4*i+c) w (w5.setCell ⟨g,i*12+j,none⟩ u):=(hc.mono (fun b q=>Or.inr q)).trans (Chg.set (S:=fun b=>b=g) w5 ⟨g,i*12+j,none⟩ u rfl) (fun b _ q=>Or.inl (by rw[show b=g from q];exact t4))
 have hset:Chg (fun b=>b=g) w5 (w5.setCell ⟨g,i*12+j,none⟩ u):=Chg.set (S:=fun b=>b=g) w5 ⟨g,i*12+j,none⟩ u rfl
 refine⟨?_,hcc⟩
 have key:=h.up (H':={ H with obs:=H.obs.set i ob' }) (M':={ M with ovs:=M.ovs.set i ov' }) hcc (fun k=>k=4∨k=7+4*i+c) (7+4*i+c) (fun b _ q=>⟨q,by omega⟩) (fun k q => ?_) (fun k O q hk => ?_) (by simp only[List.length_set];exact h.len) ⟨?_,by simp only[List.length_set];exact h.wf.ol,h.wf.tn,h.wf.ts,h.wf.tl,h.wf.mo,h.wf.br⟩
 ·rw[hsz] at key
  exact key
 ·rw[hsz]
  rcases q with rfl | rfl
  ·show RowIn obC 12 _ B _ _ M.vo ((H.obs.set i ob').zip (M.ovs.set i ov'))
   rw[zip_set,hvo]
   have hr5:OwnR obC 12 96 B w5 (.slice (some ⟨g,0,none⟩) H.obs.length cap) (H.obs.zip M.ovs):=hr.kept hc (fun b q s=>by have:=hblk b q;omega)
   refine⟨hr5.put rtOb.len hz hj he,fun b q => ?_⟩
   have hbg:b=g:=by simpa [SV.val,Value.ownBlock] using q.symm
   show rtg tg w.heap.size w5.heap.size (7+4*i+c) b=4
   rw[hbg,rtg_old hg]
   exact t4
  ·rw[show 7+4*i+c=(4*i+c)+7 by omega]
   intro ob1 ov1 e1 e2
   rw[show(4*i+c) / 4=i by omega] at e1 e2
   rw[show(4*i+c) % 4=c by omega]
   have hil:i<H.obs.length:=(List.getElem?_eq_some_iff.1 hi).1
   have hil2:i<M.ovs.length:=(List.getElem?_eq_some_iff.1 hv).1
   have e1':(H.obs.set i ob')[i]?=some ob1:=e1
   have e2':(M.ovs.set i ov')[i]?=some ov1:=e2
   rw[List.getElem?_set_self hil] at e1'
   rw[List.getElem?_set_self hil2] at e2'
   cases e1'
   cases e2'
   refine ObP.mono (O:=fun b=>rtg tg w.heap.size w5.heap.size (4*i+c+7) b=4*i+c+7∧b≠g) c (ObP.kept c (hnew _ (fun b h1 h2=>⟨by rw[rtg_old h1];omega,fun e=>by rw[e] at h2;omega⟩) (fun b h1 h2=>⟨rtg_new h1 h2,by omega⟩)) hset (fun b q=>q.2)) (fun b _ q=>q.1)
 ·match k,hk,q with
  | 0,hk,q=>trivial
  | 1,hk,q=>exact hk
  | 2,hk,q=>exact hk
  | 3,hk,q=>exact hk
  | 4,hk,q=>exact absurd (Or.inl rfl) q
  | 5,hk,q=>exact hk
  | 6,hk,q=>exact hk
  | k+7,hk,q =>
    intro ob1 ov1 e1 e2
    have e1':(H.obs.set i ob')[k / 4]?=some ob1:=e1
    have e2':(M.ovs.set i ov')[k / 4]?=some ov1:=e2
    by_cases c2:i=k / 4
    ·have hil:i<H.obs.length:=(List.getElem?_eq_some_iff.1 hi).1
     have hil2:i<M.ovs.length:=(List.getElem?_eq_some_iff.1 hv).1
     rw[←c2,List.getElem?_set_self hil] at e1'
     rw[←c2,List.getElem?_set_self hil2] at e2'
     cases e1'
     cases e2'
     exact hsame (k % 4) _ O (by omega) (fun e=>q (Or.inr (by omega))) (hk ob ov (by rw[←c2];exact hi) (by rw[←c2];exact hv))
    ·rw[List.getElem?_set_ne c2] at e1' e2'
     exact hk ob1 ov1 e1' e2'
 ·intro o ho
  rcases List.mem_or_eq_of_mem_set ho with q | q
  ·exact h.wf.ob o q
  ·rw[q];exact hwf
theorem HeapAt.fld (h:HeapAt w B hb tg H M){i g cap:Nat}{ob:Ob}{ov:OV}(hi:H.obs[i]?=some ob)(hv:M.ovs[i]?=some ov)(hvo:M.vo=⟨some ⟨g,0,none⟩,H.obs.length,cap⟩)
  (ob':Ob) {j:Nat} {u:Value} (hj:j<12) (he:obC (ob',ov)=(obC (ob,ov)).set j u) (h1:ob'.ps=ob.ps) (h2:ob'.el=ob.el) (h3:ob'.inn=ob.inn) (hwf:ob'.wf) (h4:ob'.hm=ob.hm:=by rfl) (h5:ob'.mp=ob.mp:=by rfl) :
  HeapAt (w.setCell ⟨g,i*12+j,none⟩ u) B hb tg { H with obs:=H.obs.set i ob' } M∧Chg (fun b=>tg b=4) w (w.setCell ⟨g,i*12+j,none⟩ u):=by
 have t4:tg g=4:=by
  have hp:RowIn obC 12 _ B w _ M.vo (H.obs.zip M.ovs):=h.prt 4
  have hblk:=hp.2
  rw[hvo] at hblk
  exact hblk g rfl
 have hob:∀c W (O:Nat→Prop),ObP W B O ob ov c→ObP W B O ob' ov c:=by
  intro c W O q
  match c,q with
  | 0,q=>show RowIn _ _ _ _ _ _ _ ob'.ps;rw[h1];exact q
  | 1,q=>show ov.vm.isSome=ob'.hm∧∀mb,ov.vm=some mb→_∧MpIs _ _ _ ob'.mp;rw[h4,h5];exact q
  | 2,q=>show RowIn _ _ _ _ _ _ _ ob'.el;rw[h2];exact q
  | c+3,q=>show RowIn _ _ _ _ _ _ _ ob'.inn;rw[h3];exact q
 obtain⟨k1,k2⟩:=h.put hi hv hvo 0 (by omega) (Chg.refl _ w) ob' ov hj he (fun O q1 q2=>by
  have hp:=h.prt ((4*i)+7)
  have hp2:=hp ob ov (by rw[show 4*i / 4=i by omega];exact hi) (by rw[show 4*i / 4=i by omega];exact hv)
  rw[show 4*i % 4=0 by omega] at hp2
  exact ObP.mono 0 (hob 0 w _ hp2) (fun b hb q=>q1 b hb (by omega))) (fun c' W O _ _ q=>hob c' W O q) hwf
 refine⟨?_,Chg.set (S:=fun b=>tg b=4) w ⟨g,i*12+j,none⟩ u t4⟩
 have hrt:rtg tg w.heap.size w.heap.size (7+4*i+0)=tg:=by
  funext b
  unfold rtg
  by_cases c:b<w.heap.size
  ·rw[if_pos c]
  ·rw[if_neg c,if_neg c]
   by_cases c2:tg b=0
   ·exact c2.symm
   ·exact absurd (h.lt b c2).2 c
 rw[hrt] at k1
 have hset:M.ovs.set i ov=M.ovs:=by
  have:=(List.getElem?_eq_some_iff.1 hv)
  obtain⟨a,b⟩:=this
  rw[←b]
  exact List.set_getElem_self a
 rw[hset] at k1
 exact k1
end
section
variable {w:World}{B hb:Nat}{O S:Nat→Prop}{H:He}{M:HV}{tg:Nat→Nat}
theorem objects_at (h:HeapAt w B hb tg H M):Calls Tryz.prog 86 #[.pointer (some ⟨hb,0,none⟩)] w fun e w'=>e = .returned (.int .i64 (H.obs.length:Int))∧w'=w:=by
 obtain⟨c0,c1,c2,c3,c4,c5,fz⟩:=h.box
 obtain⟨ad,cap,hv,h1,h2⟩:=h.vol
 rw[hv] at c2
 unfold SV.val at c2
 simp only at c2
 clear h hv h1 h2 fz
 go_enter Tryz.func86,Tryz.ntmps86
 go_wp2_with fail
 go_ret
 exact⟨rfl,rfl⟩
theorem made_at (h:HeapAt w B hb tg H M):Calls Tryz.prog 49 #[.pointer (some ⟨hb,0,none⟩)] w fun e w'=>e = .returned (.bool true)∧w'=w:=by
 obtain⟨c0,c1,c2,c3,c4,c5,fz⟩:=h.box
 have q51:∀(w:World) (r:Option Nat),(binOp .eql 97 (.map r) (.map none)).run Tryz.prog w = .ok (.bool r.isNone) w:=fun w r=>run_eql_map_nil w _ _ _ r Tryz.underlying97
 clear h c0 c2 c3 c4 c5 fz
 go_enter Tryz.func49,Tryz.ntmps49
 go_wp2_with fail
 go_ret
 exact⟨rfl,rfl⟩
def obI (H:He)(o:Int):Option Nat:=if isT o 65530=true∧payN o 65530<(H.obs.length:Int) then some (payN o 65530).toNat else none
theorem obI_some {H:He}{o:Int}{i:Nat}(h:obI H o=some i):isT o 65530=true∧payN o 65530=(i:Int)∧i<H.obs.length∧o=objW (i:Int):=by
 unfold obI at h
 split at h
 ·rename_i c
  have:=payN_bd o 65530
  have e:payN o 65530=(i:Int):=by
   have:=Option.some.inj h
   omega
  refine⟨c.1,e,by omega,?_⟩
  rw[obj_of o c.1,e]
 ·cases h
theorem obI_none {H:He}{o:Int}(h:obI H o=none)(ht:isT o 65530=true):(H.obs.length:Int)≤payN o 65530:=by
 unfold obI at h
 split at h
 ·cases h
 ·rename_i c
  rcases Int.lt_or_le (payN o 65530) (H.obs.length:Int) with q | q
  ·exact absurd ⟨ht,q⟩ c
  ·exact q
theorem obI_of {H:He}{i:Nat}(hi:i<H.obs.length)(hl:H.obs.length≤65536):obI H (objW (i:Int))=some i:=by
 have h:=isT_obj (i:Int) (by omega) (by omega)
 unfold obI
 rw[h.1,h.2,if_pos ⟨rfl,by omega⟩]
 simp
theorem at_hit (h:HeapAt w B hb tg H M)(o:Int)(o0:0≤o)(o1:o<18446744073709551616)(i g cap:Nat)(hi:obI H o=some i)(hvo:M.vo=⟨some ⟨g,0,none⟩,H.obs.length,cap⟩) :
  Calls Tryz.prog 45 #[.pointer (some ⟨hb,0,none⟩),.int .u64 o] w fun e w'=>e = .returned (.pointer (some ⟨g,i*12,none⟩))∧w'=w:=by
 obtain⟨k1,k2,k3,k4⟩:=obI_some hi
 have c:=isObject_any o w o0 o1
 rw[k1,k2] at c
 have ko:=objects_at h
 obtain⟨c0,c1,c2,c3,c4,c5,fz⟩:=h.box
 obtain⟨ad,cap',hv,h1,h2⟩:=h.vol
 rw[hvo] at c2
 unfold SV.val at c2
 simp only at c2
 have hol:=h.wf.ol
 have hil:(i:Int)<(H.obs.length:Int):=by omega
 have hlim:(H.obs.length:Int)≤65536:=by omega
 generalize H.obs.length=n at *
 have hd:¬((n:Int)≤(i:Int)):=by omega
 clear h hi k1 k2 k4 hv hvo fz c0 c1 c3 c4 c5 h1 h2 k3 hol
 go_enter Tryz.func45,Tryz.ntmps45
 go_wp2_with fail
 refine c.mono ?_
 rintro e w2 ⟨rfl,rfl⟩
 clear c
 go_wp2_with fail
 refine ko.mono ?_
 rintro e w2 ⟨rfl,rfl⟩
 clear ko
 go_wp2_with fail
 go_ret
 exact⟨rfl,rfl⟩
theorem at_miss (h:HeapAt w B hb tg H M)(o:Int)(o0:0≤o)(o1:o<18446744073709551616)(hi:obI H o=none) :
  Calls Tryz.prog 45 #[.pointer (some ⟨hb,0,none⟩),.int .u64 o] w fun e w'=>e = .returned (.pointer none)∧w'=w:=by
 have c:=isObject_any o w o0 o1
 have ko:=objects_at h
 have hol:=h.wf.ol
 have hbd:=payN_bd o 65530
 cases ht:isT o 65530 with
 | false =>
   rw[ht] at c
   generalize payN o 65530=x at *
   clear h hi ko hol ht
   go_enter Tryz.func45,Tryz.ntmps45
   go_wp2_with fail
   refine c.mono ?_
   rintro e w2 ⟨rfl,rfl⟩
   clear c
   go_wp2_with fail
   go_ret
   exact⟨rfl,rfl⟩
 | true =>
   rw[ht] at c
   have hle:=obI_none hi ht
   generalize payN o 65530=x at *
   have hlim:(H.obs.length:Int)≤65536:=by omega
   generalize H.obs.length=n at *
   clear h hi ht hol
   go_enter Tryz.func45,Tryz.ntmps45
   go_wp2_with fail
   refine c.mono ?_
   rintro e w2 ⟨rfl,rfl⟩
   clear c
   go_wp2_with fail
   refine ko.mono ?_
   rintro e w2 ⟨rfl,rfl⟩
   clear ko
   go_wp2_with fail
   go_ret
   exact⟨rfl,rfl⟩
end
theorem tree_low {w:World}{B B' tb:Nat}{O:Nat→Prop}{most:Int}{L:List Sp.Sh}(h:Sp.Tree w B tb O most L)(hB:B'≤B):Sp.Tree w B' tb O most L:=by
 obtain⟨T,v,mb,h⟩:=h
 exact⟨T,v,mb,h.box,h.own.low hB,h.map,h.rel,h.wf,h.cap,Nat.le_trans hB h.b1,Nat.le_trans hB h.b2,h.n1,h.n2,h.n3,h.os⟩
theorem cs_low {w:World}{B B' cb:Nat}{O:Nat→Prop}{l:List Ce.Cel}(h:Ce.Cs w B cb O l)(hB:B'≤B):Ce.Cs w B' cb O l:=by
 obtain⟨E,v,h1,h2⟩:=h
 exact⟨E,v,⟨h1.box,h1.own.low hB,Nat.le_trans hB h1.b1,h1.n2,h1.os⟩,h2⟩
theorem treeOf_any (w:World)(m k:Int)(hk:k=if m≤256 then m else 256) :
  Calls Tryz.prog 46 #[.int .i64 m] w fun e w'=>∃tb O,e = .returned (.pointer (some ⟨tb,0,none⟩))∧Sp.Tree w' w.heap.size tb O k []∧Below w.heap.size w w':=by
 have kc:=Sp.new_any w k
 by_cases c:m≤256
 ·rw[if_pos c] at hk
  subst hk
  have h1:min k 256=k:=by omega
  go_enter Tryz.func46,Tryz.ntmps46
  go_wp2_with fail
  refine kc.mono ?_
  rintro e w2 ⟨tb,O,rfl,h1,h2⟩
  clear kc
  go_wp2_with fail
  go_ret
  exact⟨tb,O,rfl,h1,h2⟩
 ·rw[if_neg c] at hk
  subst hk
  have h1:min m 256=256:=by omega
  go_enter Tryz.func46,Tryz.ntmps46
  go_wp2_with fail
  refine kc.mono ?_
  rintro e w2 ⟨tb,O,rfl,h1,h2⟩
  clear kc
  go_wp2_with fail
  go_ret
  exact⟨tb,O,rfl,h1,h2⟩
def He.new (m:Int):He:=⟨[],[],if m≤256 then m else 256,[],[],0⟩
theorem He.new_wf (m:Int):(He.new m).wf:=⟨fun o h=>by simp[He.new] at h,by simp[He.new],by simp[He.new],fun o h=>by simp[He.new] at h,by simp[He.new],by simp only[He.new];split <;> omega,by simp[He.new]⟩
open Classical in
theorem heap_new (w w2 w3:World)(m:Int)(tb cb:Nat)(Ot Oc:Nat→Prop)(ht:Sp.Tree w2 (w.alloc (.map #[] 0)).heap.size tb Ot (if m≤256 then m else 256) [])(hb2:Below (w.alloc (.map #[] 0)).heap.size (w.alloc (.map #[] 0)) w2)(hcs:Ce.Cs w3 w2.heap.size cb Oc [])(hb3:Below w2.heap.size w2 w3) :
  ∃O,Heap (w3.alloc (.cells #[.slice none 0 0,.map (some w.heap.size),.slice none 0 0,.pointer (some ⟨tb,0,none⟩),.pointer (some ⟨cb,0,none⟩),.int .i64 0] 104)) w.heap.size w3.heap.size O (He.new m)∧Below w.heap.size w (w3.alloc (.cells #[.slice none 0 0,.map (some w.heap.size),.slice none 0 0,.pointer (some ⟨tb,0,none⟩),.pointer (some ⟨cb,0,none⟩),.int .i64 0] 104)):=by
 generalize hw4:w3.alloc (.cells #[.slice none 0 0,.map (some w.heap.size),.slice none 0 0,.pointer (some ⟨tb,0,none⟩),.pointer (some ⟨cb,0,none⟩),.int .i64 0] 104)=w4
 have s1:=size_new w (.map #[] 0)
 have l2:=ht.lt
 have l3:=hcs.lt
 have z2:=hb2.size
 have z3:=hb3.size
 have b4:Below w3.heap.size w3 w4:=by rw[←hw4];exact(Below.refl _ _).alloc (Nat.le_refl _) _
 have z4:w4.heap.size=w3.heap.size+1:=by rw[←hw4,size_new]
 have e0:w4.heap[w3.heap.size]?=some (.cells #[.slice none 0 0,.map (some w.heap.size),.slice none 0 0,.pointer (some ⟨tb,0,none⟩),.pointer (some ⟨cb,0,none⟩),.int .i64 0] 104 (0,0)):=by rw[←hw4];exact at_new _ _
 have em:w4.heap[w.heap.size]?=some (.map #[] 0):=by
  rw[b4.block _ (by omega),hb3.block _ (by omega),hb2.block _ (by omega)]
  exact at_new _ _
 have ht4:Sp.Tree w4 w.heap.size tb Ot (if m≤256 then m else 256) []:=tree_low ((ht.below hb3).below b4) (by omega)
 have hc4:Ce.Cs w4 w.heap.size cb Oc []:=cs_low (hcs.below b4) (by omega)
 let tg:Nat→Nat:=fun b=>if b=w3.heap.size then 1 else if b=w.heap.size then 3 else if Ot b then 5 else if Oc b then 6 else 0
 have t1:tg w3.heap.size=1:=if_pos rfl
 have t3:tg w.heap.size=3:=by
  show(if _ then _ else _)=3
  rw[if_neg (by omega),if_pos rfl]
 have t5:∀b,Ot b→tg b=5:=fun b q=>by
  have:=l2 b q
  show(if _ then _ else _)=5
  rw[if_neg (by omega),if_neg (by omega),if_pos q]
 have t6:∀b,Oc b→tg b=6:=fun b q=>by
  have:=l3 b q
  show(if _ then _ else _)=6
  rw[if_neg (by omega),if_neg (by omega),if_neg (fun q2=>by have:=l2 b q2;omega),if_pos q]
 refine⟨fun b=>tg b≠0,⟨tg,⟨.nil,w.heap.size,.nil,tb,cb,[]⟩,⟨fun j => ?_,fun b q => ?_,rfl,He.new_wf m⟩,fun b=>Iff.rfl⟩,?_⟩
 ·match j with
  | 0=>trivial
  | 1=>exact⟨t1,e0⟩
  | 2=>exact⟨OwnR.nil _ _,fun b q=>by simp[SV.nil,SV.val,Value.ownBlock] at q⟩
  | 3=>exact⟨t3,#[],0,em,rfl⟩
  | 4=>exact⟨OwnR.nil _ _,fun b q=>by simp[SV.nil,SV.val,Value.ownBlock] at q⟩
  | 5=>exact⟨Ot,ht4,t5⟩
  | 6=>exact⟨Oc,hc4,t6⟩
  | j+7=>exact fun ob ov e1 _=>by simp[He.new] at e1
 ·have q:(if b=w3.heap.size then 1 else if b=w.heap.size then 3 else if Ot b then 5 else if Oc b then 6 else 0)≠0:=q
  by_cases c1:b=w3.heap.size
  ·omega
  ·by_cases c2:b=w.heap.size
   ·omega
   ·by_cases c3:Ot b
    ·have:=l2 b c3;omega
    ·by_cases c4:Oc b
     ·have:=l3 b c4;omega
     ·rw[if_neg c1,if_neg c2,if_neg c3,if_neg c4] at q
      exact absurd rfl q
 ·refine⟨?_,?_,?_,by omega,fun k hk => ?_⟩
  ·rw[b4.os,hb3.os,hb2.os];rfl
  ·rw[b4.tape,hb3.tape,hb2.tape];rfl
  ·rw[b4.output,hb3.output,hb2.output];rfl
  ·rw[b4.block k (by omega),hb3.block k (by omega),hb2.block k (by omega)]
   show(w.heap.push _)[k]?=_
   rw[Array.getElem?_push,if_neg (by omega)]
theorem new_any (w:World)(m:Int) :
  Calls Tryz.prog 17 #[.int .i64 m] w fun e w'=>∃hb O,e = .returned (.pointer (some ⟨hb,0,none⟩))∧Heap w' w.heap.size hb O (He.new m)∧Below w.heap.size w w':=by
 have hmm:(Instr.makeMap 97 none).run Tryz.prog w = .ok (.map (some w.heap.size)) (w.alloc (.map #[] 0)):=rfl
 have kt:=treeOf_any (w.alloc (.map #[] 0)) m _ rfl
 have HK:Hid (∀w2 w3 tb cb Ot Oc,Sp.Tree w2 (w.alloc (.map #[] 0)).heap.size tb Ot (if m≤256 then m else 256) []→Below (w.alloc (.map #[] 0)).heap.size (w.alloc (.map #[] 0)) w2→Ce.Cs w3 w2.heap.size cb Oc []→Below w2.heap.size w2 w3→∃O,Heap (w3.alloc (.cells #[.slice none 0 0,.map (some w.heap.size),.slice none 0 0,.pointer (some ⟨tb,0,none⟩),.pointer (some ⟨cb,0,none⟩),.int .i64 0] 104)) w.heap.size w3.heap.size O (He.new m)∧Below w.heap.size w (w3.alloc (.cells #[.slice none 0 0,.map (some w.heap.size),.slice none 0 0,.pointer (some ⟨tb,0,none⟩),.pointer (some ⟨cb,0,none⟩),.int .i64 0] 104))):=fun w2 w3 tb cb Ot Oc h1 h2 h3 h4=>heap_new w w2 w3 m tb cb Ot Oc h1 h2 h3 h4
 generalize (if m≤256 then m else 256)=k at *
 generalize He.new m=H0 at *
 go_enter Tryz.func17,Tryz.ntmps17
 go_wp2_with fail
 refine kt.mono ?_
 rintro e w2 ⟨tb,Ot,rfl,h1,h2⟩
 have HA:Hid (Sp.Tree w2 (w.alloc (.map #[] 0)).heap.size tb Ot k []∧Below (w.alloc (.map #[] 0)).heap.size (w.alloc (.map #[] 0)) w2):=⟨h1,h2⟩
 clear h1 h2 kt
 go_wp2_with fail
 refine(Ce.new_any _).mono ?_
 rintro e w3 ⟨rfl,h3,h4⟩
 have HC:Hid (∃O,Heap (w3.alloc (.cells #[.slice none 0 0,.map (some w.heap.size),.slice none 0 0,.pointer (some ⟨tb,0,none⟩),.pointer (some ⟨w2.heap.size,0,none⟩),.int .i64 0] 104)) w.heap.size w3.heap.size O H0∧Below w.heap.size w (w3.alloc (.cells #[.slice none 0 0,.map (some w.heap.size),.slice none 0 0,.pointer (some ⟨tb,0,none⟩),.pointer (some ⟨w2.heap.size,0,none⟩),.int .i64 0] 104))):=HK.out _ _ _ _ _ _ HA.out.1 HA.out.2 h3 h4
 clear h3 h4 HA HK
 go_wp2_with fail
 go_ret
 obtain⟨O,k1,k2⟩:=HC.out
 exact⟨_,O,rfl,k1,k2⟩
end Go.Proofs.YtahhionlbfhinabGreatDoor.Hp
