/- ZN -/
import Derived.Test.YtihmdcdifakepaaGreatB23
import Derived.Test.YtihmdcdifakepaaGreatB24
set_option linter.unusedVariables false
set_option linter.unusedSimpArgs false
set_option maxRecDepth 100000
set_option maxHeartbeats 40000000
namespace Go.Proofs.YtihmdcdifakepaaGreat.Rv.Rx
open Go.RowKit Go.Proofs.YtihmdcdifakepaaGreat.Sc Go.Proofs.YtihmdcdifakepaaGreat.Rz
theorem pars_snoc {α:Type}(nd:α→Nd):∀(l:List α)(k:α)(s:Rz.RS),parsP nd (l++[k]) s=(parsP nd l s).bind (declP (nd k).name (nd k).pl 3)
 | [],k,s=>by
   show(declP (nd k).name (nd k).pl 3 s).bind (parsP nd [])=declP (nd k).name (nd k).pl 3 s
   cases declP (nd k).name (nd k).pl 3 s <;> rfl
 | x :: l,k,s=>by
   show(declP (nd x).name (nd x).pl 3 s).bind (parsP nd (l++[k]))=((declP (nd x).name (nd x).pl 3 s).bind (parsP nd l)).bind (declP (nd k).name (nd k).pl 3)
   cases declP (nd x).name (nd x).pl 3 s with
   | error e=>rfl
   | ok s1=>exact pars_snoc nd l k s1
theorem enter_blk (x:Nd)(m:Nat)(s:Rz.RS):(enterR x m s).blocks.length=s.blocks.length+(if selfB x=true then 2 else 1):=by
 rw[enter_eq]
 by_cases c:selfB x=true
 ·rw[if_pos c,if_pos c];unfold openP putVarP beginR;simp
 ·rw[if_neg c,if_neg c];unfold openP beginR;simp
structure PaD {n:Nat}(W0 w:World)(wb:Nat)(O:Nat→Prop)(s:Rz.RS)(a:Int)(v6:Value)(xs:List (Tr n))(i:Nat)(wr:World):Prop where
 le:i≤xs.length
 st:∃s1 c1 a1,Told (2*i) (parsP (ndR n) (xs.take i) s) s 0 a s1 c1 a1∧RWent w W0.heap.size wb O s1 c1 a1 v6 wr
theorem PaD.step {n:Nat}{W0 w:World}{wb:Nat}{O:Nat→Prop}{s:Rz.RS}{a:Int}{v6:Value}{xs:List (Tr n)}{i:Nat}{wr:World}{s0:Rz.RS}{c0 a0:Int}(h0:OnD W0 wb O s0 c0 a0 v6 w)(k:PaD W0 w wb O s a v6 xs i wr){t:Tr n}(ht:xs[i]?=some t)(hs:(ndT n t).name.size≤maxLen)(hb:cr s+2*xs.length≤lim)(hm:1≤s.blocks.length){wc:World}(hc:Below wr.heap.size wr wc) :
  Calls Tryz.prog 19 #[.pointer (some ⟨wb,0,none⟩),.string (ndT n t).name,.int .i64 (ndT n t).pl,.int .i64 3] wc fun e w'=>e = .returned (.tuple #[])∧PaD W0 w wb O s a v6 xs (i+1) w':=by
 have hil:i<xs.length:=(List.getElem?_eq_some_iff.1 ht).1
 obtain⟨s1,c1,a1,ht1,hw⟩:=k.st
 have hcr:=ht1.cr
 have hbl:=ht1.lk.blen
 refine(relT h0 (hw.then hc) fun O1 o1=>declare_any wc W0.heap.size wb O1 s1 c1 a1 v6 o1.mem (by unfold lim at hb;omega) (by omega) (ndT n t).name hs (ndT n t).pl 3).mono ?_
 rintro e w' ⟨he,s2,c2,a2,ht2,hw2⟩
 refine⟨he,hil,s2,c2,a2,?_,hw2⟩
 rw[List.take_add_one,ht,Option.toList_some,pars_snoc]
 refine(Told.bind (f:=parsP (ndR n) (xs.take i)) (g:=declP (ndR n t).name (ndR n t).pl 3) (k':=2) ht1 ?_).mono (by omega)
 rw[nd_same]
 exact ht2
theorem function_any (W0:World)(n:Nat)(hB:BlC W0 n)(x:Nd)(b off kc:Nat)(ps:List (Tr n))(bd:Tr n)(hso:Sli.ok (encT n) 6 W0 ⟨some ⟨b,off,none⟩,kc,ps++[bd]⟩)(hks:∀y∈ps++[bd],okD n W0 y)(hxn:x.name.size≤maxLen)(w:World)(wb:Nat)(O:Nat→Prop)(s:Rz.RS)(a:Int)(v6:Value)(h:OnD W0 wb O s 0 a v6 w)(hb:cr s+8*(1+((ps++[bd]).map (szT n)).sum)≤lim+2)(hd:dp s+4*n+4≤lim) :
  Calls Tryz.prog 35 #[.pointer (some ⟨wb,0,none⟩),.agg #[.int .i64 x.kind,.int .i64 x.pl,.string x.name,.int .u64 x.num,.string x.op,.slice (some ⟨b,off,none⟩) (ps.length+1) kc]] w (Tl w W0.heap.size wb O v6 (8*(1+((ps++[bd]).map (szT n)).sum) - 2) (functionR (ndR n) (resR bi n).2.2 x (ps++[bd]) s) s 0 a):=by
 obtain⟨wn,hwn⟩:∃wn,wn=w.alloc (.cells #[.int .i64 x.kind,.int .i64 x.pl,.string x.name,.int .u64 x.num,.string x.op,.slice (some ⟨b,off,none⟩) (ps.length+1) kc] 25):=⟨_,rfl⟩
 have hbl:Below w.heap.size w wn:=by rw[hwn];exact below_new (Below.refl _ _) (Nat.le_refl _) _
 have hX:wn.heap[w.heap.size]?=some (.cells #[.int .i64 x.kind,.int .i64 x.pl,.string x.name,.int .u64 x.num,.string x.op,.slice (some ⟨b,off,none⟩) (ps.length+1) kc] 25 (0,0)):=by rw[hwn];exact at_new _ _
 have hn:=h.below hbl
 obtain⟨ad6,cap6,hv6⟩:∃ad cap,v6 = .slice ad s.labels.length cap:=by
  obtain⟨tg,M,hA,_,hv,_⟩:=hn.mem
  have r6:RowIn lbC 2 103 W0.heap.size wn (fun b=>tg b=6) M.v6 s.labels:=hA.prt 6
  obtain⟨ad,cap,hv2,_,_,_⟩:=own_slice r6.1
  exact⟨ad,cap,by rw[←hv,hv2]⟩
 subst hv6
 have c7:=hn.mem.box.2.2.2.1
 have c4:=hn.mem.box.1
 have c5:=hn.mem.box.2.1
 have c6:=hn.mem.box.2.2.1
 have hfz:=hn.mem.box.2.2.2.2.2
 have hgd:=hn.mem.gd
 have HXC:Hid (∀W:World,W.heap[w.heap.size]?=wn.heap[w.heap.size]?→W.cell? ⟨w.heap.size,0,none⟩=some (.int .i64 x.kind)∧W.cell? ⟨w.heap.size,1,none⟩=some (.int .i64 x.pl)∧W.cell? ⟨w.heap.size,2,none⟩=some (.string x.name)∧W.cell? ⟨w.heap.size,5,none⟩=some (.slice (some ⟨b,off,none⟩) (ps.length+1) kc)):=fun W q=>by
  refine⟨?_,?_,?_,?_⟩ <;> (rw[cell_of_row W w.heap.size _ _ 25 (0,0) (q.trans hX)];rfl)
 obtain⟨P,hP⟩:∃P,P=Tl w W0.heap.size wb O (.slice ad6 s.labels.length cap6) (8*(1+((ps++[bd]).map (szT n)).sum) - 2) (functionR (ndR n) (resR bi n).2.2 x (ps++[bd]) s) s 0 a:=⟨_,rfl⟩
 rw[←hP]
 have HP:Hid (P=Tl w W0.heap.size wb O (.slice ad6 s.labels.length cap6) (8*(1+((ps++[bd]).map (szT n)).sum) - 2) (functionR (ndR n) (resR bi n).2.2 x (ps++[bd]) s) s 0 a):=hP
 have hsum:((ps++[bd]).map (szT n)).sum=(ps.map (szT n)).sum+szT n bd:=by simp
 have hpl:=sum_len (szT n) (sz_pos n) ps
 have hbd:=sz_pos n bd
 rw[hsum] at hb
 have hmy:ps.length≤100000000:=by unfold lim at hb;omega
 have hscl:=hgd.scl
 have HN:Hid (OnD W0 wb O s 0 a (.slice ad6 s.labels.length cap6) wn∧Below w.heap.size w wn∧w.heap.size<wn.heap.size∧OnD W0 wb O s 0 a (.slice ad6 s.labels.length cap6) w∧s.fn<s.scopes.length):=⟨hn,hbl,by rw[hwn,size_new];omega,h,hgd.fnl⟩
 have hwm:IntKind.i64.wrap ((ps.length:Int)+1 - 1)=(ps.length:Int):=by rw[IntKind.wrap_i64];omega
 by_cases hs:s.scopes.length=200
 ·obtain⟨tg,M,hA,_,hv6,hO⟩:=hn.mem
  have r2:RowIn scpC 4 53 W0.heap.size wn (fun b=>tg b=2) M.v0 s.scopes:=hA.prt 2
  obtain⟨ad,cap,hv0,_,_,_⟩:=own_slice r2.1
  have c0:=hA.box.1
  rw[hv0,hs] at c0
  have x1:=(HXC.out wn rfl).2.1
  have kf:=fail_any wn W0.heap.size wb O s a (.slice ad6 s.labels.length cap6) hn.mem x.pl 72
  have HBAD:Hid (∀w',RWent wn W0.heap.size wb O s 72 x.pl (.slice ad6 s.labels.length cap6) w'→P (.returned (.tuple #[])) w'):=fun w' hw=>by
   rw[hP]
   refine⟨rfl,s,72,x.pl,⟨Lk.refl s,by omega,fun e=>absurd rfl e,fun _ => ?_⟩,hw.behind hbl⟩
   unfold functionR
   rw[if_pos hs]
   exact⟨rfl,rfl,by decide⟩
  clear h hX hbl hP hb hd hso hks hxn hB hn hA r2 hv0 hO hv6 HXC HP HN hsum hgd hs c4 c5 c6 hfz hpl hbd hmy hscl hwm
  go_enter Tryz.func35,Tryz.ntmps35
  go_upto_region 1 with fail
  rw[←hwn]
  clear hwn
  go_wp2_with fail
  refine kf.mono ?_
  rintro e w1 ⟨rfl,hw⟩
  have HE:Hid (P (.returned (.tuple #[])) w1):=HBAD.out w1 hw
  clear kf hw HBAD
  go_wp2_with fail
  go_end0
  exact HE.out
 ·have hlt:s.scopes.length<200:=by omega
  obtain⟨w4,h4⟩:∃w4,w4=wn.setCell ⟨wb,4,none⟩ (.int .i64 (s.scopes.length:Int)):=⟨_,rfl⟩
  obtain⟨w5,h5⟩:∃w5,w5=w4.setCell ⟨wb,5,none⟩ (.slice none 0 0):=⟨_,rfl⟩
  obtain⟨w6,h6⟩:∃w6,w6=w5.setCell ⟨wb,6,none⟩ (.int .i64 0):=⟨_,rfl⟩
  obtain⟨ad,cap,c0,k0,hc6,hrow,hfz6,hbk,hent⟩:=hn.mem.enter hlt x ps.length h4 h5 h6
  have hnb:w.heap.size≠wb:=fun e=>by have:=h.mem.at0.2;omega
  have HOK:Hid (∀b',O b'→b'<w.heap.size):=fun b' q=>(h.mem.lt b' q).2
  obtain⟨y0,y1,y2,y5⟩:=HXC.out w6 (hc6.block w.heap.size HN.out.2.2.1 hnb)
  have HENT:Hid (∀w7 v',Chg (fun b=>(Value.slice ad s.scopes.length cap).ownBlock=some b) w6 w7→OwnR scpC 4 53 W0.heap.size w7 v' (s.scopes++[⟨x.pl,s.fn,ps.length,0⟩])→(∀b,v'.ownBlock=some b→(Value.slice ad s.scopes.length cap).ownBlock=some b∨w6.heap.size≤b)→∃O1,RMem (w7.setCell ⟨wb,0,none⟩ v') W0.heap.size wb O1 (beginR x ps.length s) 0 a (.slice none 0 0)∧Chg O wn (w7.setCell ⟨wb,0,none⟩ v')∧(∀b,O1 b→O b∨wn.heap.size≤b)∧(∀b,(Value.slice ad6 s.labels.length cap6).ownBlock=some b→¬O1 b)∧OwnR lbC 2 103 W0.heap.size (w7.setCell ⟨wb,0,none⟩ v') (.slice ad6 s.labels.length cap6) s.labels∧∀b,(Value.slice ad6 s.labels.length cap6).ownBlock=some b→O b):=hent
  have HROW:Hid (OwnR scpC 4 53 W0.heap.size w6 (.slice ad s.scopes.length cap) s.scopes∧(∀j,w6.frozen? ⟨wb,j,none⟩=false)∧(∀b,(Value.slice ad s.scopes.length cap).ownBlock=some b→O b∧b≠wb)∧W0.heap.size≤w6.heap.size∧wb<w6.heap.size∧w.heap.size<w6.heap.size):=⟨hrow,hfz6,hbk,Nat.le_trans hn.bel.size hc6.size,Nat.lt_of_lt_of_le hn.mem.at0.2 hc6.size,Nat.lt_of_lt_of_le HN.out.2.2.1 hc6.size⟩
  have hscb:decide ((200:Int)≤(s.scopes.length:Int))=false:=by simp;omega
  have HBB:Hid (cr s+8*(1+((ps.map (szT n)).sum+szT n bd))≤lim+2∧dp s+4*n+4≤lim∧ps.length≤(ps.map (szT n)).sum∧1≤szT n bd∧((ps++[bd]).map (szT n)).sum=(ps.map (szT n)).sum+szT n bd∧¬s.scopes.length=200∧s.scopes.length<200):=⟨hb,hd,hpl,hbd,hsum,hs,hlt⟩
  have HKD:Hid (∀W,Below W0.heap.size W0 W→(∀(i:Nat) (t:Tr n),ps[i]?=some t→W.cell? ⟨b,off+i*6+1,none⟩=some (.int .i64 (ndT n t).pl)∧W.cell? ⟨b,off+i*6+2,none⟩=some (.string (ndT n t).name)∧(ndT n t).name.size≤maxLen)∧W.cell? ⟨b,off+ps.length*6+5,none⟩=some (.slice (atT n bd) (nkT n bd) (capT n bd))):=fun W hW=>by
   have hk:=hso.kept (Sc.cells_below hW)
   obtain⟨b',off',e1,h2⟩:=hk.cells (by simp)
   cases e1
   refine⟨fun i t ht => ?_,?_⟩
   ·have hil:=(List.getElem?_eq_some_iff.1 ht).1
    have ht2:(ps++[bd])[i]?=some t:=by rw[List.getElem?_append_left hil];exact ht
    exact⟨h2 i t ht2 1 _ rfl,h2 i t ht2 2 _ rfl,okT_name (hks t (List.mem_of_getElem? ht2)).1⟩
   ·exact h2 ps.length bd (by simp) 5 _ rfl
  have HBL:Hid (∀(w1:World) (O1:Nat→Prop) (s1:Rz.RS) (c1 a1:Int) (v1:Value),OnD W0 wb O1 s1 c1 a1 v1 w1→cr s1+8*szT n bd≤lim+2→dp s1+4*n≤lim→1≤s1.blocks.length→Calls Tryz.prog 12 #[.pointer (some ⟨wb,0,none⟩),.slice (atT n bd) (nkT n bd) (capT n bd)] w1 (Tl w1 W0.heap.size wb O1 v1 (8*szT n bd - 8) ((resR bi n).2.2 bd s1) s1 c1 a1)):=fun w1 O1 s1 c1 a1 v1 o1 q1 q2 q3=>hB bd (hks bd (by simp)) w1 wb O1 s1 c1 a1 v1 o1 q1 q2 q3
  have HXN:Hid (x.name.size≤maxLen):=hxn
  obtain⟨ow,how⟩:∃ow,ow=selfB x:=⟨_,rfl⟩
  have HOW:Hid (ow=(x.kind == 12 && !isS x.name [])):=how
  have HOW2:Hid (ow=selfB x):=how
  clear h hX hbl hP hb hd hso hks hxn hB hn hsum hgd hs hpl hbd hscl hent hrow hfz6 hbk hc6 hlt hnb how
  go_enter Tryz.func35,Tryz.ntmps35
  go_upto_region 1 with fail
  rw[←hwn]
  clear hwn
  have f4:=hfz 4
  have f5:=hfz 5
  have f6:=hfz 6
  obtain⟨_,_,_,e5⟩:=HXC.out wn rfl
  go_upto_region 11 with fail
  rw[←h4,←h5,←h6]
  clear h4 h5 h6 c4 c5 c6 c7 f4 f5 f6 hfz e5 c0 hscb
  have HLD:Hid (Below w6.heap.size w6 w6.drew):=(Below.refl _ _).drew
  have HLO:Hid (∀o,Below w6.heap.size w6 (w6.drew.alloc o)):=fun o=>((Below.refl w6.heap.size w6).drew).alloc (Nat.le_refl _) _
  have HSW:Hid (∀W,Below w6.heap.size w6 W→W.cell? ⟨wb,0,none⟩=some (.slice ad s.scopes.length cap)∧W.cell? ⟨w.heap.size,1,none⟩=some (.int .i64 x.pl)):=fun W q=>⟨Sc.cells_below q _ _ k0,Sc.cells_below q _ _ y1⟩
  have HAL:Hid (Below w6.heap.size w6 (w6.drew.alloc (.cells #[.int .i64 x.pl,.int .i64 (s.fn:Int),.int .i64 (ps.length:Int),.int .i64 0] 53))):=HLO.out _
  have HOWR:Hid (OwnR scpC 4 53 W0.heap.size (w6.drew.alloc (.cells #[.int .i64 x.pl,.int .i64 (s.fn:Int),.int .i64 (ps.length:Int),.int .i64 0] 53)) (.slice ad s.scopes.length cap) s.scopes):=HROW.out.1.below HAL.out
  have HBX:Hid (((s.scopes.length+1)+(s.scopes.length+1) / 4+192)*32≤281474976710656∧s.scopes.length+1≤maxLen):=by have:=HBB.out.2.2.2.2.2.2;exact⟨by omega,by unfold maxLen;omega⟩
  have HFZ:Hid (∀w7:World,Chg (fun b=>(Value.slice ad s.scopes.length cap).ownBlock=some b) w6 w7→(w7.cell? ⟨wb,0,none⟩=some (.slice ad s.scopes.length cap)∧w7.cell? ⟨w.heap.size,1,none⟩=some (.int .i64 x.pl))∧w7.frozen? ⟨wb,0,none⟩=false∧w7.heap[w.heap.size]?=w6.heap[w.heap.size]?):=fun w7 h7=>by
   have e1:¬(Value.slice ad s.scopes.length cap).ownBlock=some wb:=fun q=>(HROW.out.2.2.1 wb q).2 rfl
   have e2:¬(Value.slice ad s.scopes.length cap).ownBlock=some w.heap.size:=fun q=>by have:=HOK.out _ (HROW.out.2.2.1 _ q).1;omega
   exact⟨⟨h7.cell k0 e1,h7.cell y1 e2⟩,by rw[World.frozen?_of_block (w:=w6) (h7.block wb HROW.out.2.2.2.2.1 e1)];exact HROW.out.2.1 0,h7.block _ HROW.out.2.2.2.2.2 e2⟩
  have hS:(fun W:World=>W.cell? ⟨wb,0,none⟩=some (.slice ad s.scopes.length cap)∧W.cell? ⟨w.heap.size,1,none⟩=some (.int .i64 x.pl)) w6.drew:=HSW.out _ HLD.out
  refine region_E (S:=(fun W:World=>W.cell? ⟨wb,0,none⟩=some (.slice ad s.scopes.length cap)∧W.cell? ⟨w.heap.size,1,none⟩=some (.int .i64 x.pl))) (s:=16) (by kernel_rfl) ?_
  refine anyE_take (i:=0) (v := ?_) rfl (by kernel_rfl) (by kernel_rfl) (by kernel_rfl) (by kernel_rfl) (fun _ _ _ h=>h) (Or.inl ⟨by rfl,?_⟩) hS ?_
  rotate_left
  ·intro W hSW
   obtain⟨s1,s2⟩:=hSW
   go_simp
   all_goals (with_reducible rfl)
  simp only[Act.put]
  refine anyE_take (i:=1) (v := ?_) rfl (by kernel_rfl) (by kernel_rfl) (by kernel_rfl) (by kernel_rfl) (fun _ _ _ h=>h) (Or.inl ⟨by rfl,?_⟩) hS ?_
  rotate_left
  ·intro W hSW
   obtain⟨s1,s2⟩:=hSW
   go_simp
   all_goals (with_reducible rfl)
  simp only[Act.put]
  refine anyE_take (i:=2) (v := ?_) rfl (by kernel_rfl) (by kernel_rfl) (by kernel_rfl) (by kernel_rfl) (fun _ _ _ h=>h) (Or.inl ⟨by rfl,?_⟩) hS ?_
  rotate_left
  ·intro W hSW
   obtain⟨s1,s2⟩:=hSW
   go_simp
   all_goals (with_reducible rfl)
  simp only[Act.put]
  refine anyE_take (i:=3) (v := ?_) rfl (by kernel_rfl) (by kernel_rfl) (by kernel_rfl) (by kernel_rfl) (fun _ _ _ h=>h) (Or.inl ⟨by rfl,?_⟩) hS ?_
  rotate_left
  ·intro W hSW
   obtain⟨s1,s2⟩:=hSW
   go_simp
   all_goals (with_reducible rfl)
  simp only[Act.put]
  refine anyE_take (i:=4) (v := ?_) rfl (by kernel_rfl) (by kernel_rfl) (by kernel_rfl) (by kernel_rfl) (fun _ _ _ h=>h) (Or.inl ⟨by rfl,?_⟩) hS ?_
  rotate_left
  ·intro W hSW
   obtain⟨s1,s2⟩:=hSW
   go_simp
   all_goals (with_reducible rfl)
  simp only[Act.put]
  refine anyE_take (i:=5) (v := ?_) rfl (by kernel_rfl) (by kernel_rfl) (by kernel_rfl) (by kernel_rfl) (fun _ _ _ h=>h) (Or.inl ⟨by rfl,?_⟩) hS ?_
  rotate_left
  ·intro W hSW
   obtain⟨s1,s2⟩:=hSW
   go_simp
   all_goals (with_reducible rfl)
  simp only[Act.put]
  refine anyE_take (i:=6) (v := ?_) rfl (by kernel_rfl) (by kernel_rfl) (by kernel_rfl) (by kernel_rfl) (fun _ _ _ h=>h) (Or.inl ⟨by rfl,?_⟩) hS ?_
  rotate_left
  ·intro W hSW
   obtain⟨s1,s2⟩:=hSW
   go_simp
   all_goals (with_reducible rfl)
  simp only[Act.put]
  refine anyE_take (i:=7) (v := ?_) rfl (by kernel_rfl) (by kernel_rfl) (by kernel_rfl) (by kernel_rfl) (fun _ _ _ h=>h) (Or.inl ⟨by rfl,?_⟩) hS ?_
  rotate_left
  ·intro W hSW
   obtain⟨s1,s2⟩:=hSW
   go_simp
   all_goals (with_reducible rfl)
  simp only[Act.put]
  refine anyE_take (i:=8) (v := ?_) rfl (by kernel_rfl) (by kernel_rfl) (by kernel_rfl) (by kernel_rfl) (fun _ _ _ h=>h) (Or.inl ⟨by rfl,?_⟩) hS ?_
  rotate_left
  ·intro W hSW
   obtain⟨s1,s2⟩:=hSW
   go_simp
   all_goals (with_reducible rfl)
  simp only[Act.put]
  refine anyE_take (i:=9) (v := ?_) rfl (by kernel_rfl) (by kernel_rfl) (by kernel_rfl) (by kernel_rfl) (fun _ _ _ h=>h) (Or.inl ⟨by rfl,?_⟩) hS ?_
  rotate_left
  ·intro W hSW
   obtain⟨s1,s2⟩:=hSW
   go_simp
   all_goals (with_reducible rfl)
  simp only[Act.put]
  refine anyE_take (i:=10) (v := ?_) rfl (by kernel_rfl) (by kernel_rfl) (by kernel_rfl) (by kernel_rfl) (fun _ _ _ h=>h) (Or.inl ⟨by rfl,?_⟩) hS ?_
  rotate_left
  ·intro W hSW
   obtain⟨s1,s2⟩:=hSW
   go_simp
   all_goals (with_reducible rfl)
  simp only[Act.put]
  refine anyE_only (i:=11) (by kernel_rfl) (op_step rfl (fun K hK => ?_))
  go_simp
  refine hK.out _ _ ⟨fun _=>HSW.out _ (HLO.out _),?_⟩
  clear hK K hS
  have hS:=HSW.out (w6.drew.alloc (.cells #[.int .i64 x.pl,.int .i64 (s.fn:Int),.int .i64 (ps.length:Int),.int .i64 0] 53)) (HLO.out _)
  refine anyE_only (i:=12) (by kernel_rfl) (op_step rfl (fun K hK => ?_))
  refine step_row rxScp (by rfl) _ _ (by rfl) W0.heap.size (.slice ad s.scopes.length cap) s.scopes (by rfl) (by exact HOWR.out) w6.heap.size ⟨x.pl,(s.fn:Int),ps.length,0⟩ #[.int .i64 x.pl,.int .i64 (s.fn:Int),.int .i64 (ps.length:Int),.int .i64 0] 53 (by rfl) (by exact at_new _ _) (by rfl) (by exact HBX.out.2) (by exact HBX.out.1) (by exact Nat.le_trans HROW.out.2.2.2.1 HAL.out.size) ?_
  intro g7 cap7 w7 ho7 hg7 hl7
  have HO7:Hid (OwnR scpC 4 53 W0.heap.size w7 (.slice (some ⟨g7,0,none⟩) (s.scopes.length+1) cap7) (s.scopes++[⟨x.pl,s.fn,ps.length,0⟩])∧Chg (fun b=>(Value.slice ad s.scopes.length cap).ownBlock=some b) w6 w7∧((Value.slice ad s.scopes.length cap).ownBlock=some g7∨w6.heap.size≤g7)):=⟨ho7,(Chg.of_below HAL.out).trans (Chg.of_grown (S:=fun b=>(Value.slice ad s.scopes.length cap).ownBlock=some b) hg7 (fun k q=>q)) (fun _ _ q=>q),hl7.imp id (fun q=>by rw[q];exact HAL.out.size)⟩
  obtain⟨z1,z3,z4⟩:=HFZ.out w7 HO7.out.2.1
  clear ho7 hg7 hl7 hS
  have hS:=z1
  clear z1
  refine hK.out _ _ ⟨fun _=>hS,?_⟩
  clear hK K
  refine anyE_only (i:=13) (by kernel_rfl) (op_step rfl (fun K hK => ?_))
  go_simp
  refine hK.out _ _ ⟨fun _=>hS,?_⟩
  clear hK K
  refine anyE_only (i:=14) (by kernel_rfl) (op_step rfl (fun K hK => ?_))
  go_simp
  refine hK.out _ _ ⟨fun _=>hS,?_⟩
  clear hK K
  refine anyE_only (i:=15) (by kernel_rfl) (op_step rfl (fun K hK => ?_))
  go_simp
  refine hK.out _ _ ⟨fun _=>hS,?_⟩
  clear hK K
  refine anyE_only (i:=16) (by kernel_rfl) (op_step rfl (fun K hK => ?_))
  obtain⟨s1,s2⟩:=hS
  go_simp
  refine hK.out _ _ ⟨fun e=>absurd rfl e,?_⟩
  refine anyE_done (by kernel_rfl) ?_ _
  clear hK K
  obtain⟨O1,m1,g1,g2,g3,g4,g5⟩:=HENT.out w7 _ HO7.out.2.1 HO7.out.1 (fun b' q=>by
   have q:g7=b':=by simpa [Value.ownBlock] using q
   rw[←q]
   exact HO7.out.2.2)
  obtain⟨wE,hwE⟩:∃wE,wE=w7.setCell ⟨wb,0,none⟩ (.slice (some ⟨g7,0,none⟩) (s.scopes.length+1) cap7):=⟨_,rfl⟩
  rw[←hwE] at m1 g1 g4
  have belE:Below W0.heap.size W0 wE:=g1.below HN.out.1.bel HN.out.1.bel.size (fun b' q=>(HN.out.1.mem.lt b' q).1)
  have HE1:Hid (OnD W0 wb O1 (beginR x ps.length s) 0 a (.slice none 0 0) wE):=⟨m1,belE⟩
  have HG:Hid (Chg O wn wE∧(∀b',O1 b'→O b'∨wn.heap.size≤b')∧(∀b',(Value.slice ad6 s.labels.length cap6).ownBlock=some b'→¬O1 b')∧OwnR lbC 2 103 W0.heap.size wE (.slice ad6 s.labels.length cap6) s.labels∧∀b',(Value.slice ad6 s.labels.length cap6).ownBlock=some b'→O b'):=⟨g1,g2,g3,g4,g5⟩
  have HNB:Hid (∀(s':Rz.RS) (c' a':Int) (W:World),RWent wE W0.heap.size wb O1 s' c' a' (.slice none 0 0) W→(W.cell? ⟨w.heap.size,0,none⟩=some (.int .i64 x.kind)∧W.cell? ⟨w.heap.size,1,none⟩=some (.int .i64 x.pl)∧W.cell? ⟨w.heap.size,2,none⟩=some (.string x.name)∧W.cell? ⟨w.heap.size,5,none⟩=some (.slice (some ⟨b,off,none⟩) (ps.length+1) kc))∧Below W0.heap.size W0 W):=fun s' c' a' W hW=>by
   obtain⟨O9,o9,p1,p2⟩:=HE1.out.went hW
   refine⟨HXC.out W ?_,o9.bel⟩
   have e1:wE.heap[w.heap.size]?=wn.heap[w.heap.size]?:=HG.out.1.block _ HN.out.2.2.1 (fun q=>by have:=HOK.out _ q;omega)
   rw[p1.block _ (Nat.lt_of_lt_of_le HN.out.2.2.1 HG.out.1.size) (fun q=>by
    rcases HG.out.2.1 _ q with z | z
    ·have:=HOK.out _ z;omega
    ·have:=HN.out.2.2.1;omega),e1]
  obtain⟨⟨u0,u1,u2,u5⟩,_⟩:=HNB.out _ _ _ wE (RWent.same HE1.out.mem (Below.refl _ _))
  rw[←hwE]
  clear hwE m1 g1 g2 g3 g4 g5 belE z3 z4 HO7 HENT HFZ HBX HOWR HAL HSW HLO HLD HROW HOK HXC k0 y0 y1 y2 y5
  go_upto_region 12 with fail
  go_cut [8] from 8 to 81 (fun v wx=>v = .bool ow∧wE=wx)
  case first =>
   clear HE1 HG HNB HN HKD HBL HBB HP HXN HOW2
   have hnm:isS x.name []=(x.name.toList == []):=rfl
   cases hk:(x.kind == (12:Int)) with
   | false =>
     have e:ow=false:=by rw[HOW.out,hk];rfl
     subst e
     go_wp2_with fail
     go_meet
     exact⟨rfl,rfl⟩
   | true =>
     cases hm:(x.name.toList == []) with
     | true =>
       have e:ow=false:=by rw[HOW.out,hk,hnm,hm];rfl
       subst e
       go_wp2_with fail
       go_meet
       exact⟨rfl,rfl⟩
     | false =>
       have e:ow=true:=by rw[HOW.out,hk,hnm,hm];rfl
       subst e
       go_wp2_with fail
       go_meet
       exact⟨rfl,rfl⟩
  case rest =>
   obtain⟨rfl,rfl⟩:=hcut
   clear HOW
   obtain⟨e2,he2⟩:∃e2:Rz.RS,e2=if ow=true then putVarP x.name x.pl 5 ps.length (openP (beginR x ps.length s)) else beginR x ps.length s:=⟨_,rfl⟩
   go_upto_if 82 with fail
   go_cut [] from 9 to 127 (fun wx=>RWent wE W0.heap.size wb O1 e2 0 a (.slice none 0 0) wx)
   case first =>
    clear HKD HBL HP HOW2
    cases ow with
    | false =>
      have HFIN:Hid (RWent wE W0.heap.size wb O1 e2 0 a (.slice none 0 0) wE):=by show RWent _ _ _ _ _ _ _ _ _;rw[he2];exact RWent.same HE1.out.mem (Below.refl _ _)
      go_wp2_with fail
      go_meet
      exact HFIN.out
    | true =>
      have ko:=open_any wE W0.heap.size wb O1 (beginR x ps.length s) 0 a (.slice none 0 0) HE1.out.mem (by have h1:=HBB.out.2.1;show s.blocks.length≤_;unfold dp lim at h1;omega)
      go_wp2_with fail
      refine ko.mono ?_
      rintro e wO ⟨rfl,hO⟩
      obtain⟨⟨_,_,n2,_⟩,_⟩:=HNB.out _ _ _ wO hO
      obtain⟨O2,mO,p1,p2⟩:=hO
      have HPO:Hid (Chg O1 wE wO∧(∀b',O2 b'→O1 b'∨wE.heap.size≤b')):=⟨p1,p2⟩
      obtain⟨g,ml,cap2,ad1,cap1,q3,ql1,ql2,q1,qc1,⟨qu,qv⟩,qf,qg,hown⟩:=mO.own (bs:=s.blocks) rfl x.name HXN.out x.pl ps.length
      have q1:wO.cell? ⟨wb,1,none⟩=some (.slice ad1 s.vars.length cap1):=q1
      have HFR:Hid (∀W,Below wO.heap.size wO W→W.frozen? ⟨g,ml,none⟩=false∧W.cell? ⟨g,ml,none⟩=some qu):=fun W hW=>⟨by rw[World.frozen?_of_block (w:=wO) (hW.block g (mO.lt g qg).2)];exact qf,Sc.cells_below hW _ _ qv⟩
      have HNBB:Hid (w.heap.size<wO.heap.size∧¬O2 w.heap.size):=⟨Nat.lt_of_lt_of_le HN.out.2.2.1 (Nat.le_trans HG.out.1.size p1.size),fun q=>by
       rcases p2 _ q with z | z
       ·rcases HG.out.2.1 _ z with z2 | z2
        ·have:=(HN.out.2.2.2.1.mem.lt _ z2).2;omega
        ·have:=HN.out.2.2.1;omega
       ·have:=HG.out.1.size;have:=HN.out.2.2.1;omega⟩
      obtain⟨⟨_,n1,_,_⟩,_⟩:=HNB.out _ _ _ wO ⟨O2,mO,p1,p2⟩
      have HN12:Hid (wO.cell? ⟨w.heap.size,1,none⟩=some (.int .i64 x.pl)∧wO.cell? ⟨w.heap.size,2,none⟩=some (.string x.name)):=⟨n1,n2⟩
      have HLD:Hid (Below wO.heap.size wO wO.drew):=(Below.refl _ _).drew
      have HLO:Hid (∀o,Below wO.heap.size wO (wO.drew.alloc o)):=fun o=>((Below.refl wO.heap.size wO).drew).alloc (Nat.le_refl _) _
      have HSW:Hid (∀W,Below wO.heap.size wO W→(fun W:World=>W.cell? ⟨wb,3,none⟩=some (.slice (some ⟨g,0,none⟩) (ml+1) cap2)∧W.cell? ⟨w.heap.size,2,none⟩=some (.string x.name)∧W.cell? ⟨wb,1,none⟩=some (.slice ad1 s.vars.length cap1)) W):=fun W q=>⟨Sc.cells_below q _ _ q3,Sc.cells_below q _ _ n2,Sc.cells_below q _ _ q1⟩
      obtain⟨wp,hwp⟩:∃wp,wp=(wO.alloc (.cells #[.string x.name,.int .i64 (s.vars.length:Int)] 86)).drew:=⟨_,rfl⟩
      obtain⟨wA,hwA⟩:∃wA,wA=wp.setCell ⟨g,ml,none⟩ (.slice (some ⟨wO.heap.size,0,none⟩) 1 1):=⟨_,rfl⟩
      obtain⟨a1,a4,af,ag,ar,ao,asz,awb,hown2⟩:=hown wp wO.heap.size (by rw[hwp];exact HLO.out _) (Nat.le_refl _) (by rw[hwp];exact at_new _ _) wA hwA
      have HOWN:Hid (∀w6 v',Chg (fun b=>(Value.slice ad1 s.vars.length cap1).ownBlock=some b) wA w6→OwnR vrC 6 61 W0.heap.size w6 v' (s.vars++[⟨x.name,x.pl,5,s.scopes.length,ps.length,false⟩])→(∀b,v'.ownBlock=some b→(Value.slice ad1 s.vars.length cap1).ownBlock=some b∨wA.heap.size≤b)→RWent wO W0.heap.size wb O2 (putVarP x.name x.pl 5 ps.length (openP (beginR x ps.length s))) 0 a (.slice none 0 0) (w6.setCell ⟨wb,1,none⟩ v')):=hown2
      have a1:wA.cell? ⟨wb,1,none⟩=some (.slice ad1 s.vars.length cap1):=a1
      have a4:wA.cell? ⟨wb,4,none⟩=some (.int .i64 (s.scopes.length:Int)):=a4
      have m1:wA.cell? ⟨w.heap.size,1,none⟩=some (.int .i64 x.pl):=ag.cell n1 HNBB.out.2
      have m2:wA.cell? ⟨w.heap.size,2,none⟩=some (.string x.name):=ag.cell n2 HNBB.out.2
      have HAA:Hid (OwnR vrC 6 61 W0.heap.size wA (.slice ad1 s.vars.length cap1) s.vars∧(∀b,(Value.slice ad1 s.vars.length cap1).ownBlock=some b→O2 b∧b≠wb)∧W0.heap.size≤wA.heap.size∧wb<wA.heap.size∧wA.frozen? ⟨wb,1,none⟩=false∧w.heap.size<wA.heap.size):=⟨ar,ao,asz,awb,af,Nat.lt_of_lt_of_le HNBB.out.1 ag.size⟩
      have hwk:IntKind.i64.wrap ((ml:Int)+1 - 1)=(ml:Int):=by rw[IntKind.wrap_i64];unfold maxLen at ql2;omega
      have hlt1:(ml:Int)<(ml:Int)+1:=by omega
      have hml0:(0:Int)≤(ml:Int):=by omega
      have hml2:(ml:Int)+1≤9223372036854775807:=by unfold maxLen at ql2;omega
      have HWP:Hid (wp=(wO.alloc (.cells #[.string x.name,.int .i64 (s.vars.length:Int)] 86)).drew):=hwp
      have HWA:Hid (wA=wp.setCell ⟨g,ml,none⟩ (.slice (some ⟨wO.heap.size,0,none⟩) 1 1)):=hwA
      clear hwp hwA ko p1 p2 mO hown hown2 ar ao asz awb af ag ql1 ql2 qc1 qf qg n1
      go_upto_region 16 with fail
      have hS:(fun W:World=>W.cell? ⟨wb,3,none⟩=some (.slice (some ⟨g,0,none⟩) (ml+1) cap2)∧W.cell? ⟨w.heap.size,2,none⟩=some (.string x.name)∧W.cell? ⟨wb,1,none⟩=some (.slice ad1 s.vars.length cap1)) wO.drew:=HSW.out _ HLD.out
      refine region_E (S:=(fun W:World=>W.cell? ⟨wb,3,none⟩=some (.slice (some ⟨g,0,none⟩) (ml+1) cap2)∧W.cell? ⟨w.heap.size,2,none⟩=some (.string x.name)∧W.cell? ⟨wb,1,none⟩=some (.slice ad1 s.vars.length cap1))) (s:=16) (by kernel_rfl) ?_
      refine anyE_take (i:=0) (v := ?_) rfl (by kernel_rfl) (by kernel_rfl) (by kernel_rfl) (by kernel_rfl) (fun _ _ _ h=>h) (Or.inl ⟨by rfl,?_⟩) hS ?_
      rotate_left
      ·intro W hSW
       obtain⟨s1,s2,s3⟩:=hSW
       go_simp
       all_goals (with_reducible rfl)
      simp only[Act.put]
      refine anyE_take (i:=1) (v := ?_) rfl (by kernel_rfl) (by kernel_rfl) (by kernel_rfl) (by kernel_rfl) (fun _ _ _ h=>h) (Or.inl ⟨by rfl,?_⟩) hS ?_
      rotate_left
      ·intro W hSW
       obtain⟨s1,s2,s3⟩:=hSW
       go_simp
       all_goals (with_reducible rfl)
      simp only[Act.put]
      refine anyE_take (i:=2) (v := ?_) rfl (by kernel_rfl) (by kernel_rfl) (by kernel_rfl) (by kernel_rfl) (fun _ _ _ h=>h) (Or.inl ⟨by rfl,?_⟩) hS ?_
      rotate_left
      ·intro W hSW
       obtain⟨s1,s2,s3⟩:=hSW
       go_simp
       all_goals (with_reducible rfl)
      simp only[Act.put]
      refine anyE_take (i:=3) (v := ?_) rfl (by kernel_rfl) (by kernel_rfl) (by kernel_rfl) (by kernel_rfl) (fun _ _ _ h=>h) (Or.inl ⟨by rfl,?_⟩) hS ?_
      rotate_left
      ·intro W hSW
       obtain⟨s1,s2,s3⟩:=hSW
       go_simp
       all_goals (with_reducible rfl)
      simp only[Act.put]
      refine anyE_take (i:=4) (v := ?_) rfl (by kernel_rfl) (by kernel_rfl) (by kernel_rfl) (by kernel_rfl) (fun _ _ _ h=>h) (Or.inl ⟨by rfl,?_⟩) hS ?_
      rotate_left
      ·intro W hSW
       obtain⟨s1,s2,s3⟩:=hSW
       go_simp
       all_goals (with_reducible rfl)
      simp only[Act.put]
      refine anyE_take (i:=5) (v := ?_) rfl (by kernel_rfl) (by kernel_rfl) (by kernel_rfl) (by kernel_rfl) (fun _ _ _ h=>h) (Or.inl ⟨by rfl,?_⟩) hS ?_
      rotate_left
      ·intro W hSW
       obtain⟨s1,s2,s3⟩:=hSW
       go_simp
       all_goals (with_reducible rfl)
      simp only[Act.put]
      refine anyE_take (i:=6) (v := ?_) rfl (by kernel_rfl) (by kernel_rfl) (by kernel_rfl) (by kernel_rfl) (fun _ _ _ h=>h) (Or.inl ⟨by rfl,?_⟩) hS ?_
      rotate_left
      ·intro W hSW
       obtain⟨s1,s2,s3⟩:=hSW
       go_simp
       all_goals (with_reducible rfl)
      simp only[Act.put]
      refine anyE_take (i:=7) (v := ?_) rfl (by kernel_rfl) (by kernel_rfl) (by kernel_rfl) (by kernel_rfl) (fun _ _ _ h=>h) (Or.inl ⟨by rfl,?_⟩) hS ?_
      rotate_left
      ·intro W hSW
       obtain⟨s1,s2,s3⟩:=hSW
       go_simp
       all_goals (with_reducible rfl)
      simp only[Act.put]
      refine anyE_take (i:=8) (v := ?_) rfl (by kernel_rfl) (by kernel_rfl) (by kernel_rfl) (by kernel_rfl) (fun _ _ _ h=>h) (Or.inl ⟨by rfl,?_⟩) hS ?_
      rotate_left
      ·intro W hSW
       obtain⟨s1,s2,s3⟩:=hSW
       go_simp
       all_goals (with_reducible rfl)
      simp only[Act.put]
      refine anyE_take (i:=9) (v := ?_) rfl (by kernel_rfl) (by kernel_rfl) (by kernel_rfl) (by kernel_rfl) (fun _ _ _ h=>h) (Or.inl ⟨by rfl,?_⟩) hS ?_
      rotate_left
      ·intro W hSW
       obtain⟨s1,s2,s3⟩:=hSW
       go_simp
       all_goals (with_reducible rfl)
      simp only[Act.put]
      refine anyE_take (i:=10) (v := ?_) rfl (by kernel_rfl) (by kernel_rfl) (by kernel_rfl) (by kernel_rfl) (fun _ _ _ h=>h) (Or.inl ⟨by rfl,?_⟩) hS ?_
      rotate_left
      ·intro W hSW
       obtain⟨s1,s2,s3⟩:=hSW
       go_simp
       all_goals (with_reducible rfl)
      simp only[Act.put]
      refine anyE_take (i:=11) (v := ?_) rfl (by kernel_rfl) (by kernel_rfl) (by kernel_rfl) (by kernel_rfl) (fun _ _ _ h=>h) (Or.inl ⟨by rfl,?_⟩) hS ?_
      rotate_left
      ·intro W hSW
       obtain⟨s1,s2,s3⟩:=hSW
       go_simp
       all_goals (with_reducible rfl)
      simp only[Act.put]
      refine anyE_take (i:=12) (v := ?_) rfl (by kernel_rfl) (by kernel_rfl) (by kernel_rfl) (by kernel_rfl) (fun _ _ _ h=>h) (Or.inl ⟨by rfl,?_⟩) hS ?_
      rotate_left
      ·intro W hSW
       obtain⟨s1,s2,s3⟩:=hSW
       go_simp
       all_goals (with_reducible rfl)
      simp only[Act.put]
      refine anyE_take (i:=13) (v := ?_) rfl (by kernel_rfl) (by kernel_rfl) (by kernel_rfl) (by kernel_rfl) (fun _ _ _ h=>h) (Or.inl ⟨by rfl,?_⟩) hS ?_
      rotate_left
      ·intro W hSW
       obtain⟨s1,s2,s3⟩:=hSW
       go_simp
       all_goals (with_reducible rfl)
      simp only[Act.put]
      refine anyE_only (i:=14) (by kernel_rfl) (op_step rfl (fun K hK => ?_))
      go_simp
      refine hK.out _ _ ⟨fun _=>HSW.out _ (HLO.out _),?_⟩
      clear hK K hS
      have hS:=HSW.out (wO.drew.alloc (.cells #[.string x.name,.int .i64 (s.vars.length:Int)] 86)) (HLO.out _)
      rw[←HWP.out]
      clear hS
      have hS:(fun W:World=>W.cell? ⟨wb,3,none⟩=some (.slice (some ⟨g,0,none⟩) (ml+1) cap2)∧W.cell? ⟨w.heap.size,2,none⟩=some (.string x.name)∧W.cell? ⟨wb,1,none⟩=some (.slice ad1 s.vars.length cap1)) wp:=by rw[HWP.out];exact HSW.out (wO.drew.alloc (.cells #[.string x.name,.int .i64 (s.vars.length:Int)] 86)) (HLO.out _)
      refine anyE_only (i:=15) (by kernel_rfl) (op_step rfl (fun K hK => ?_))
      obtain⟨s1,s2,s3⟩:=hS
      go_simp
      refine hK.out _ _ ⟨fun _=>⟨s1,s2,s3⟩,?_⟩
      clear hK K
      obtain⟨ff,fv⟩:=HFR.out wp (by rw[HWP.out];exact HLO.out _)
      refine anyE_only (i:=16) (by kernel_rfl) (op_step rfl (fun K hK => ?_))
      go_simp
      refine hK.out _ _ ⟨fun e=>absurd rfl e,?_⟩
      refine anyE_done (by kernel_rfl) ?_ _
      clear hK K
      rw[←HWA.out]
      clear HWA HWP ff fv s1 s2 s3 HFR HSW HLO HLD
      have HLD:Hid (Below wA.heap.size wA wA.drew):=(Below.refl _ _).drew
      have HLO:Hid (∀o,Below wA.heap.size wA (wA.drew.alloc o)):=fun o=>((Below.refl wA.heap.size wA).drew).alloc (Nat.le_refl _) _
      have HSW:Hid (∀W,Below wA.heap.size wA W→(fun W:World=>W.cell? ⟨wb,1,none⟩=some (.slice ad1 s.vars.length cap1)∧W.cell? ⟨w.heap.size,2,none⟩=some (.string x.name)∧W.cell? ⟨w.heap.size,1,none⟩=some (.int .i64 x.pl)∧W.cell? ⟨wb,4,none⟩=some (.int .i64 (s.scopes.length:Int))) W):=fun W q=>⟨Sc.cells_below q _ _ a1,Sc.cells_below q _ _ m2,Sc.cells_below q _ _ m1,Sc.cells_below q _ _ a4⟩
      have HAL:Hid (Below wA.heap.size wA (wA.drew.alloc (.cells #[.string x.name,.int .i64 x.pl,.int .i64 5,.int .i64 (s.scopes.length:Int),.int .i64 (ps.length:Int),.bool false] 61))):=HLO.out _
      have HOWR:Hid (OwnR vrC 6 61 W0.heap.size (wA.drew.alloc (.cells #[.string x.name,.int .i64 x.pl,.int .i64 5,.int .i64 (s.scopes.length:Int),.int .i64 (ps.length:Int),.bool false] 61)) (.slice ad1 s.vars.length cap1) s.vars):=HAA.out.1.below HAL.out
      have HBX:Hid (((s.vars.length+1)+(s.vars.length+1) / 4+192)*56≤281474976710656∧s.vars.length+1≤maxLen):=by have h1:=HBB.out.1;unfold Rv.cr lim at h1;exact⟨by omega,by unfold maxLen;omega⟩
      have HFZ:Hid (∀w7:World,Chg (fun b=>(Value.slice ad1 s.vars.length cap1).ownBlock=some b) wA w7→(fun W:World=>W.cell? ⟨wb,1,none⟩=some (.slice ad1 s.vars.length cap1)∧W.cell? ⟨w.heap.size,2,none⟩=some (.string x.name)∧W.cell? ⟨w.heap.size,1,none⟩=some (.int .i64 x.pl)∧W.cell? ⟨wb,4,none⟩=some (.int .i64 (s.scopes.length:Int))) w7∧w7.frozen? ⟨wb,1,none⟩=false):=fun w7 h7=>by
       have e1:¬(Value.slice ad1 s.vars.length cap1).ownBlock=some wb:=fun q=>(HAA.out.2.1 wb q).2 rfl
       have e2:¬(Value.slice ad1 s.vars.length cap1).ownBlock=some w.heap.size:=fun q=>HNBB.out.2 (HAA.out.2.1 _ q).1
       exact⟨⟨h7.cell a1 e1,h7.cell m2 e2,h7.cell m1 e2,h7.cell a4 e1⟩,by rw[World.frozen?_of_block (w:=wA) (h7.block wb HAA.out.2.2.2.1 e1)];exact HAA.out.2.2.2.2.1⟩
      clear q3 q1 n2 hwk hlt1 hml0 hml2
      go_wp2_with fail
      have hS:(fun W:World=>W.cell? ⟨wb,1,none⟩=some (.slice ad1 s.vars.length cap1)∧W.cell? ⟨w.heap.size,2,none⟩=some (.string x.name)∧W.cell? ⟨w.heap.size,1,none⟩=some (.int .i64 x.pl)∧W.cell? ⟨wb,4,none⟩=some (.int .i64 (s.scopes.length:Int))) wA.drew:=HSW.out _ HLD.out
      refine region_E (S:=(fun W:World=>W.cell? ⟨wb,1,none⟩=some (.slice ad1 s.vars.length cap1)∧W.cell? ⟨w.heap.size,2,none⟩=some (.string x.name)∧W.cell? ⟨w.heap.size,1,none⟩=some (.int .i64 x.pl)∧W.cell? ⟨wb,4,none⟩=some (.int .i64 (s.scopes.length:Int)))) (s:=21) (by kernel_rfl) ?_
      refine anyE_take (i:=0) (v := ?_) rfl (by kernel_rfl) (by kernel_rfl) (by kernel_rfl) (by kernel_rfl) (fun _ _ _ h=>h) (Or.inl ⟨by rfl,?_⟩) hS ?_
      rotate_left
      ·intro W hSW
       obtain⟨s1,s2,s3,s4⟩:=hSW
       go_simp
       all_goals (with_reducible rfl)
      simp only[Act.put]
      refine anyE_take (i:=1) (v := ?_) rfl (by kernel_rfl) (by kernel_rfl) (by kernel_rfl) (by kernel_rfl) (fun _ _ _ h=>h) (Or.inl ⟨by rfl,?_⟩) hS ?_
      rotate_left
      ·intro W hSW
       obtain⟨s1,s2,s3,s4⟩:=hSW
       go_simp
       all_goals (with_reducible rfl)
      simp only[Act.put]
      refine anyE_take (i:=2) (v := ?_) rfl (by kernel_rfl) (by kernel_rfl) (by kernel_rfl) (by kernel_rfl) (fun _ _ _ h=>h) (Or.inl ⟨by rfl,?_⟩) hS ?_
      rotate_left
      ·intro W hSW
       obtain⟨s1,s2,s3,s4⟩:=hSW
       go_simp
       all_goals (with_reducible rfl)
      simp only[Act.put]
      refine anyE_take (i:=3) (v := ?_) rfl (by kernel_rfl) (by kernel_rfl) (by kernel_rfl) (by kernel_rfl) (fun _ _ _ h=>h) (Or.inl ⟨by rfl,?_⟩) hS ?_
      rotate_left
      ·intro W hSW
       obtain⟨s1,s2,s3,s4⟩:=hSW
       go_simp
       all_goals (with_reducible rfl)
      simp only[Act.put]
      refine anyE_take (i:=4) (v := ?_) rfl (by kernel_rfl) (by kernel_rfl) (by kernel_rfl) (by kernel_rfl) (fun _ _ _ h=>h) (Or.inl ⟨by rfl,?_⟩) hS ?_
      rotate_left
      ·intro W hSW
       obtain⟨s1,s2,s3,s4⟩:=hSW
       go_simp
       all_goals (with_reducible rfl)
      simp only[Act.put]
      refine anyE_take (i:=5) (v := ?_) rfl (by kernel_rfl) (by kernel_rfl) (by kernel_rfl) (by kernel_rfl) (fun _ _ _ h=>h) (Or.inl ⟨by rfl,?_⟩) hS ?_
      rotate_left
      ·intro W hSW
       obtain⟨s1,s2,s3,s4⟩:=hSW
       go_simp
       all_goals (with_reducible rfl)
      simp only[Act.put]
      refine anyE_take (i:=6) (v := ?_) rfl (by kernel_rfl) (by kernel_rfl) (by kernel_rfl) (by kernel_rfl) (fun _ _ _ h=>h) (Or.inl ⟨by rfl,?_⟩) hS ?_
      rotate_left
      ·intro W hSW
       obtain⟨s1,s2,s3,s4⟩:=hSW
       go_simp
       all_goals (with_reducible rfl)
      simp only[Act.put]
      refine anyE_take (i:=7) (v := ?_) rfl (by kernel_rfl) (by kernel_rfl) (by kernel_rfl) (by kernel_rfl) (fun _ _ _ h=>h) (Or.inl ⟨by rfl,?_⟩) hS ?_
      rotate_left
      ·intro W hSW
       obtain⟨s1,s2,s3,s4⟩:=hSW
       go_simp
       all_goals (with_reducible rfl)
      simp only[Act.put]
      refine anyE_take (i:=8) (v := ?_) rfl (by kernel_rfl) (by kernel_rfl) (by kernel_rfl) (by kernel_rfl) (fun _ _ _ h=>h) (Or.inl ⟨by rfl,?_⟩) hS ?_
      rotate_left
      ·intro W hSW
       obtain⟨s1,s2,s3,s4⟩:=hSW
       go_simp
       all_goals (with_reducible rfl)
      simp only[Act.put]
      refine anyE_take (i:=9) (v := ?_) rfl (by kernel_rfl) (by kernel_rfl) (by kernel_rfl) (by kernel_rfl) (fun _ _ _ h=>h) (Or.inl ⟨by rfl,?_⟩) hS ?_
      rotate_left
      ·intro W hSW
       obtain⟨s1,s2,s3,s4⟩:=hSW
       go_simp
       all_goals (with_reducible rfl)
      simp only[Act.put]
      refine anyE_take (i:=10) (v := ?_) rfl (by kernel_rfl) (by kernel_rfl) (by kernel_rfl) (by kernel_rfl) (fun _ _ _ h=>h) (Or.inl ⟨by rfl,?_⟩) hS ?_
      rotate_left
      ·intro W hSW
       obtain⟨s1,s2,s3,s4⟩:=hSW
       go_simp
       all_goals (with_reducible rfl)
      simp only[Act.put]
      refine anyE_take (i:=11) (v := ?_) rfl (by kernel_rfl) (by kernel_rfl) (by kernel_rfl) (by kernel_rfl) (fun _ _ _ h=>h) (Or.inl ⟨by rfl,?_⟩) hS ?_
      rotate_left
      ·intro W hSW
       obtain⟨s1,s2,s3,s4⟩:=hSW
       go_simp
       all_goals (with_reducible rfl)
      simp only[Act.put]
      refine anyE_take (i:=12) (v := ?_) rfl (by kernel_rfl) (by kernel_rfl) (by kernel_rfl) (by kernel_rfl) (fun _ _ _ h=>h) (Or.inl ⟨by rfl,?_⟩) hS ?_
      rotate_left
      ·intro W hSW
       obtain⟨s1,s2,s3,s4⟩:=hSW
       go_simp
       all_goals (with_reducible rfl)
      simp only[Act.put]
      refine anyE_take (i:=13) (v := ?_) rfl (by kernel_rfl) (by kernel_rfl) (by kernel_rfl) (by kernel_rfl) (fun _ _ _ h=>h) (Or.inl ⟨by rfl,?_⟩) hS ?_
      rotate_left
      ·intro W hSW
       obtain⟨s1,s2,s3,s4⟩:=hSW
       go_simp
       all_goals (with_reducible rfl)
      simp only[Act.put]
      refine anyE_take (i:=14) (v := ?_) rfl (by kernel_rfl) (by kernel_rfl) (by kernel_rfl) (by kernel_rfl) (fun _ _ _ h=>h) (Or.inl ⟨by rfl,?_⟩) hS ?_
      rotate_left
      ·intro W hSW
       obtain⟨s1,s2,s3,s4⟩:=hSW
       go_simp
       all_goals (with_reducible rfl)
      simp only[Act.put]
      refine anyE_take (i:=15) (v := ?_) rfl (by kernel_rfl) (by kernel_rfl) (by kernel_rfl) (by kernel_rfl) (fun _ _ _ h=>h) (Or.inl ⟨by rfl,?_⟩) hS ?_
      rotate_left
      ·intro W hSW
       obtain⟨s1,s2,s3,s4⟩:=hSW
       go_simp
       all_goals (with_reducible rfl)
      simp only[Act.put]
      refine anyE_only (i:=16) (by kernel_rfl) (op_step rfl (fun K hK => ?_))
      go_simp
      refine hK.out _ _ ⟨fun _=>HSW.out _ (HLO.out _),?_⟩
      clear hK K hS
      have hS:=HSW.out (wA.drew.alloc (.cells #[.string x.name,.int .i64 x.pl,.int .i64 5,.int .i64 (s.scopes.length:Int),.int .i64 (ps.length:Int),.bool false] 61)) (HLO.out _)
      refine anyE_only (i:=17) (by kernel_rfl) (op_step rfl (fun K hK => ?_))
      refine step_row rxVr (by rfl) _ _ (by rfl) W0.heap.size (.slice ad1 s.vars.length cap1) s.vars (by rfl) (by exact HOWR.out) wA.heap.size ⟨x.name,x.pl,5,s.scopes.length,ps.length,false⟩ #[.string x.name,.int .i64 x.pl,.int .i64 5,.int .i64 (s.scopes.length:Int),.int .i64 (ps.length:Int),.bool false] 61 (by rfl) (by exact at_new _ _) (by rfl) (by exact HBX.out.2) (by exact HBX.out.1) (by exact Nat.le_trans HAA.out.2.2.1 HAL.out.size) ?_
      intro g7 cap7 w7 ho7 hg7 hl7
      have HO7:Hid (OwnR vrC 6 61 W0.heap.size w7 (.slice (some ⟨g7,0,none⟩) (s.vars.length+1) cap7) (s.vars++[⟨x.name,x.pl,5,s.scopes.length,ps.length,false⟩])∧Chg (fun b=>(Value.slice ad1 s.vars.length cap1).ownBlock=some b) wA w7∧((Value.slice ad1 s.vars.length cap1).ownBlock=some g7∨wA.heap.size≤g7)):=⟨ho7,(Chg.of_below HAL.out).trans (Chg.of_grown (S:=fun b=>(Value.slice ad1 s.vars.length cap1).ownBlock=some b) hg7 (fun k q=>q)) (fun _ _ q=>q),hl7.imp id (fun q=>by rw[q];exact HAL.out.size)⟩
      obtain⟨z1,z3⟩:=HFZ.out w7 HO7.out.2.1
      clear ho7 hg7 hl7 hS
      have hS:=z1
      clear z1
      refine hK.out _ _ ⟨fun _=>hS,?_⟩
      clear hK K
      refine anyE_only (i:=18) (by kernel_rfl) (op_step rfl (fun K hK => ?_))
      go_simp
      refine hK.out _ _ ⟨fun _=>hS,?_⟩
      clear hK K
      refine anyE_only (i:=19) (by kernel_rfl) (op_step rfl (fun K hK => ?_))
      go_simp
      refine hK.out _ _ ⟨fun _=>hS,?_⟩
      clear hK K
      refine anyE_only (i:=20) (by kernel_rfl) (op_step rfl (fun K hK => ?_))
      go_simp
      refine hK.out _ _ ⟨fun _=>hS,?_⟩
      clear hK K
      refine anyE_only (i:=21) (by kernel_rfl) (op_step rfl (fun K hK => ?_))
      obtain⟨s1,s2,s3,s4⟩:=hS
      go_simp
      refine hK.out _ _ ⟨fun e=>absurd rfl e,?_⟩
      refine anyE_done (by kernel_rfl) ?_ _
      clear hK K
      have hfin:=HOWN.out w7 (.slice (some ⟨g7,0,none⟩) (s.vars.length+1) cap7) HO7.out.2.1 HO7.out.1 (fun b' q=>by
       have q:g7=b':=by simpa [Value.ownBlock] using q
       rw[←q]
       exact HO7.out.2.2)
      have HFIN:Hid (RWent wE W0.heap.size wb O1 e2 0 a (.slice none 0 0) (w7.setCell ⟨wb,1,none⟩ (.slice (some ⟨g7,0,none⟩) (s.vars.length+1) cap7))):=by
       show RWent _ _ _ _ _ _ _ _ _
       rw[he2]
       first | rw[if_pos rfl] | rw[if_pos trivial]
       exact rwent_then HPO.out.1 HPO.out.2 hfin
      clear hfin HO7 z3 HFZ HBX HOWR HAL HSW HLO HLD HAA HOWN HN12 HNBB HPO
      go_wp2_with fail
      go_meet
      exact HFIN.out
   case rest =>
    have h2e:enterR x ps.length s=openP e2:=by rw[he2,HOW2.out,enter_eq]
    have hbe:e2.blocks.length≤s.blocks.length+1∧cr (openP e2)≤cr s+2∧(openP e2).scopes.length=s.scopes.length+1∧(openP e2).labels=[]∧(openP e2).loops=0:=by
     rw[he2]
     refine⟨?_,?_,?_,?_,?_⟩
     ·split
      ·unfold putVarP openP beginR;simp
      ·unfold beginR;simp
     ·rw[cr_open]
      split
      ·rw[cr_put,cr_open];unfold Rv.cr beginR;simp;omega
      ·unfold Rv.cr beginR;simp;omega
     ·split
      ·unfold putVarP openP beginR;simp
      ·unfold openP beginR;simp
     ·split <;> rfl
     ·split <;> rfl
    have ko2:=relG HE1.out hcut (fun O3 o3=>open_any wc W0.heap.size wb O3 e2 0 a (.slice none 0 0) o3.mem (by have h1:=HBB.out.2.1;have:=hbe.1;unfold dp lim at h1;omega))
    obtain⟨e0,he0⟩:∃e0,e0=openP e2:=⟨_,rfl⟩
    rw[←he0] at ko2 h2e hbe
    have hbk0:e0.blocks.length=e2.blocks.length+1:=by rw[he0];unfold openP;simp
    have HEB:Hid (enterR x ps.length s=e0∧cr e0≤cr s+2∧e0.scopes.length=s.scopes.length+1∧e0.labels=[]∧e0.loops=0∧1≤e0.blocks.length∧e0.blocks.length≤s.blocks.length+2):=⟨h2e,hbe.2.1,hbe.2.2.1,hbe.2.2.2.1,hbe.2.2.2.2,by omega,by have:=hbe.1;omega⟩
    have HST:Hid (∀(i:Nat) (t:Tr n),ps[i]?=some t→∀wr,PaD W0 wE wb O1 e0 a (.slice none 0 0) ps i wr→∀W,Below wr.heap.size wr W→Calls Tryz.prog 19 #[.pointer (some ⟨wb,0,none⟩),.string (ndT n t).name,.int .i64 (ndT n t).pl,.int .i64 3] W fun e w'=>e = .returned (.tuple #[])∧PaD W0 wE wb O1 e0 a (.slice none 0 0) ps (i+1) w'):=fun i t ht wr he W hW=>he.step HE1.out ht ((HKD.out W0 (Below.refl _ _)).1 i t ht).2.2 (by have h1:=HBB.out.1;have h3:=HBB.out.2.2.1;have h4:=HEB.out.2.1;omega) HEB.out.2.2.2.2.2.1 hW
    have HFIX:Hid (∀i wr,PaD W0 wE wb O1 e0 a (.slice none 0 0) ps i wr→wr.cell? ⟨w.heap.size,5,none⟩=some (.slice (some ⟨b,off,none⟩) (ps.length+1) kc)∧∀(j:Nat) (t:Tr n),ps[j]?=some t→wr.cell? ⟨b,off+j*6+1,none⟩=some (.int .i64 (ndT n t).pl)∧wr.cell? ⟨b,off+j*6+2,none⟩=some (.string (ndT n t).name)):=fun i wr he=>by
     obtain⟨s1,c1,a1,_,hw⟩:=he.st
     obtain⟨⟨_,_,_,x5⟩,hbel⟩:=HNB.out _ _ _ wr hw
     exact⟨x5,fun j t ht=>⟨((HKD.out wr hbel).1 j t ht).1,((HKD.out wr hbel).1 j t ht).2.1⟩⟩
    clear hcut he0 hbe hbk0 h2e he2
    go_wp2_with fail
    refine ko2.mono ?_
    rintro e w2 ⟨rfl,h2⟩
    have HPS:Hid (PaD W0 wE wb O1 e0 a (.slice none 0 0) ps 0 w2):=⟨Nat.zero_le _,e0,0,a,Told.ok e0 0 a,h2⟩
    clear ko2 h2
    have hkl:(ps.length:Int)≤9223372036854775806:=by omega
    go_wp2_with fail
    go_loopw [10] (fun i wr=>∃k:Nat,Hid (PaD W0 wE wb O1 e0 a (.slice none 0 0) ps k wr)∧i = .int .i64 (k:Int)) (fun i wr=>ps.length - (intOf i).toNat)
    case atStart=>exact⟨0,HPS,rfl⟩
    case round =>
     clear HPS
     obtain⟨i,HE,rfl⟩:=hrel
     rcases Nat.lt_or_ge i ps.length with cl | cl
     ·have hil:(i:Int)<(ps.length:Int):=by omega
      have hil2:(i:Int)<(ps.length:Int)+1:=by omega
      obtain⟨y,hy⟩:∃y,ps[i]?=some y:=⟨_,List.getElem?_eq_getElem cl⟩
      obtain⟨x5,hkx⟩:=HFIX.out i wr HE.out
      obtain⟨x1,x2⟩:=hkx i y hy
      have hu:=HST.out i y hy wr HE.out wr.drew (Below.refl _ _).drew
      have HSX:Hid (∀w1,PaD W0 wE wb O1 e0 a (.slice none 0 0) ps (i+1) w1→w1.cell? ⟨w.heap.size,5,none⟩=some (.slice (some ⟨b,off,none⟩) (ps.length+1) kc)∧w1.cell? ⟨b,off+i*6+1,none⟩=some (.int .i64 (ndT n y).pl)∧w1.cell? ⟨b,off+i*6+2,none⟩=some (.string (ndT n y).name)):=fun w1 q=>⟨(HFIX.out (i+1) w1 q).1,((HFIX.out (i+1) w1 q).2 i y hy).1,((HFIX.out (i+1) w1 q).2 i y hy).2⟩
      have HS0:Hid (wr.drew.cell? ⟨w.heap.size,5,none⟩=some (.slice (some ⟨b,off,none⟩) (ps.length+1) kc)∧wr.drew.cell? ⟨b,off+i*6+1,none⟩=some (.int .i64 (ndT n y).pl)∧wr.drew.cell? ⟨b,off+i*6+2,none⟩=some (.string (ndT n y).name)):=⟨Sc.cells_below ((Below.refl _ _).drew) _ _ x5,Sc.cells_below ((Below.refl _ _).drew) _ _ x1,Sc.cells_below ((Below.refl _ _).drew) _ _ x2⟩
      have HQ:Hid (i<ps.length):=cl
      clear hy hkx HE HST HFIX HKD HBL HNB HP HE1 HG HN HBB HEB cl HOW2
      generalize (ndT n y).pl=q1 at *
      generalize (ndT n y).name=q2 at *
      go_wp2_with fail
      go_region_held_law (fun W:World=>W.cell? ⟨w.heap.size,5,none⟩=some (.slice (some ⟨b,off,none⟩) (ps.length+1) kc)∧W.cell? ⟨b,off+i*6+1,none⟩=some (.int .i64 q1)∧W.cell? ⟨b,off+i*6+2,none⟩=some (.string q2)) (first | exact HS0.out | exact HSX.out _ h1) ((go_at_call 19;refine hu.mono ?_;rintro e w1 ⟨rfl,h1⟩))
      all_goals
       have HN1:Hid (PaD W0 wE wb O1 e0 a (.slice none 0 0) ps (i+1) w1):=h1
       clear hu h1 x1 x2 x5 HSX HS0
       go_wp2_with fail
       refine⟨⟨i+1,HN1,by go_num⟩,?_⟩
       simp[intOf]
       have:=HQ.out
       omega
     ·have hil:¬(i:Int)<(ps.length:Int):=by omega
      obtain⟨s1,c1,a1,ht1,hw1⟩:=HE.out.st
      have ei:i=ps.length:=by have:=HE.out.le;omega
      rw[ei,List.take_length] at ht1
      have HT1:Hid (Told (2*ps.length) (parsP (ndR n) ps e0) e0 0 a s1 c1 a1):=ht1
      have hcr1:=ht1.cr
      have HS1:Hid (cr s1≤100000000∧RWent wE W0.heap.size wb O1 s1 c1 a1 (.slice none 0 0) wr):=⟨by have h1:=HBB.out.1;have h3:=HBB.out.2.2.1;have h4:=HEB.out.2.1;unfold lim at h1;omega,hw1⟩
      clear HE HST HFIX cl ht1 hw1 hcr1 ei
      go_upto_if 149 with fail
      go_cut [] from 149 to 173 (fun wx=>RWent wE W0.heap.size wb O1 (if ow=true then bumpP s1 else s1) c1 a1 (.slice none 0 0) wx)
      case first =>
       clear HKD HBL HNB HP HE1 HG HN HBB HEB HOW2 HT1
       cases ow with
       | false =>
         go_wp2_with fail
         go_meet
         exact HS1.out.2
       | true =>
         obtain⟨O4,m4,k1,k2⟩:=HS1.out.2
         obtain⟨tgb,Mb,hAb,hgdb,hvb,hOb⟩:=m4
         obtain⟨gb,capb,bv0,bl1,bl2,bg2,bd,bfz,bA,bC⟩:=hAb.bump hgdb.fnl
         have x0:=hAb.box.1
         rw[bv0] at x0
         have x4:=hAb.box.2.2.2.2.1
         have HFIN:Hid (RWent wE W0.heap.size wb O1 (bumpP s1) c1 a1 (.slice none 0 0) (wr.setCell ⟨gb,s1.fn*4+3,none⟩ (.int .i64 ((varsAt s1:Int)+1)))):=by
          refine rwent_then k1 k2 (Stp.went (tg':=rtg tgb wr.heap.size wr.heap.size 0) (Stp.rtg bC (fun b q=>by omega)) hOb bA ⟨?_,hgdb.blk,hgdb.wf,hgdb.few,?_⟩ hvb)
          ·show s1.fn<(bumpP s1).scopes.length
           unfold bumpP
           simp
           exact hgdb.fnl
          ·show(bumpP s1).scopes.length≤200
           unfold bumpP
           simp
           exact hgdb.scl
         have hva:varsAt s1≤1000000000:=by
          have h1:=HS1.out.1
          obtain⟨y,hy⟩:∃y,s1.scopes[s1.fn]?=some y:=⟨_,List.getElem?_eq_getElem hgdb.fnl⟩
          have h2:varsAt s1=y.vars:=by unfold varsAt;rw[hy];rfl
          have h3:y.vars≤(s1.scopes.map Rz.Scp.vars).sum:=le_sum (List.mem_map.2 ⟨y,List.mem_of_getElem? hy,rfl⟩)
          unfold Rv.cr at h1
          omega
         have bfz:=bfz (s1.fn*4+3)
         have hif:(s1.fn:Int)<(s1.scopes.length:Int):=by have:=hgdb.fnl;omega
         have hif0:(0:Int)≤(s1.fn:Int):=by omega
         have hsl9:(s1.scopes.length:Int)≤9223372036854775807:=by unfold maxLen at bl2;omega
         have hw9:IntKind.i64.wrap ((varsAt s1:Int)+1)=(varsAt s1:Int)+1:=by rw[IntKind.wrap_i64];omega
         have HLD:Hid (Below wr.heap.size wr wr.drew):=(Below.refl _ _).drew
         have HFIN2:Hid (RWent wE W0.heap.size wb O1 (bumpP s1) c1 a1 (.slice none 0 0) (wr.drew.setCell ⟨gb,s1.fn*4+3,none⟩ (.int .i64 ((varsAt s1:Int)+1)))):=HFIN.out.drew
         clear k1 k2 hAb hgdb hvb hOb bv0 bl1 bl2 bg2 bA bC HFIN hva
         generalize varsAt s1=va at *
         go_wp2_with fail
         have hS:(fun W:World=>W.cell? ⟨wb,0,none⟩=some (.slice (some ⟨gb,0,none⟩) s1.scopes.length capb)∧W.cell? ⟨wb,4,none⟩=some (.int .i64 (s1.fn:Int))∧W.cell? ⟨gb,s1.fn*4+3,none⟩=some (.int .i64 (va:Int))) wr.drew:=⟨Sc.cells_below HLD.out _ _ x0,Sc.cells_below HLD.out _ _ x4,Sc.cells_below HLD.out _ _ bd⟩
         refine region_E (S:=(fun W:World=>W.cell? ⟨wb,0,none⟩=some (.slice (some ⟨gb,0,none⟩) s1.scopes.length capb)∧W.cell? ⟨wb,4,none⟩=some (.int .i64 (s1.fn:Int))∧W.cell? ⟨gb,s1.fn*4+3,none⟩=some (.int .i64 (va:Int)))) (s:=24) (by kernel_rfl) ?_
         refine anyE_take (i:=0) (v := ?_) rfl (by kernel_rfl) (by kernel_rfl) (by kernel_rfl) (by kernel_rfl) (fun _ _ _ h=>h) (Or.inl ⟨by rfl,?_⟩) hS ?_
         rotate_left
         ·intro W hSW
          obtain⟨s1_,s2_,s3_⟩:=hSW
          go_simp
          all_goals (with_reducible rfl)
         simp only[Act.put]
         refine anyE_take (i:=1) (v := ?_) rfl (by kernel_rfl) (by kernel_rfl) (by kernel_rfl) (by kernel_rfl) (fun _ _ _ h=>h) (Or.inl ⟨by rfl,?_⟩) hS ?_
         rotate_left
         ·intro W hSW
          obtain⟨s1_,s2_,s3_⟩:=hSW
          go_simp
          all_goals (with_reducible rfl)
         simp only[Act.put]
         refine anyE_take (i:=2) (v := ?_) rfl (by kernel_rfl) (by kernel_rfl) (by kernel_rfl) (by kernel_rfl) (fun _ _ _ h=>h) (Or.inl ⟨by rfl,?_⟩) hS ?_
         rotate_left
         ·intro W hSW
          obtain⟨s1_,s2_,s3_⟩:=hSW
          go_simp
          all_goals (with_reducible rfl)
         simp only[Act.put]
         refine anyE_take (i:=3) (v := ?_) rfl (by kernel_rfl) (by kernel_rfl) (by kernel_rfl) (by kernel_rfl) (fun _ _ _ h=>h) (Or.inl ⟨by rfl,?_⟩) hS ?_
         rotate_left
         ·intro W hSW
          obtain⟨s1_,s2_,s3_⟩:=hSW
          go_simp
          all_goals (with_reducible rfl)
         simp only[Act.put]
         refine anyE_take (i:=4) (v := ?_) rfl (by kernel_rfl) (by kernel_rfl) (by kernel_rfl) (by kernel_rfl) (fun _ _ _ h=>h) (Or.inl ⟨by rfl,?_⟩) hS ?_
         rotate_left
         ·intro W hSW
          obtain⟨s1_,s2_,s3_⟩:=hSW
          go_simp
          all_goals (with_reducible rfl)
         simp only[Act.put]
         refine anyE_take (i:=5) (v := ?_) rfl (by kernel_rfl) (by kernel_rfl) (by kernel_rfl) (by kernel_rfl) (fun _ _ _ h=>h) (Or.inl ⟨by rfl,?_⟩) hS ?_
         rotate_left
         ·intro W hSW
          obtain⟨s1_,s2_,s3_⟩:=hSW
          go_simp
          all_goals (with_reducible rfl)
         simp only[Act.put]
         refine anyE_take (i:=6) (v := ?_) rfl (by kernel_rfl) (by kernel_rfl) (by kernel_rfl) (by kernel_rfl) (fun _ _ _ h=>h) (Or.inl ⟨by rfl,?_⟩) hS ?_
         rotate_left
         ·intro W hSW
          obtain⟨s1_,s2_,s3_⟩:=hSW
          go_simp
          all_goals (with_reducible rfl)
         simp only[Act.put]
         refine anyE_take (i:=7) (v := ?_) rfl (by kernel_rfl) (by kernel_rfl) (by kernel_rfl) (by kernel_rfl) (fun _ _ _ h=>h) (Or.inl ⟨by rfl,?_⟩) hS ?_
         rotate_left
         ·intro W hSW
          obtain⟨s1_,s2_,s3_⟩:=hSW
          go_simp
          all_goals (with_reducible rfl)
         simp only[Act.put]
         refine anyE_take (i:=8) (v := ?_) rfl (by kernel_rfl) (by kernel_rfl) (by kernel_rfl) (by kernel_rfl) (fun _ _ _ h=>h) (Or.inl ⟨by rfl,?_⟩) hS ?_
         rotate_left
         ·intro W hSW
          obtain⟨s1_,s2_,s3_⟩:=hSW
          go_simp
          all_goals (with_reducible rfl)
         simp only[Act.put]
         refine anyE_take (i:=9) (v := ?_) rfl (by kernel_rfl) (by kernel_rfl) (by kernel_rfl) (by kernel_rfl) (fun _ _ _ h=>h) (Or.inl ⟨by rfl,?_⟩) hS ?_
         rotate_left
         ·intro W hSW
          obtain⟨s1_,s2_,s3_⟩:=hSW
          go_simp
          all_goals (with_reducible rfl)
         simp only[Act.put]
         refine anyE_take (i:=10) (v := ?_) rfl (by kernel_rfl) (by kernel_rfl) (by kernel_rfl) (by kernel_rfl) (fun _ _ _ h=>h) (Or.inl ⟨by rfl,?_⟩) hS ?_
         rotate_left
         ·intro W hSW
          obtain⟨s1_,s2_,s3_⟩:=hSW
          go_simp
          all_goals (with_reducible rfl)
         simp only[Act.put]
         refine anyE_take (i:=11) (v := ?_) rfl (by kernel_rfl) (by kernel_rfl) (by kernel_rfl) (by kernel_rfl) (fun _ _ _ h=>h) (Or.inl ⟨by rfl,?_⟩) hS ?_
         rotate_left
         ·intro W hSW
          obtain⟨s1_,s2_,s3_⟩:=hSW
          go_simp
          all_goals (with_reducible rfl)
         simp only[Act.put]
         refine anyE_take (i:=12) (v := ?_) rfl (by kernel_rfl) (by kernel_rfl) (by kernel_rfl) (by kernel_rfl) (fun _ _ _ h=>h) (Or.inl ⟨by rfl,?_⟩) hS ?_
         rotate_left
         ·intro W hSW
          obtain⟨s1_,s2_,s3_⟩:=hSW
          go_simp
          all_goals (with_reducible rfl)
         simp only[Act.put]
         refine anyE_take (i:=13) (v := ?_) rfl (by kernel_rfl) (by kernel_rfl) (by kernel_rfl) (by kernel_rfl) (fun _ _ _ h=>h) (Or.inl ⟨by rfl,?_⟩) hS ?_
         rotate_left
         ·intro W hSW
          obtain⟨s1_,s2_,s3_⟩:=hSW
          go_simp
          all_goals (with_reducible rfl)
         simp only[Act.put]
         refine anyE_take (i:=14) (v := ?_) rfl (by kernel_rfl) (by kernel_rfl) (by kernel_rfl) (by kernel_rfl) (fun _ _ _ h=>h) (Or.inl ⟨by rfl,?_⟩) hS ?_
         rotate_left
         ·intro W hSW
          obtain⟨s1_,s2_,s3_⟩:=hSW
          go_simp
          all_goals (with_reducible rfl)
         simp only[Act.put]
         refine anyE_take (i:=15) (v := ?_) rfl (by kernel_rfl) (by kernel_rfl) (by kernel_rfl) (by kernel_rfl) (fun _ _ _ h=>h) (Or.inl ⟨by rfl,?_⟩) hS ?_
         rotate_left
         ·intro W hSW
          obtain⟨s1_,s2_,s3_⟩:=hSW
          go_simp
          all_goals (with_reducible rfl)
         simp only[Act.put]
         refine anyE_take (i:=16) (v := ?_) rfl (by kernel_rfl) (by kernel_rfl) (by kernel_rfl) (by kernel_rfl) (fun _ _ _ h=>h) (Or.inl ⟨by rfl,?_⟩) hS ?_
         rotate_left
         ·intro W hSW
          obtain⟨s1_,s2_,s3_⟩:=hSW
          go_simp
          all_goals (with_reducible rfl)
         simp only[Act.put]
         refine anyE_take (i:=17) (v := ?_) rfl (by kernel_rfl) (by kernel_rfl) (by kernel_rfl) (by kernel_rfl) (fun _ _ _ h=>h) (Or.inl ⟨by rfl,?_⟩) hS ?_
         rotate_left
         ·intro W hSW
          obtain⟨s1_,s2_,s3_⟩:=hSW
          go_simp
          all_goals (with_reducible rfl)
         simp only[Act.put]
         refine anyE_take (i:=18) (v := ?_) rfl (by kernel_rfl) (by kernel_rfl) (by kernel_rfl) (by kernel_rfl) (fun _ _ _ h=>h) (Or.inl ⟨by rfl,?_⟩) hS ?_
         rotate_left
         ·intro W hSW
          obtain⟨s1_,s2_,s3_⟩:=hSW
          go_simp
          all_goals (with_reducible rfl)
         simp only[Act.put]
         refine anyE_take (i:=19) (v := ?_) rfl (by kernel_rfl) (by kernel_rfl) (by kernel_rfl) (by kernel_rfl) (fun _ _ _ h=>h) (Or.inl ⟨by rfl,?_⟩) hS ?_
         rotate_left
         ·intro W hSW
          obtain⟨s1_,s2_,s3_⟩:=hSW
          go_simp
          all_goals (with_reducible rfl)
         simp only[Act.put]
         refine anyE_take (i:=20) (v := ?_) rfl (by kernel_rfl) (by kernel_rfl) (by kernel_rfl) (by kernel_rfl) (fun _ _ _ h=>h) (Or.inl ⟨by rfl,?_⟩) hS ?_
         rotate_left
         ·intro W hSW
          obtain⟨s1_,s2_,s3_⟩:=hSW
          go_simp
          all_goals (with_reducible rfl)
         simp only[Act.put]
         refine anyE_take (i:=21) (v := ?_) rfl (by kernel_rfl) (by kernel_rfl) (by kernel_rfl) (by kernel_rfl) (fun _ _ _ h=>h) (Or.inl ⟨by rfl,?_⟩) hS ?_
         rotate_left
         ·intro W hSW
          obtain⟨s1_,s2_,s3_⟩:=hSW
          go_simp
          all_goals (with_reducible rfl)
         simp only[Act.put]
         refine anyE_only (i:=22) (by kernel_rfl) (op_step rfl (fun K hK => ?_))
         go_simp
         refine hK.out _ _ ⟨fun _=>hS,?_⟩
         clear hK K
         refine anyE_only (i:=23) (by kernel_rfl) (op_step rfl (fun K hK => ?_))
         go_simp
         refine hK.out _ _ ⟨fun _=>hS,?_⟩
         clear hK K
         refine anyE_only (i:=24) (by kernel_rfl) (op_step rfl (fun K hK => ?_))
         obtain⟨s1_,s2_,s3_⟩:=hS
         go_simp
         refine hK.out _ _ ⟨fun e=>absurd rfl e,?_⟩
         refine anyE_done (by kernel_rfl) ?_ _
         clear hK K
         go_wp2_with fail
         go_meet
         first | rw[if_pos rfl] | rw[if_pos trivial]
         exact HFIN2.out
      case rest =>
       obtain⟨s1',hs1'⟩:∃s1':Rz.RS,s1'=if ow=true then bumpP s1 else s1:=⟨_,rfl⟩
       rw[←hs1'] at hcut
       have hb1:s1'.blocks=s1.blocks∧s1'.labels=s1.labels∧s1'.loops=s1.loops∧s1'.scopes.length=s1.scopes.length:=by
        rw[hs1']
        split
        ·exact⟨rfl,rfl,rfl,by unfold bumpP;simp⟩
        ·exact⟨rfl,rfl,rfl,rfl⟩
       have hc1:cr s1'≤cr s1+1:=by
        rw[hs1']
        split
        ·exact cr_bump s1
        ·omega
       have HB1:Hid (s1'.blocks=s1.blocks∧s1'.scopes.length=s1.scopes.length):=⟨hb1.1,hb1.2.2.2⟩
       have HS1':Hid (s1'=if selfB x=true then bumpP s1 else s1):=by show _=_;rw[←HOW2.out];exact hs1'
       have hbk:e0.blocks.length=s.blocks.length+(if ow=true then 2 else 1):=by rw[←HEB.out.1,HOW2.out];exact enter_blk x ps.length s
       have HBK:Hid (e0.blocks.length=s.blocks.length+(if ow=true then 2 else 1)):=hbk
       have kb:=relT HE1.out hcut (fun O5 o5=>HBL.out wc O5 s1' c1 a1 (.slice none 0 0) o5 (by have h1:=HBB.out.1;have h2:=HBB.out.2.2.1;have h3:=HT1.out.cr;have h4:=HEB.out.2.1;omega) (by
        have h1:=HT1.out.lk.blen
        have h2:=HT1.out.lk.labels
        have h3:=HT1.out.lk.loops
        have h4:=HEB.out.2.2.2.1
        have h5:=HEB.out.2.2.2.2.1
        have h6:=HEB.out.2.2.2.2.2.2
        have h7:=HBB.out.2.1
        unfold dp at h7 ⊢
        rw[hb1.1,hb1.2.1,hb1.2.2.1,h2,h3,h4,h5,h1]
        simp only[List.length_nil]
        omega) (by rw[hb1.1,HT1.out.lk.blen];exact HEB.out.2.2.2.2.2.1))
       obtain⟨⟨_,_,_,x5⟩,hbel⟩:=HNB.out _ _ _ wc hcut
       have xk:=(HKD.out wc hbel).2
       have hpl2:(ps.length:Int)<(ps.length:Int)+1:=by omega
       have hpl0:(0:Int)≤(ps.length:Int):=by omega
       have HLV:Hid (∀(sF:Rz.RS) (cF aF:Int) (wF:World),RWent wE W0.heap.size wb O1 sF cF aF (.slice none 0 0) wF→s.fn<sF.scopes.length→(wF.cell? ⟨wb,4,none⟩=some (.int .i64 (sF.fn:Int))∧wF.cell? ⟨wb,5,none⟩=some (.slice none 0 0)∧wF.cell? ⟨wb,6,none⟩=some (.int .i64 (sF.loops:Int))∧∀j,wF.frozen? ⟨wb,j,none⟩=false)∧RWent wn W0.heap.size wb O { sF with fn:=s.fn,loops:=s.loops,labels:=s.labels } cF aF (.slice ad6 s.labels.length cap6) (((wF.setCell ⟨wb,4,none⟩ (.int .i64 (s.fn:Int))).setCell ⟨wb,5,none⟩ (.slice ad6 s.labels.length cap6)).setCell ⟨wb,6,none⟩ (.int .i64 (s.loops:Int)))):=fun sF cF aF wF hF hfn=>by
        obtain⟨O8,m8,r1,r2⟩:=hF
        have hO8:∀b',O8 b'→O b'∨wn.heap.size≤b':=fun b' q=>by
         rcases r2 b' q with z | z
         ·exact HG.out.2.1 b' z
         ·exact Or.inr (Nat.le_trans HG.out.1.size z)
        refine HN.out.1.mem.leave (HG.out.1.trans r1 (fun i' hi q => ?_)) hO8 (fun b' q q2 => ?_) (HG.out.2.2.2.1.kept r1 (fun b' q q2=>HG.out.2.2.1 b' q q2)) HG.out.2.2.2.2 m8 hfn
        ·rcases HG.out.2.1 i' q with z | z
         ·exact z
         ·omega
        ·rcases r2 b' q2 with z | z
         ·exact HG.out.2.2.1 b' q z
         ·have:=(HG.out.2.2.2.1.lt b' q).2;omega
       clear hcut hbel hb1 hc1 hs1' hbk HNB HKD HBL HS1 HG
       go_wp2_with fail
       refine kb.mono ?_
       rintro e w3 ⟨rfl,s2,c2,a2,ht2,hw2⟩
       have HTF:Hid (Told (3+2*ps.length+(8*szT n bd - 8)) (functionR (ndR n) (resR bi n).2.2 x (ps++[bd]) s) s 0 a { s2 with blocks:=s2.blocks.drop (if ow=true then 2 else 1),fn:=s.fn,loops:=s.loops,labels:=s.labels } c2 a2):=by
        have:=told_func (n:=n) (body:=(resR bi n).2.2) (x:=x) (ps:=ps) (bd:=bd) (s:=s) (s1:=s1) (s2:=s2) (a:=a) (c1:=c1) (a1:=a1) (c2:=c2) (a2:=a2) (kb:=8*szT n bd - 8) HBB.out.2.2.2.2.2.1 (by rw[HEB.out.1];exact HT1.out) (by rw[←HS1'.out];exact ht2)
        show Told _ _ _ _ _ _ _ _
        rw[HOW2.out]
        exact this
       have hbl2:s2.blocks.length=s.blocks.length+(if ow=true then 2 else 1):=by rw[ht2.lk.blen,HB1.out.1,HT1.out.lk.blen,HBK.out]
       have hsc2:s.fn<s2.scopes.length:=by
        have h1:=ht2.lk.scs
        have h2:=HB1.out.2
        have h3:=HT1.out.lk.scs
        have h4:=HEB.out.2.2.1
        have h5:=HN.out.2.2.2.2
        omega
       have HB2:Hid (s2.blocks.length=s.blocks.length+(if ow=true then 2 else 1)∧s.fn<s2.scopes.length):=⟨hbl2,hsc2⟩
       have ks:=relG HE1.out hw2 (fun O6 o6=>shut_any w3 W0.heap.size wb O6 s2 c2 a2 (.slice none 0 0) o6.mem (by rw[hbl2];split <;> omega))
       clear kb ht2 hw2 hbl2 hsc2 x5 xk HT1 HS1' HB1 HBK
       go_wp2_with fail
       refine ks.mono ?_
       rintro e w4' ⟨rfl,hw4⟩
       clear ks
       cases ow with
       | false =>
         obtain⟨⟨l4,l5,l6,lf⟩,hfin⟩:=HLV.out _ _ _ w4' hw4 HB2.out.2
         have f4:=lf 4
         have f5:=lf 5
         have f6:=lf 6
         have HE9:Hid (P (.returned (.tuple #[])) (((w4'.setCell ⟨wb,4,none⟩ (.int .i64 (s.fn:Int))).setCell ⟨wb,5,none⟩ (.slice ad6 s.labels.length cap6)).setCell ⟨wb,6,none⟩ (.int .i64 (s.loops:Int)))):=by
          rw[HP.out]
          refine⟨rfl,_,c2,a2,HTF.out.mono (by rw[HBB.out.2.2.2.2.1];have h1:=HBB.out.2.2.1;have h2:=HBB.out.2.2.2.1;omega),?_⟩
          exact(show RWent wn W0.heap.size wb O _ c2 a2 (.slice ad6 s.labels.length cap6) _ from hfin).behind HN.out.2.1
         clear hw4 hfin lf HLV HTF HB2 HEB HBB HP HE1 HN HOW2
         go_wp2_with fail
         go_end0
         exact HE9.out
       | true =>
         have ks2:=relG HE1.out hw4 (fun O6 o6=>shut_any w4' W0.heap.size wb O6 (shutP s2) c2 a2 (.slice none 0 0) o6.mem (by have h1:=HB2.out.1;unfold shutP;simp only[List.length_drop];rw[h1,if_pos rfl];omega))
         clear hw4
         go_wp2_with fail
         refine ks2.mono ?_
         rintro e w5' ⟨rfl,hw5⟩
         obtain⟨⟨l4,l5,l6,lf⟩,hfin⟩:=HLV.out _ _ _ w5' hw5 HB2.out.2
         have f4:=lf 4
         have f5:=lf 5
         have f6:=lf 6
         have HE9:Hid (P (.returned (.tuple #[])) (((w5'.setCell ⟨wb,4,none⟩ (.int .i64 (s.fn:Int))).setCell ⟨wb,5,none⟩ (.slice ad6 s.labels.length cap6)).setCell ⟨wb,6,none⟩ (.int .i64 (s.loops:Int)))):=by
          rw[HP.out]
          have hm:=HTF.out.mono (k':=8*(1+((ps++[bd]).map (szT n)).sum) - 2) (by rw[HBB.out.2.2.2.2.1];have h1:=HBB.out.2.2.1;have h2:=HBB.out.2.2.2.1;omega)
          have e2:({ shutP (shutP s2) with fn:=s.fn,loops:=s.loops,labels:=s.labels }:Rz.RS)={ s2 with blocks:=s2.blocks.drop 2,fn:=s.fn,loops:=s.loops,labels:=s.labels }:=by
           unfold shutP
           simp only[List.drop_drop]
          simp only[if_true] at hm
          refine⟨rfl,_,c2,a2,hm,?_⟩
          rw[←e2]
          exact hfin.behind HN.out.2.1
         clear hw5 hfin lf HLV HTF HB2 HEB HBB HP HE1 HN HOW2 ks2
         go_wp2_with fail
         go_end0
         exact HE9.out
end Go.Proofs.YtihmdcdifakepaaGreat.Rv.Rx
