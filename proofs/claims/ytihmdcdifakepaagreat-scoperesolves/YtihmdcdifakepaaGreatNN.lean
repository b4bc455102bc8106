/- NN -/
import Derived.Test.YtihmdcdifakepaaGreatB30
set_option linter.unusedVariables false
set_option linter.unusedSimpArgs false
set_option maxRecDepth 100000
set_option maxHeartbeats 40000000
namespace Go.Proofs.YtihmdcdifakepaaGreat.Rv
open Go.RowKit Go.Proofs.YtihmdcdifakepaaGreat.Sc Go.Proofs.YtihmdcdifakepaaGreat.Rz
theorem fun_is {n:Nat}(x:Nd)(l:List (Tr n))(c:Tr n)(s:Rz.RS):functionP (ndR n) (resP bi n).2 x (l++[c]) s=if s.scopes.length=200 then .error (x.pl,72) else (parsP (ndR n) l (enterP x l.length s)).bind fun s1=>((resP bi n).2 c (bpS x s1)).bind fun s2 => .ok { shutP (shutP s2) with fn:=s.fn,loops:=s.loops,labels:=s.labels }:=by
 unfold functionP bpS
 simp
structure FnE (W0:World)(n:Nat)(w wc:World)(rb:Nat)(O:Nat→Prop)(s:Rz.RS)(v6:Value)(x:Nd)(kv:Value)(l:List (Tr n))(c:Tr n)(w6:World)(O1:Nat→Prop):Prop where
 on:On W0 rb O1 (inS x l.length s) (.slice none 0 0) w6
 fk:FnK W0 n w6 rb O1 s (.slice none 0 0) x kv l.length l c
 ch:Chg O wc w6
 nd:¬O1 w.heap.size
 ar:¬O1 (w.heap.size+1)
 er:∀W,Chg O1 w6 W→Chg O w W
 bk:∀s2 w2,Went w6 W0.heap.size rb O1 s2 (.slice none 0 0) w2→s.fn<s2.scopes.length→Went w W0.heap.size rb O { s2 with fn:=s.fn,loops:=s.loops,labels:=s.labels } v6 (hereW w2 rb s.fn s.loops v6)
theorem wrap_len {m:Nat}(h:m≤100000000):IntKind.i64.wrap ((m:Int)+1 - 1)=(m:Int)∧IntKind.i64.wrap (m:Int)=(m:Int)∧wrap64 (m:Int)=(m:Int)∧(m:Int)<(m:Int)+1∧(0:Int)≤(m:Int) :=
 ⟨by rw[IntKind.wrap_i64];omega,by rw[IntKind.wrap_i64];omega,by unfold wrap64;omega,by omega,by omega⟩
def ArB (ab:Nat)(f lo:Int)(v:Value)(w:World):Prop:=w.heap[ab]?=some (.cells #[.int .i64 f,.int .i64 lo,v] 43 (0,0))
theorem ArB.chg {ab:Nat}{f lo:Int}{v:Value}{w w':World}{S:Nat→Prop}(h:ArB ab f lo v w)(hc:Chg S w w')(hn:¬S ab):ArB ab f lo v w':=by
 unfold ArB at *
 rw[hc.block ab (Array.getElem?_eq_some_iff.1 h).1 hn]
 exact h
theorem ArB.cs {ab:Nat}{f lo:Int}{v:Value}{w:World}(h:ArB ab f lo v w):w.cell? ⟨ab,0,none⟩=some (.int .i64 f)∧w.cell? ⟨ab,1,none⟩=some (.int .i64 lo)∧w.cell? ⟨ab,2,none⟩=some v :=
 ⟨cell_of_row w _ 0 _ _ (0,0) h,cell_of_row w _ 1 _ _ (0,0) h,cell_of_row w _ 2 _ _ (0,0) h⟩
theorem fun_self (W0:World)(n:Nat)(hN:∀m,m≤n→NC W0 m)(w:World)(rb:Nat)(O:Nat→Prop)(s:Rz.RS)(v6:Value)(h0:On W0 rb O s v6 w)(x:Nd)(hnm:x.name.size≤maxLen)(hsf:selfB x=true)(b off kc:Nat)(l:List (Tr n))(c:Tr n)(hok:Sli.ok (encT n) 6 W0 ⟨some ⟨b,off,none⟩,kc,l++[c]⟩)(hks:∀y∈l++[c],okF n W0 y)(hb:cr s+8+8*((l.map (szT n)).sum+szT n c)≤lim)(hd:dp s+4+4*n≤lim) :
  Calls Tryz.prog 82 #[.pointer (some ⟨rb,0,none⟩),.agg #[.int .i64 x.kind,.int .i64 x.pl,.string x.name,.int .u64 x.num,.string x.op,.slice (some ⟨b,off,none⟩) (l.length+1) kc]] w (Out w W0.heap.size rb O v6 (.tuple #[]) (functionP (ndR n) (resP bi n).2 x (l++[c]) s)):=by
 obtain⟨la,ll,lc,hv6⟩:∃la ll lc,v6 = .slice la ll lc:=by
  obtain⟨s6,hv,_,_⟩:=lab_sl h0.mem
  exact⟨_,_,_,hv⟩
 subst hv6
 have hkc:l.length+1≤kc:=by have:=hok.len;simpa using this
 have hkm:kc≤maxLen:=hok.cap
 obtain⟨wb,hwb⟩:∃wb,wb=w.alloc (.cells #[.int .i64 x.kind,.int .i64 x.pl,.string x.name,.int .u64 x.num,.string x.op,.slice (some ⟨b,off,none⟩) (l.length+1) kc] 25):=⟨_,rfl⟩
 have hbl:Below w.heap.size w wb:=by rw[hwb];exact below_new (Below.refl _ _) (Nat.le_refl _) _
 have hX:NdB w.heap.size x (.slice (some ⟨b,off,none⟩) (l.length+1) kc) wb:=by rw[hwb];exact at_new _ _
 have h:=h0.below hbl
 have hwl:wb.heap.size=w.heap.size+1:=by rw[hwb,size_new]
 have hOlt:∀b,O b→b<w.heap.size:=fun b q=>(h0.mem.lt b q).2
 obtain⟨wc,hwc⟩:∃wc,wc=wb.alloc (.cells #[.int .i64 (s.fn:Int),.int .i64 (s.loops:Int),.slice la ll lc] 43):=⟨_,rfl⟩
 have hbc:Below wb.heap.size wb wc:=by rw[hwc];exact below_new (Below.refl _ _) (Nat.le_refl _) _
 have hA:ArB wb.heap.size s.fn s.loops (.slice la ll lc) wc:=by rw[hwc];exact at_new _ _
 have hcl:wc.heap.size=w.heap.size+2:=by rw[hwc,size_new,hwl]
 have hC:=h.below hbc
 obtain⟨v0b,c0,-⟩:=h.mem.enter
 obtain⟨v0,e0,er0,eo0,ENT⟩:=hC.mem.enter
 have hv0:v0b=v0:=Option.some.inj ((Sc.cells_below hbc _ _ c0).symm.trans e0)
 subst hv0
 obtain⟨ad,cap,rfl,l1,l2,-⟩:=own_slice er0
 obtain⟨c4,c5,c6,cf⟩:=h.mem.cells
 obtain⟨d4,d5,d6,df⟩:=hC.mem.cells
 have e00:=e0
 have f4:=df 4
 have f5:=df 5
 have f6:=df 6
 have HB:Hid (Below w.heap.size w wb):=hbl
 have HBC:Hid (Below w.heap.size w wc):=hbl.trans (hbc.mono hbl.size)
 have HBD:Hid (Below wb.heap.size wb wc):=hbc
 have HOL:Hid (∀b,O b→b<w.heap.size):=hOlt
 have HFN:Hid (s.fn<s.scopes.length):=(Went.same h0.mem (Below.refl _ _)).gd
 have hsc:s.scopes.length≤100000000:=by unfold cr lim at hb;omega
 have hmy:l.length≤100000000:=by have:=sum_len (szT n) (sz_pos n) l;unfold lim at hb;omega
 obtain⟨wd,hwd⟩:∃wd,wd=hereW wc rb s.scopes.length 0 (.slice none 0 0):=⟨_,rfl⟩
 have hdc:Chg (fun k=>k=rb) wc wd:=by rw[hwd];exact here_chg wc rb s.scopes.length 0 (.slice none 0 0)
 have hrlt:rb<w.heap.size:=h0.mem.rlt
 have hds:wd.heap.size=wc.heap.size:=by rw[hwd];unfold hereW;simp
 have hX6:NdB w.heap.size x (.slice (some ⟨b,off,none⟩) (l.length+1) kc) wd:=(hX.chg (O:=fun _=>False) (Chg.of_below hbc) id).chg hdc (by omega)
 have hA6:ArB wb.heap.size s.fn s.loops (.slice la ll lc) wd:=hA.chg hdc (by omega)
 have hrow:OwnR scpC 4 53 W0.heap.size wd (.slice ad s.scopes.length cap) s.scopes:=by rw[hwd];exact er0.here (fun b q=>(eo0 b q).2) _ _ _
 have hz0:wd.cell? ⟨rb,0,none⟩=some (.slice ad s.scopes.length cap)∧∀j,wd.frozen? ⟨rb,j,none⟩=false:=by
  rw[hwd]
  unfold hereW
  refine⟨?_,fun j => ?_⟩
  ·rw[World.cell?_setCell_other _ _ _ _ (by simp),World.cell?_setCell_other _ _ _ _ (by simp),World.cell?_setCell_other _ _ _ _ (by simp)]
   exact e0
  ·simp[go_sem]
   exact df j
 have HAL:Hid (Below wd.heap.size wd (wd.drew.alloc (.cells #[.int .i64 x.pl,.int .i64 (s.fn:Int),.int .i64 (l.length:Int),.int .i64 0] 53))):=((Below.refl wd.heap.size wd).drew).alloc (Nat.le_refl _) _
 have HOW:Hid (OwnR scpC 4 53 W0.heap.size (wd.drew.alloc (.cells #[.int .i64 x.pl,.int .i64 (s.fn:Int),.int .i64 (l.length:Int),.int .i64 0] 53)) (.slice ad s.scopes.length cap) s.scopes):=hrow.below HAL.out
 have HBB:Hid (W0.heap.size≤wd.heap.size):=by
  have h1:=h0.bel.size
  show _≤_
  omega
 have HBX:Hid (((s.scopes.length+1)+(s.scopes.length+1) / 4+192)*32≤281474976710656∧s.scopes.length+1≤maxLen):=⟨by omega,by unfold maxLen;omega⟩
 have HFZ:Hid (∀w5,Chg (fun b=>(Value.slice ad s.scopes.length cap).ownBlock=some b) wd w5→w5.cell? ⟨rb,0,none⟩=some (.slice ad s.scopes.length cap)∧w5.frozen? ⟨rb,0,none⟩=false):=fun w5 h5=>by
  have hrs:¬(Value.slice ad s.scopes.length cap).ownBlock=some rb:=fun q=>(eo0 rb q).2 rfl
  exact⟨h5.cell hz0.1 hrs,by rw[World.frozen?_of_block (w:=wd) (h5.block rb (by omega) hrs)];exact hz0.2 0⟩
 have HE:Hid (∀w5 g5 cap5,OwnR scpC 4 53 W0.heap.size w5 (.slice (some ⟨g5,0,none⟩) (s.scopes.length+1) cap5) (s.scopes++[⟨x.pl,(s.fn:Int),l.length,0⟩])→Chg (fun b=>(Value.slice ad s.scopes.length cap).ownBlock=some b) wd w5→((Value.slice ad s.scopes.length cap).ownBlock=some g5∨wd.heap.size≤g5)→∃O1,FnE W0 n w wc rb O s (.slice la ll lc) x (.slice (some ⟨b,off,none⟩) (l.length+1) kc) l c (w5.setCell ⟨rb,0,none⟩ (.slice (some ⟨g5,0,none⟩) (s.scopes.length+1) cap5)) O1):=fun w5 g5 cap5 q1 q2 q3=>by
  obtain⟨O1,m1,m2,m3,m4⟩:=ENT ⟨x.pl,(s.fn:Int),l.length,0⟩ w5 (.slice (some ⟨g5,0,none⟩) (s.scopes.length+1) cap5) (by rw[←hwd];exact q2) q1 (fun b q=>by
   have e:g5=b:=by simpa [Value.ownBlock] using q
   subst e
   rcases q3 with q | q
   ·exact Or.inl q
   ·exact Or.inr (by omega))
  have hno:∀k,w.heap.size≤k→k<w.heap.size+2→¬O1 k:=fun k k1 k2 q=>by
   rcases m3 k q with r | r
   ·have:=hOlt k r;omega
   ·omega
  have on1:On W0 rb O1 (inS x l.length s) (.slice none 0 0) (w5.setCell ⟨rb,0,none⟩ (.slice (some ⟨g5,0,none⟩) (s.scopes.length+1) cap5)):=⟨m1,m2.below hC.bel hC.bel.size (fun b q=>(hC.mem.lt b q).1)⟩
  have hcw:Chg O w (w5.setCell ⟨rb,0,none⟩ (.slice (some ⟨g5,0,none⟩) (s.scopes.length+1) cap5)):=(Chg.of_below HBC.out).trans m2 (fun _ _ q=>q)
  refine⟨O1,on1,fnK_of (fun m hm=>hN m (Nat.le_of_lt hm)) on1 hnm (fun y hy=>hks y (List.mem_append_left _ hy)) (hks c (by simp)) hb hd,m2,hno _ (Nat.le_refl _) (by omega),hno _ (by omega) (by omega),fun W hW=>hcw.trans hW (fun a ha q => ?_),fun s2 w2 k1 k2=>(m4 s2 w2 k1 k2).behind HBC.out⟩
  rcases m3 a q with r | r
  ·exact r
  ·omega
 have HK:Hid (∀W,Below W0.heap.size W0 W→Sli.ok (encT n) 6 W ⟨some ⟨b,off,none⟩,kc,l⟩):=fun W hW=>(kids_init hok).kept (Sc.cells_below hW)
 have HKC:Hid (∀W,Below W0.heap.size W0 W→W.cell? ⟨b,off+l.length*6+5,none⟩=some (.slice (atT n c) (nkT n c) (capT n c))):=fun W hW=>(kid_val (hok.kept (Sc.cells_below hW)) (k:=l.length) (y:=c) (by simp)).2.2.2.2.2
 have hsl:∀w:World,(Instr.slice 23 (.slice (some ⟨b,off,none⟩) (l.length+1) kc) none (some (.int .i64 (l.length:Int))) none).run Tryz.prog w = .ok (.slice (some ⟨b,off,none⟩) l.length kc) w:=fun w=>run_init w b off l.length kc hkc hkm
 obtain⟨hwm,hwm2,hwm3,hltm,hge0⟩:=wrap_len hmy
 obtain⟨R,hR⟩:∃R,R=functionP (ndR n) (resP bi n).2 x (l++[c]) s:=⟨_,rfl⟩
 rw[←hR]
 rw[fun_is] at hR
 have HR:Hid (R=if s.scopes.length=200 then .error (x.pl,72) else (parsP (ndR n) l (enterP x l.length s)).bind fun s1=>((resP bi n).2 c (bpS x s1)).bind fun s2 => .ok { shutP (shutP s2) with fn:=s.fn,loops:=s.loops,labels:=s.labels }):=hR
 have HXW:Hid (∀W,Chg O wb W→NdB w.heap.size x (.slice (some ⟨b,off,none⟩) (l.length+1) kc) W):=fun W hc=>hX.chg hc (fun q=>by have:=hOlt _ q;omega)
 have HAW:Hid (ArB wb.heap.size s.fn s.loops (.slice la ll lc) wc):=hA
 have HX6:Hid (NdB w.heap.size x (.slice (some ⟨b,off,none⟩) (l.length+1) kc) wd):=hX6
 have HA6:Hid (ArB wb.heap.size s.fn s.loops (.slice la ll lc) wd):=hA6
 obtain⟨-,a1,-,-,-,a5⟩:=hX.cs
 obtain⟨-,x1,-⟩:=hX6.cs
 obtain⟨y0,-⟩:=hA6.cs
 have z0:=hz0.1
 have z0':(wd.alloc (.cells #[.int .i64 x.pl,.int .i64 (s.fn:Int),.int .i64 (l.length:Int),.int .i64 0] 53)).cell? ⟨rb,0,none⟩=some (.slice ad s.scopes.length cap):=Sc.cells_below ((Below.refl wd.heap.size wd).alloc (Nat.le_refl _) _) _ _ z0
 have HWL:Hid (wb.heap.size=w.heap.size+1∧wc.heap.size=w.heap.size+2):=⟨hwl,hcl⟩
 have hne:¬rb=wd.heap.size:=by omega
 unfold hereW at hwd
 rw[Int.natCast_zero] at hwd
 have HSC:Hid (s.scopes.length≤100000000∧l.length≤100000000):=⟨hsc,hmy⟩
 clear h h0 hok hks hb hd hN hR hbl hbc hX hX6 hA hA6 hnm hC e0 er0 eo0 ENT l1 l2 cf df hdc hrow hz0 hkc hkm hOlt hwl hcl hds hrlt hsc hmy
 go_enter Tryz.func82,Tryz.ntmps82
 go_upto_region 1 with fail
 rw[←hwb]
 clear hwb
 by_cases c200:s.scopes.length=200
 ·have hq:((s.scopes.length:Int) == 200)=true:=by rw[c200];rfl
  have HC2:Hid (s.scopes.length=200):=c200
  clear HE HFZ HBX HOW HAL HK HKC c200
  go_wp2_with fail
  refine⟨rfl,?_⟩
  rw[HR.out,if_pos HC2.out]
  exact⟨rfl,Chg.of_below HB.out⟩
 have hq:((s.scopes.length:Int) == 200)=false:=by
  rw[beq_eq_false_iff_ne]
  omega
 have HR2:=HR.out
 rw[if_neg c200] at HR2
 clear HR c200
 have HR:Hid (R=(parsP (ndR n) l (enterP x l.length s)).bind fun s1=>((resP bi n).2 c (bpS x s1)).bind fun s2 => .ok { shutP (shutP s2) with fn:=s.fn,loops:=s.loops,labels:=s.labels }):=HR2
 clear HR2
 go_upto_region 5 with fail
 rw[←hwc]
 clear hwc c4 c5 c6 a1 a5 c0
 go_upto_region 6 with fail
 rw[←hwd]
 clear hwd d4 d5 d6 f4 f5 f6 e00
 go_region_law ((refine step_row rtScp (by rfl) _ _ (by rfl) W0.heap.size (.slice ad s.scopes.length cap) s.scopes (by rfl) (by exact HOW.out) wd.heap.size ⟨x.pl,(s.fn:Int),l.length,0⟩ #[.int .i64 x.pl,.int .i64 (s.fn:Int),.int .i64 (l.length:Int),.int .i64 0] 53 (by rfl) (by exact at_new _ _) (by rfl) (by exact HBX.out.2) (by exact HBX.out.1) (by exact Nat.le_trans HBB.out HAL.out.size) ?_;intro g5 cap5 w5 ho5 hg5 hl5;have HO:Hid (OwnR scpC 4 53 W0.heap.size w5 (.slice (some ⟨g5,0,none⟩) (s.scopes.length+1) cap5) (s.scopes++[⟨x.pl,(s.fn:Int),l.length,0⟩])∧Chg (fun b=>(Value.slice ad s.scopes.length cap).ownBlock=some b) wd w5∧((Value.slice ad s.scopes.length cap).ownBlock=some g5∨wd.heap.size≤g5)):=⟨ho5,(Chg.of_below HAL.out).trans (Chg.of_grown (S:=fun b=>(Value.slice ad s.scopes.length cap).ownBlock=some b) hg5 (fun k q=>q)) (fun _ _ q=>q),hl5.imp id (fun q=>by rw[q];exact HAL.out.size)⟩;obtain⟨z1,z2⟩:=HFZ.out w5 HO.out.2.1;clear ho5 hg5 hl5))
 all_goals
  obtain⟨O1,hE⟩:=HE.out w5 g5 cap5 HO.out.1 HO.out.2.1 HO.out.2.2
  generalize hw6:w5.setCell ⟨rb,0,none⟩ (.slice (some ⟨g5,0,none⟩) (s.scopes.length+1) cap5)=w6 at *
  have HEE:Hid (FnE W0 n w wc rb O s (.slice la ll lc) x (.slice (some ⟨b,off,none⟩) (l.length+1) kc) l c w6 O1):=hE
  have HALL:Hid (∀W,Chg O1 w6 W→NdB w.heap.size x (.slice (some ⟨b,off,none⟩) (l.length+1) kc) W∧ArB wb.heap.size s.fn s.loops (.slice la ll lc) W∧Below W0.heap.size W0 W):=fun W hc=>by
   have h1:=HXW.out w6 ((Chg.of_below HBD.out).trans hE.ch (fun _ _ q=>q))
   have h2:=HAW.out.chg hE.ch (fun q=>by have:=HOL.out _ q;have:=HWL.out.1;omega)
   exact⟨h1.chg hc hE.nd,h2.chg hc (by rw[HWL.out.1];exact hE.ar),hc.below hE.on.bel hE.on.bel.size (fun b q=>(hE.on.mem.lt b q).1)⟩
  have k7:=HEE.out.fk.opn
  clear hE hw6 HO HE HFZ HBX HOW HAL HBB z0 z0' z1 z2 x1 y0 hne HX6 HA6 HXW HAW HBD HWL HOL hq
  go_wp2_with fail
  refine k7.mono ?_
  rintro e w7 ⟨rfl,g7⟩
  obtain⟨a0,a1,a2,a3,a4,a5⟩:=(HALL.out w7 g7.chg).1.cs
  have k8:=HEE.out.fk.slf _ w7 g7
  rw[hsf] at k8
  clear k7 g7
  go_wp2_with fail
  refine k8.mono ?_
  rintro e w8 ⟨rfl,g8⟩
  clear k8 a0 a1 a2 a3 a4 a5
  obtain⟨a0,a1,a2,a3,a4,a5⟩:=(HALL.out w8 g8.chg).1.cs
  have k9:=HEE.out.fk.var w8 g8
  clear g8
  go_wp2_with fail
  refine k9.mono ?_
  rintro e w9 ⟨rfl,g9'⟩
  have g9:Went w6 W0.heap.size rb O1 (slS x l.length s) (.slice none 0 0) w9:=by unfold slS;rw[hsf];exact g9'
  clear k9 g9' a0 a1 a2 a3 a4 a5
  have k10:=HEE.out.fk.op2 w9 g9
  clear g9
  go_wp2_with fail
  refine k10.mono ?_
  rintro e w10 ⟨rfl,g10⟩
  obtain⟨_,_,_,_,_,a5⟩:=(HALL.out w10 g10.chg).1.cs
  have HS:Hid (PaAt W0 n w6 rb O1 (enterP x l.length s) (.slice none 0 0) l 0 w10):=HEE.out.fk.pst w10 g10
  clear k10 g10
  go_wp2_with fail
  go_loopw [69] (fun i wr=>∃k:Nat,Hid (PaAt W0 n w6 rb O1 (enterP x l.length s) (.slice none 0 0) l k wr)∧i = .int .i64 (k:Int)) (fun i wr=>l.length - (intOf i).toNat)
  case atStart=>exact⟨0,HS,rfl⟩
  case round =>
   clear HS a5
   obtain⟨i,HEa,rfl⟩:=hrel
   rcases Nat.lt_or_ge i l.length with ci | ci
   ·obtain⟨y,hy⟩:∃y,l[i]?=some y:=⟨_,List.getElem?_eq_getElem ci⟩
    obtain⟨x0,x1,x2,x3,x4,x5⟩:=kid_val (HK.out wr HEa.out.bel) (k:=i) hy
    have hil:(i:Int)<(l.length:Int):=by omega
    have hw2:IntKind.i64.wrap ((i:Int)+1)=((i+1:Nat):Int):=by have:=HSC.out.2;rw[IntKind.wrap_i64];omega
    obtain⟨wp,hwp⟩:∃wp,wp=wr.alloc (.cells #[.int .i64 (ndT n y).kind,.int .i64 (ndT n y).pl,.string (ndT n y).name,.int .u64 (ndT n y).num,.string (ndT n y).op,.slice (atT n y) (nkT n y) (capT n y)] 25):=⟨_,rfl⟩
    have hbp:Below wr.heap.size wr wp:=by rw[hwp];exact below_new (Below.refl _ _) (Nat.le_refl _) _
    have hY:NdB wr.heap.size (ndT n y) (.slice (atT n y) (nkT n y) (capT n y)) wp:=by rw[hwp];exact at_new _ _
    obtain⟨b0,b1,b2,b3,b4,b5⟩:=hY.cs
    have hu:=HEE.out.fk.pas i y wr wp hy HEa.out hbp
    unfold valT at hu
    have HQ:Hid (i<l.length):=ci
    clear hbp hY HEa ci hy
    generalize (ndT n y).kind=q0 at *
    generalize (ndT n y).pl=q1 at *
    generalize (ndT n y).name=q2 at *
    generalize (ndT n y).num=q3 at *
    generalize (ndT n y).op=q4 at *
    generalize atT n y=q5 at *
    generalize nkT n y=q6 at *
    generalize capT n y=q7 at *
    go_upto_region 14 with fail
    rw[←hwp]
    clear hwp x0 x1 x2 x3 x4 x5
    go_wp2_with fail
    refine hu.mono ?_
    rintro e w1 (⟨rfl,h1⟩ | ⟨er,rfl,h1,h2⟩)
    ·have HN1:Hid (PaAt W0 n w6 rb O1 (enterP x l.length s) (.slice none 0 0) l (i+1) w1):=h1
     clear hu h1 b0 b1 b2 b3 b4 b5
     go_wp2_with fail
     refine⟨⟨i+1,HN1,by go_num⟩,?_⟩
     simp[intOf]
     have:=HQ.out
     omega
    ·refine⟨rfl,?_⟩
     rw[HR.out,h1]
     exact⟨rfl,HEE.out.er _ h2⟩
   ·have hil:¬(i:Int)<(l.length:Int):=by omega
    obtain⟨s1,hp1,g11⟩:=HEa.out.last ci
    have HP1:Hid (PaE n l (enterP x l.length s) s1):=hp1
    have HR2:Hid (R=((resP bi n).2 c (bpS x s1)).bind fun s2 => .ok { shutP (shutP s2) with fn:=s.fn,loops:=s.loops,labels:=s.labels }):=by
     show R=_
     rw[HR.out,hp1.eq]
     rfl
    obtain⟨a0,a1,a2,a3,a4,a5⟩:=(HALL.out wr g11.chg).1.cs
    have k12:=HEE.out.fk.slf s1 wr g11
    rw[hsf] at k12
    clear HEa HR g11 hp1 ci HK
    go_wp2_with fail
    refine k12.mono ?_
    rintro e w12 ⟨rfl,g12⟩
    clear k12 a0 a1 a2 a3 a4 a5
    obtain⟨g,hva,k13⟩:=HEE.out.fk.bmp s1 w12 HP1.out g12
    have hw5:IntKind.i64.wrap ((varsAt s1:Int)+1)=(varsAt s1:Int)+1:=by rw[IntKind.wrap_i64];omega
    clear g12
    go_wp2_with fail
    refine k13.mono ?_
    rintro e w13 ⟨rfl,q1,q2,g13⟩
    obtain⟨w14,hw14⟩:∃w14,w14=w13.setCell ⟨g,s1.fn*4+3,none⟩ (.int .i64 ((varsAt s1:Int)+1)):=⟨_,rfl⟩
    rw[←hw14] at g13
    have g14:Went w6 W0.heap.size rb O1 (bpS x s1) (.slice none 0 0) w14:=by unfold bpS;rw[hsf];exact g13
    clear g13 k13
    go_upto_region 18 with fail
    rw[←hw14]
    clear hw14 q1 q2 hw5 hva
    obtain⟨_,_,_,_,_,a5⟩:=(HALL.out w14 g14.chg).1.cs
    have x5:=HKC.out w14 (HALL.out w14 g14.chg).2.2
    have k15:=HEE.out.fk.bod s1 w14 HP1.out g14
    have SH1:=(show Hid _ from fun s3 w2=>HEE.out.fk.sh1 s1 s3 w2 HP1.out)
    have SH2:=(show Hid _ from fun s3 w2=>HEE.out.fk.sh2 s1 s3 w2 HP1.out)
    have FNL:=(show Hid _ from fun s3 w2=>HEE.out.fk.fnl s1 s3 w2 HP1.out)
    clear g14
    generalize (resP bi n).2 c (bpS x s1)=N at *
    generalize atT n c=q5 at *
    generalize nkT n c=q6 at *
    generalize capT n c=q7 at *
    go_wp2_with fail
    refine k15.mono ?_
    intro e w15 ho
    clear k15 a5 x5
    cases N with
    | error er =>
      obtain⟨rfl,g9⟩:=ho
      refine⟨rfl,?_⟩
      rw[HR2.out]
      exact⟨rfl,HEE.out.er _ g9⟩
    | ok s3 =>
      obtain⟨rfl,g15⟩:=ho
      have k16:=SH1.out s3 w15 rfl g15
      clear g15 SH1
      go_wp2_with fail
      refine k16.mono ?_
      rintro e w16 ⟨rfl,g16⟩
      have k17:=SH2.out s3 w16 rfl g16
      clear k16 g16 SH2
      go_wp2_with fail
      refine k17.mono ?_
      rintro e w17 ⟨rfl,g17⟩
      have hfl:=FNL.out s3 w17 rfl g17
      have HG:Hid (Went w W0.heap.size rb O { shutP (shutP s3) with fn:=s.fn,loops:=s.loops,labels:=s.labels } (.slice la ll lc) (hereW w17 rb s.fn s.loops (.slice la ll lc))):=HEE.out.bk _ w17 g17 (Nat.lt_trans HFN.out hfl)
      obtain⟨y0,y1,y2⟩:=(HALL.out w17 g17.chg).2.1.cs
      obtain⟨c4,c5,c6,cf⟩:w17.cell? ⟨rb,4,none⟩=some (.int .i64 ((shutP (shutP s3)).fn:Int))∧w17.cell? ⟨rb,5,none⟩=some (.int .i64 ((shutP (shutP s3)).loops:Int))∧w17.cell? ⟨rb,6,none⟩=some (.slice none 0 0)∧∀j,w17.frozen? ⟨rb,j,none⟩=false:=by
       obtain⟨_,mm,_,_⟩:=g17
       exact mm.cells
      have f4:=cf 4
      have f5:=cf 5
      have f6:=cf 6
      clear k17 g17 hfl FNL cf
      unfold hereW at HG
      go_wp2_with fail
      go_end0
      rw[HR2.out]
      exact⟨rfl,HG.out⟩
theorem fun_anon (W0:World)(n:Nat)(hN:∀m,m≤n→NC W0 m)(w:World)(rb:Nat)(O:Nat→Prop)(s:Rz.RS)(v6:Value)(h0:On W0 rb O s v6 w)(x:Nd)(hnm:x.name.size≤maxLen)(hsf:selfB x=false)(b off kc:Nat)(l:List (Tr n))(c:Tr n)(hok:Sli.ok (encT n) 6 W0 ⟨some ⟨b,off,none⟩,kc,l++[c]⟩)(hks:∀y∈l++[c],okF n W0 y)(hb:cr s+8+8*((l.map (szT n)).sum+szT n c)≤lim)(hd:dp s+4+4*n≤lim) :
  Calls Tryz.prog 82 #[.pointer (some ⟨rb,0,none⟩),.agg #[.int .i64 x.kind,.int .i64 x.pl,.string x.name,.int .u64 x.num,.string x.op,.slice (some ⟨b,off,none⟩) (l.length+1) kc]] w (Out w W0.heap.size rb O v6 (.tuple #[]) (functionP (ndR n) (resP bi n).2 x (l++[c]) s)):=by
 obtain⟨la,ll,lc,hv6⟩:∃la ll lc,v6 = .slice la ll lc:=by
  obtain⟨s6,hv,_,_⟩:=lab_sl h0.mem
  exact⟨_,_,_,hv⟩
 subst hv6
 have hkc:l.length+1≤kc:=by have:=hok.len;simpa using this
 have hkm:kc≤maxLen:=hok.cap
 obtain⟨wb,hwb⟩:∃wb,wb=w.alloc (.cells #[.int .i64 x.kind,.int .i64 x.pl,.string x.name,.int .u64 x.num,.string x.op,.slice (some ⟨b,off,none⟩) (l.length+1) kc] 25):=⟨_,rfl⟩
 have hbl:Below w.heap.size w wb:=by rw[hwb];exact below_new (Below.refl _ _) (Nat.le_refl _) _
 have hX:NdB w.heap.size x (.slice (some ⟨b,off,none⟩) (l.length+1) kc) wb:=by rw[hwb];exact at_new _ _
 have h:=h0.below hbl
 have hwl:wb.heap.size=w.heap.size+1:=by rw[hwb,size_new]
 have hOlt:∀b,O b→b<w.heap.size:=fun b q=>(h0.mem.lt b q).2
 obtain⟨wc,hwc⟩:∃wc,wc=wb.alloc (.cells #[.int .i64 (s.fn:Int),.int .i64 (s.loops:Int),.slice la ll lc] 43):=⟨_,rfl⟩
 have hbc:Below wb.heap.size wb wc:=by rw[hwc];exact below_new (Below.refl _ _) (Nat.le_refl _) _
 have hA:ArB wb.heap.size s.fn s.loops (.slice la ll lc) wc:=by rw[hwc];exact at_new _ _
 have hcl:wc.heap.size=w.heap.size+2:=by rw[hwc,size_new,hwl]
 have hC:=h.below hbc
 obtain⟨v0b,c0,-⟩:=h.mem.enter
 obtain⟨v0,e0,er0,eo0,ENT⟩:=hC.mem.enter
 have hv0:v0b=v0:=Option.some.inj ((Sc.cells_below hbc _ _ c0).symm.trans e0)
 subst hv0
 obtain⟨ad,cap,rfl,l1,l2,-⟩:=own_slice er0
 obtain⟨c4,c5,c6,cf⟩:=h.mem.cells
 obtain⟨d4,d5,d6,df⟩:=hC.mem.cells
 have e00:=e0
 have f4:=df 4
 have f5:=df 5
 have f6:=df 6
 have HB:Hid (Below w.heap.size w wb):=hbl
 have HBC:Hid (Below w.heap.size w wc):=hbl.trans (hbc.mono hbl.size)
 have HBD:Hid (Below wb.heap.size wb wc):=hbc
 have HOL:Hid (∀b,O b→b<w.heap.size):=hOlt
 have HFN:Hid (s.fn<s.scopes.length):=(Went.same h0.mem (Below.refl _ _)).gd
 have hsc:s.scopes.length≤100000000:=by unfold cr lim at hb;omega
 have hmy:l.length≤100000000:=by have:=sum_len (szT n) (sz_pos n) l;unfold lim at hb;omega
 obtain⟨wd,hwd⟩:∃wd,wd=hereW wc rb s.scopes.length 0 (.slice none 0 0):=⟨_,rfl⟩
 have hdc:Chg (fun k=>k=rb) wc wd:=by rw[hwd];exact here_chg wc rb s.scopes.length 0 (.slice none 0 0)
 have hrlt:rb<w.heap.size:=h0.mem.rlt
 have hds:wd.heap.size=wc.heap.size:=by rw[hwd];unfold hereW;simp
 have hX6:NdB w.heap.size x (.slice (some ⟨b,off,none⟩) (l.length+1) kc) wd:=(hX.chg (O:=fun _=>False) (Chg.of_below hbc) id).chg hdc (by omega)
 have hA6:ArB wb.heap.size s.fn s.loops (.slice la ll lc) wd:=hA.chg hdc (by omega)
 have hrow:OwnR scpC 4 53 W0.heap.size wd (.slice ad s.scopes.length cap) s.scopes:=by rw[hwd];exact er0.here (fun b q=>(eo0 b q).2) _ _ _
 have hz0:wd.cell? ⟨rb,0,none⟩=some (.slice ad s.scopes.length cap)∧∀j,wd.frozen? ⟨rb,j,none⟩=false:=by
  rw[hwd]
  unfold hereW
  refine⟨?_,fun j => ?_⟩
  ·rw[World.cell?_setCell_other _ _ _ _ (by simp),World.cell?_setCell_other _ _ _ _ (by simp),World.cell?_setCell_other _ _ _ _ (by simp)]
   exact e0
  ·simp[go_sem]
   exact df j
 have HAL:Hid (Below wd.heap.size wd (wd.drew.alloc (.cells #[.int .i64 x.pl,.int .i64 (s.fn:Int),.int .i64 (l.length:Int),.int .i64 0] 53))):=((Below.refl wd.heap.size wd).drew).alloc (Nat.le_refl _) _
 have HOW:Hid (OwnR scpC 4 53 W0.heap.size (wd.drew.alloc (.cells #[.int .i64 x.pl,.int .i64 (s.fn:Int),.int .i64 (l.length:Int),.int .i64 0] 53)) (.slice ad s.scopes.length cap) s.scopes):=hrow.below HAL.out
 have HBB:Hid (W0.heap.size≤wd.heap.size):=by
  have h1:=h0.bel.size
  show _≤_
  omega
 have HBX:Hid (((s.scopes.length+1)+(s.scopes.length+1) / 4+192)*32≤281474976710656∧s.scopes.length+1≤maxLen):=⟨by omega,by unfold maxLen;omega⟩
 have HFZ:Hid (∀w5,Chg (fun b=>(Value.slice ad s.scopes.length cap).ownBlock=some b) wd w5→w5.cell? ⟨rb,0,none⟩=some (.slice ad s.scopes.length cap)∧w5.frozen? ⟨rb,0,none⟩=false):=fun w5 h5=>by
  have hrs:¬(Value.slice ad s.scopes.length cap).ownBlock=some rb:=fun q=>(eo0 rb q).2 rfl
  exact⟨h5.cell hz0.1 hrs,by rw[World.frozen?_of_block (w:=wd) (h5.block rb (by omega) hrs)];exact hz0.2 0⟩
 have HE:Hid (∀w5 g5 cap5,OwnR scpC 4 53 W0.heap.size w5 (.slice (some ⟨g5,0,none⟩) (s.scopes.length+1) cap5) (s.scopes++[⟨x.pl,(s.fn:Int),l.length,0⟩])→Chg (fun b=>(Value.slice ad s.scopes.length cap).ownBlock=some b) wd w5→((Value.slice ad s.scopes.length cap).ownBlock=some g5∨wd.heap.size≤g5)→∃O1,FnE W0 n w wc rb O s (.slice la ll lc) x (.slice (some ⟨b,off,none⟩) (l.length+1) kc) l c (w5.setCell ⟨rb,0,none⟩ (.slice (some ⟨g5,0,none⟩) (s.scopes.length+1) cap5)) O1):=fun w5 g5 cap5 q1 q2 q3=>by
  obtain⟨O1,m1,m2,m3,m4⟩:=ENT ⟨x.pl,(s.fn:Int),l.length,0⟩ w5 (.slice (some ⟨g5,0,none⟩) (s.scopes.length+1) cap5) (by rw[←hwd];exact q2) q1 (fun b q=>by
   have e:g5=b:=by simpa [Value.ownBlock] using q
   subst e
   rcases q3 with q | q
   ·exact Or.inl q
   ·exact Or.inr (by omega))
  have hno:∀k,w.heap.size≤k→k<w.heap.size+2→¬O1 k:=fun k k1 k2 q=>by
   rcases m3 k q with r | r
   ·have:=hOlt k r;omega
   ·omega
  have on1:On W0 rb O1 (inS x l.length s) (.slice none 0 0) (w5.setCell ⟨rb,0,none⟩ (.slice (some ⟨g5,0,none⟩) (s.scopes.length+1) cap5)):=⟨m1,m2.below hC.bel hC.bel.size (fun b q=>(hC.mem.lt b q).1)⟩
  have hcw:Chg O w (w5.setCell ⟨rb,0,none⟩ (.slice (some ⟨g5,0,none⟩) (s.scopes.length+1) cap5)):=(Chg.of_below HBC.out).trans m2 (fun _ _ q=>q)
  refine⟨O1,on1,fnK_of (fun m hm=>hN m (Nat.le_of_lt hm)) on1 hnm (fun y hy=>hks y (List.mem_append_left _ hy)) (hks c (by simp)) hb hd,m2,hno _ (Nat.le_refl _) (by omega),hno _ (by omega) (by omega),fun W hW=>hcw.trans hW (fun a ha q => ?_),fun s2 w2 k1 k2=>(m4 s2 w2 k1 k2).behind HBC.out⟩
  rcases m3 a q with r | r
  ·exact r
  ·omega
 have HK:Hid (∀W,Below W0.heap.size W0 W→Sli.ok (encT n) 6 W ⟨some ⟨b,off,none⟩,kc,l⟩):=fun W hW=>(kids_init hok).kept (Sc.cells_below hW)
 have HKC:Hid (∀W,Below W0.heap.size W0 W→W.cell? ⟨b,off+l.length*6+5,none⟩=some (.slice (atT n c) (nkT n c) (capT n c))):=fun W hW=>(kid_val (hok.kept (Sc.cells_below hW)) (k:=l.length) (y:=c) (by simp)).2.2.2.2.2
 have hsl:∀w:World,(Instr.slice 23 (.slice (some ⟨b,off,none⟩) (l.length+1) kc) none (some (.int .i64 (l.length:Int))) none).run Tryz.prog w = .ok (.slice (some ⟨b,off,none⟩) l.length kc) w:=fun w=>run_init w b off l.length kc hkc hkm
 obtain⟨hwm,hwm2,hwm3,hltm,hge0⟩:=wrap_len hmy
 obtain⟨R,hR⟩:∃R,R=functionP (ndR n) (resP bi n).2 x (l++[c]) s:=⟨_,rfl⟩
 rw[←hR]
 rw[fun_is] at hR
 have HR:Hid (R=if s.scopes.length=200 then .error (x.pl,72) else (parsP (ndR n) l (enterP x l.length s)).bind fun s1=>((resP bi n).2 c (bpS x s1)).bind fun s2 => .ok { shutP (shutP s2) with fn:=s.fn,loops:=s.loops,labels:=s.labels }):=hR
 have HXW:Hid (∀W,Chg O wb W→NdB w.heap.size x (.slice (some ⟨b,off,none⟩) (l.length+1) kc) W):=fun W hc=>hX.chg hc (fun q=>by have:=hOlt _ q;omega)
 have HAW:Hid (ArB wb.heap.size s.fn s.loops (.slice la ll lc) wc):=hA
 have HX6:Hid (NdB w.heap.size x (.slice (some ⟨b,off,none⟩) (l.length+1) kc) wd):=hX6
 have HA6:Hid (ArB wb.heap.size s.fn s.loops (.slice la ll lc) wd):=hA6
 obtain⟨-,a1,-,-,-,a5⟩:=hX.cs
 obtain⟨-,x1,-⟩:=hX6.cs
 obtain⟨y0,-⟩:=hA6.cs
 have z0:=hz0.1
 have z0':(wd.alloc (.cells #[.int .i64 x.pl,.int .i64 (s.fn:Int),.int .i64 (l.length:Int),.int .i64 0] 53)).cell? ⟨rb,0,none⟩=some (.slice ad s.scopes.length cap):=Sc.cells_below ((Below.refl wd.heap.size wd).alloc (Nat.le_refl _) _) _ _ z0
 have HWL:Hid (wb.heap.size=w.heap.size+1∧wc.heap.size=w.heap.size+2):=⟨hwl,hcl⟩
 have hne:¬rb=wd.heap.size:=by omega
 unfold hereW at hwd
 rw[Int.natCast_zero] at hwd
 have HSC:Hid (s.scopes.length≤100000000∧l.length≤100000000):=⟨hsc,hmy⟩
 clear h h0 hok hks hb hd hN hR hbl hbc hX hX6 hA hA6 hnm hC e0 er0 eo0 ENT l1 l2 cf df hdc hrow hz0 hkc hkm hOlt hwl hcl hds hrlt hsc hmy
 go_enter Tryz.func82,Tryz.ntmps82
 go_upto_region 1 with fail
 rw[←hwb]
 clear hwb
 by_cases c200:s.scopes.length=200
 ·have hq:((s.scopes.length:Int) == 200)=true:=by rw[c200];rfl
  have HC2:Hid (s.scopes.length=200):=c200
  clear HE HFZ HBX HOW HAL HK HKC c200
  go_wp2_with fail
  refine⟨rfl,?_⟩
  rw[HR.out,if_pos HC2.out]
  exact⟨rfl,Chg.of_below HB.out⟩
 have hq:((s.scopes.length:Int) == 200)=false:=by
  rw[beq_eq_false_iff_ne]
  omega
 have HR2:=HR.out
 rw[if_neg c200] at HR2
 clear HR c200
 have HR:Hid (R=(parsP (ndR n) l (enterP x l.length s)).bind fun s1=>((resP bi n).2 c (bpS x s1)).bind fun s2 => .ok { shutP (shutP s2) with fn:=s.fn,loops:=s.loops,labels:=s.labels }):=HR2
 clear HR2
 go_upto_region 5 with fail
 rw[←hwc]
 clear hwc c4 c5 c6 a1 a5 c0
 go_upto_region 6 with fail
 rw[←hwd]
 clear hwd d4 d5 d6 f4 f5 f6 e00
 go_region_law ((refine step_row rtScp (by rfl) _ _ (by rfl) W0.heap.size (.slice ad s.scopes.length cap) s.scopes (by rfl) (by exact HOW.out) wd.heap.size ⟨x.pl,(s.fn:Int),l.length,0⟩ #[.int .i64 x.pl,.int .i64 (s.fn:Int),.int .i64 (l.length:Int),.int .i64 0] 53 (by rfl) (by exact at_new _ _) (by rfl) (by exact HBX.out.2) (by exact HBX.out.1) (by exact Nat.le_trans HBB.out HAL.out.size) ?_;intro g5 cap5 w5 ho5 hg5 hl5;have HO:Hid (OwnR scpC 4 53 W0.heap.size w5 (.slice (some ⟨g5,0,none⟩) (s.scopes.length+1) cap5) (s.scopes++[⟨x.pl,(s.fn:Int),l.length,0⟩])∧Chg (fun b=>(Value.slice ad s.scopes.length cap).ownBlock=some b) wd w5∧((Value.slice ad s.scopes.length cap).ownBlock=some g5∨wd.heap.size≤g5)):=⟨ho5,(Chg.of_below HAL.out).trans (Chg.of_grown (S:=fun b=>(Value.slice ad s.scopes.length cap).ownBlock=some b) hg5 (fun k q=>q)) (fun _ _ q=>q),hl5.imp id (fun q=>by rw[q];exact HAL.out.size)⟩;obtain⟨z1,z2⟩:=HFZ.out w5 HO.out.2.1;clear ho5 hg5 hl5))
 all_goals
  obtain⟨O1,hE⟩:=HE.out w5 g5 cap5 HO.out.1 HO.out.2.1 HO.out.2.2
  generalize hw6:w5.setCell ⟨rb,0,none⟩ (.slice (some ⟨g5,0,none⟩) (s.scopes.length+1) cap5)=w6 at *
  have HEE:Hid (FnE W0 n w wc rb O s (.slice la ll lc) x (.slice (some ⟨b,off,none⟩) (l.length+1) kc) l c w6 O1):=hE
  have HALL:Hid (∀W,Chg O1 w6 W→NdB w.heap.size x (.slice (some ⟨b,off,none⟩) (l.length+1) kc) W∧ArB wb.heap.size s.fn s.loops (.slice la ll lc) W∧Below W0.heap.size W0 W):=fun W hc=>by
   have h1:=HXW.out w6 ((Chg.of_below HBD.out).trans hE.ch (fun _ _ q=>q))
   have h2:=HAW.out.chg hE.ch (fun q=>by have:=HOL.out _ q;have:=HWL.out.1;omega)
   exact⟨h1.chg hc hE.nd,h2.chg hc (by rw[HWL.out.1];exact hE.ar),hc.below hE.on.bel hE.on.bel.size (fun b q=>(hE.on.mem.lt b q).1)⟩
  have k7:=HEE.out.fk.opn
  clear hE hw6 HO HE HFZ HBX HOW HAL HBB z0 z0' z1 z2 x1 y0 hne HX6 HA6 HXW HAW HBD HWL HOL hq
  go_wp2_with fail
  refine k7.mono ?_
  rintro e w7 ⟨rfl,g7⟩
  obtain⟨a0,a1,a2,a3,a4,a5⟩:=(HALL.out w7 g7.chg).1.cs
  have k8:=HEE.out.fk.slf _ w7 g7
  rw[hsf] at k8
  clear k7 g7
  go_wp2_with fail
  refine k8.mono ?_
  rintro e w9 ⟨rfl,g9'⟩
  have g9:Went w6 W0.heap.size rb O1 (slS x l.length s) (.slice none 0 0) w9:=by unfold slS;rw[hsf];exact g9'
  clear k8 g9' a0 a1 a2 a3 a4 a5
  have k10:=HEE.out.fk.op2 w9 g9
  clear g9
  go_wp2_with fail
  refine k10.mono ?_
  rintro e w10 ⟨rfl,g10⟩
  obtain⟨_,_,_,_,_,a5⟩:=(HALL.out w10 g10.chg).1.cs
  have HS:Hid (PaAt W0 n w6 rb O1 (enterP x l.length s) (.slice none 0 0) l 0 w10):=HEE.out.fk.pst w10 g10
  clear k10 g10
  go_wp2_with fail
  go_loopw [69] (fun i wr=>∃k:Nat,Hid (PaAt W0 n w6 rb O1 (enterP x l.length s) (.slice none 0 0) l k wr)∧i = .int .i64 (k:Int)) (fun i wr=>l.length - (intOf i).toNat)
  case atStart=>exact⟨0,HS,rfl⟩
  case round =>
   clear HS a5
   obtain⟨i,HEa,rfl⟩:=hrel
   rcases Nat.lt_or_ge i l.length with ci | ci
   ·obtain⟨y,hy⟩:∃y,l[i]?=some y:=⟨_,List.getElem?_eq_getElem ci⟩
    obtain⟨x0,x1,x2,x3,x4,x5⟩:=kid_val (HK.out wr HEa.out.bel) (k:=i) hy
    have hil:(i:Int)<(l.length:Int):=by omega
    have hw2:IntKind.i64.wrap ((i:Int)+1)=((i+1:Nat):Int):=by have:=HSC.out.2;rw[IntKind.wrap_i64];omega
    obtain⟨wp,hwp⟩:∃wp,wp=wr.alloc (.cells #[.int .i64 (ndT n y).kind,.int .i64 (ndT n y).pl,.string (ndT n y).name,.int .u64 (ndT n y).num,.string (ndT n y).op,.slice (atT n y) (nkT n y) (capT n y)] 25):=⟨_,rfl⟩
    have hbp:Below wr.heap.size wr wp:=by rw[hwp];exact below_new (Below.refl _ _) (Nat.le_refl _) _
    have hY:NdB wr.heap.size (ndT n y) (.slice (atT n y) (nkT n y) (capT n y)) wp:=by rw[hwp];exact at_new _ _
    obtain⟨b0,b1,b2,b3,b4,b5⟩:=hY.cs
    have hu:=HEE.out.fk.pas i y wr wp hy HEa.out hbp
    unfold valT at hu
    have HQ:Hid (i<l.length):=ci
    clear hbp hY HEa ci hy
    generalize (ndT n y).kind=q0 at *
    generalize (ndT n y).pl=q1 at *
    generalize (ndT n y).name=q2 at *
    generalize (ndT n y).num=q3 at *
    generalize (ndT n y).op=q4 at *
    generalize atT n y=q5 at *
    generalize nkT n y=q6 at *
    generalize capT n y=q7 at *
    go_upto_region 14 with fail
    rw[←hwp]
    clear hwp x0 x1 x2 x3 x4 x5
    go_wp2_with fail
    refine hu.mono ?_
    rintro e w1 (⟨rfl,h1⟩ | ⟨er,rfl,h1,h2⟩)
    ·have HN1:Hid (PaAt W0 n w6 rb O1 (enterP x l.length s) (.slice none 0 0) l (i+1) w1):=h1
     clear hu h1 b0 b1 b2 b3 b4 b5
     go_wp2_with fail
     refine⟨⟨i+1,HN1,by go_num⟩,?_⟩
     simp[intOf]
     have:=HQ.out
     omega
    ·refine⟨rfl,?_⟩
     rw[HR.out,h1]
     exact⟨rfl,HEE.out.er _ h2⟩
   ·have hil:¬(i:Int)<(l.length:Int):=by omega
    obtain⟨s1,hp1,g11⟩:=HEa.out.last ci
    have HP1:Hid (PaE n l (enterP x l.length s) s1):=hp1
    have HR2:Hid (R=((resP bi n).2 c (bpS x s1)).bind fun s2 => .ok { shutP (shutP s2) with fn:=s.fn,loops:=s.loops,labels:=s.labels }):=by
     show R=_
     rw[HR.out,hp1.eq]
     rfl
    obtain⟨a0,a1,a2,a3,a4,a5⟩:=(HALL.out wr g11.chg).1.cs
    have k12:=HEE.out.fk.slf s1 wr g11
    rw[hsf] at k12
    clear HEa HR g11 hp1 ci HK
    go_wp2_with fail
    refine k12.mono ?_
    rintro e w14 ⟨rfl,g12⟩
    have g14:Went w6 W0.heap.size rb O1 (bpS x s1) (.slice none 0 0) w14:=by unfold bpS;rw[hsf];exact g12
    clear k12 g12 a0 a1 a2 a3 a4 a5
    obtain⟨_,_,_,_,_,a5⟩:=(HALL.out w14 g14.chg).1.cs
    have x5:=HKC.out w14 (HALL.out w14 g14.chg).2.2
    have k15:=HEE.out.fk.bod s1 w14 HP1.out g14
    have SH1:=(show Hid _ from fun s3 w2=>HEE.out.fk.sh1 s1 s3 w2 HP1.out)
    have SH2:=(show Hid _ from fun s3 w2=>HEE.out.fk.sh2 s1 s3 w2 HP1.out)
    have FNL:=(show Hid _ from fun s3 w2=>HEE.out.fk.fnl s1 s3 w2 HP1.out)
    clear g14
    generalize (resP bi n).2 c (bpS x s1)=N at *
    generalize atT n c=q5 at *
    generalize nkT n c=q6 at *
    generalize capT n c=q7 at *
    go_wp2_with fail
    refine k15.mono ?_
    intro e w15 ho
    clear k15 a5 x5
    cases N with
    | error er =>
      obtain⟨rfl,g9⟩:=ho
      refine⟨rfl,?_⟩
      rw[HR2.out]
      exact⟨rfl,HEE.out.er _ g9⟩
    | ok s3 =>
      obtain⟨rfl,g15⟩:=ho
      have k16:=SH1.out s3 w15 rfl g15
      clear g15 SH1
      go_wp2_with fail
      refine k16.mono ?_
      rintro e w16 ⟨rfl,g16⟩
      have k17:=SH2.out s3 w16 rfl g16
      clear k16 g16 SH2
      go_wp2_with fail
      refine k17.mono ?_
      rintro e w17 ⟨rfl,g17⟩
      have hfl:=FNL.out s3 w17 rfl g17
      have HG:Hid (Went w W0.heap.size rb O { shutP (shutP s3) with fn:=s.fn,loops:=s.loops,labels:=s.labels } (.slice la ll lc) (hereW w17 rb s.fn s.loops (.slice la ll lc))):=HEE.out.bk _ w17 g17 (Nat.lt_trans HFN.out hfl)
      obtain⟨y0,y1,y2⟩:=(HALL.out w17 g17.chg).2.1.cs
      obtain⟨c4,c5,c6,cf⟩:w17.cell? ⟨rb,4,none⟩=some (.int .i64 ((shutP (shutP s3)).fn:Int))∧w17.cell? ⟨rb,5,none⟩=some (.int .i64 ((shutP (shutP s3)).loops:Int))∧w17.cell? ⟨rb,6,none⟩=some (.slice none 0 0)∧∀j,w17.frozen? ⟨rb,j,none⟩=false:=by
       obtain⟨_,mm,_,_⟩:=g17
       exact mm.cells
      have f4:=cf 4
      have f5:=cf 5
      have f6:=cf 6
      clear k17 g17 hfl FNL cf
      unfold hereW at HG
      go_wp2_with fail
      go_end0
      rw[HR2.out]
      exact⟨rfl,HG.out⟩
theorem function_any (W0:World)(n:Nat)(hN:∀m,m≤n→NC W0 m)(w:World)(rb:Nat)(O:Nat→Prop)(s:Rz.RS)(v6:Value)(h0:On W0 rb O s v6 w)(x:Nd)(hnm:x.name.size≤maxLen)(sl:Sli (Tr n))(hok:sl.ok (encT n) 6 W0)(hks:∀y∈sl.xs,okF n W0 y)(hl:1≤sl.xs.length)(hb:cr s+8+8*(sl.xs.map (szT n)).sum≤lim)(hd:dp s+4+4*n≤lim) :
  Calls Tryz.prog 82 #[.pointer (some ⟨rb,0,none⟩),.agg #[.int .i64 x.kind,.int .i64 x.pl,.string x.name,.int .u64 x.num,.string x.op,.slice sl.at' sl.xs.length sl.cap]] w (Out w W0.heap.size rb O v6 (.tuple #[]) (functionP (ndR n) (resP bi n).2 x sl.xs s)):=by
 obtain⟨ka,kc,kx⟩:=sl
 simp only at *
 obtain⟨l,c,rfl⟩:∃l c,kx=l++[c]:=by
  rcases List.eq_nil_or_concat kx with e | ⟨a,b,e⟩
  ·rw[e] at hl;simp at hl
  ·exact⟨a,b,by rw[e,List.concat_eq_append]⟩
 obtain⟨b,off,hka,_⟩:=hok.cells (by simp)
 simp only at hka
 subst hka
 have hln:(l++[c]).length=l.length+1:=by simp
 have hb2:cr s+8+8*((l.map (szT n)).sum+szT n c)≤lim:=by simpa using hb
 rw[hln]
 cases hsf:selfB x with
 | true=>exact fun_self W0 n hN w rb O s v6 h0 x hnm hsf b off kc l c hok hks hb2 hd
 | false=>exact fun_anon W0 n hN w rb O s v6 h0 x hnm hsf b off kc l c hok hks hb2 hd
end Go.Proofs.YtihmdcdifakepaaGreat.Rv
