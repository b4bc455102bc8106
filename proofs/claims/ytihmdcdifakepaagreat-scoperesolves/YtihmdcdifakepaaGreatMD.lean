/- MD -/
import Derived.Test.YtihmdcdifakepaaGreatB6
set_option linter.unusedVariables false
set_option linter.unusedSimpArgs false
set_option maxRecDepth 100000
set_option maxHeartbeats 40000000
namespace Go.Proofs.YtihmdcdifakepaaGreat.Rv
open Go.RowKit Go.Proofs.YtihmdcdifakepaaGreat.Sc Go.Proofs.YtihmdcdifakepaaGreat.Rz
structure Gd (s:Rz.RS):Prop where
 fnl:s.fn<s.scopes.length
 blk:∀b∈s.blocks,∀e∈b,e.2<s.vars.length
 wf:∀b∈s.blocks,Blk.wf b
def bg (s:Rz.RS):Nat:=s.scopes.length+s.vars.length+s.uses.length+s.blocks.length+s.labels.length+s.loops+(s.scopes.map Rz.Scp.vars).sum
structure MemAt (w:World)(B rb:Nat)(tg:Nat→Nat)(s:Rz.RS)(v0 v1 v2 v3 v6:Value)(ms:List (Option Nat)):Prop where
 box:w.heap[rb]?=some (.cells #[v0,v1,v2,v3,.int .i64 (s.fn:Int),.int .i64 (s.loops:Int),v6] 45 (0,0))
 r0:OwnR scpC 4 53 B w v0 s.scopes
 r1:OwnR vrC 6 61 B w v1 s.vars
 r2:OwnR usC 2 57 B w v2 s.uses
 r3:OwnR mpC 1 124 B w v3 ms
 r6:OwnR lbC 2 142 B w v6 s.labels
 t0:tg rb=0
 t1:∀b,v0.ownBlock=some b→tg b=1
 t2:∀b,v1.ownBlock=some b→tg b=2
 t3:∀b,v2.ownBlock=some b→tg b=3
 t4:∀b,v3.ownBlock=some b→tg b=4
 t5:∀b,v6.ownBlock=some b→tg b=5
 tm:∀(i b:Nat),ms[i]?=some (some b)→tg b=6+i∧B≤b∧b<w.heap.size
 ml:ms.length=s.blocks.length
 mp:∀(i:Nat) (m:Option Nat) (b:Blk),ms[i]?=some m→s.blocks.reverse[i]?=some b→MpAt w m b
 gd:Gd s
 lo:B≤rb
def Ow (rb:Nat)(v0 v1 v2 v3 v6:Value)(ms:List (Option Nat))(b:Nat):Prop :=
 b=rb∨v0.ownBlock=some b∨v1.ownBlock=some b∨v2.ownBlock=some b∨v3.ownBlock=some b∨v6.ownBlock=some b∨∃i:Nat,ms[i]?=some (some b)
def Mem (w:World)(B rb:Nat)(O:Nat→Prop)(s:Rz.RS)(v6:Value):Prop:=∃tg v0 v1 v2 v3 ms,MemAt w B rb tg s v0 v1 v2 v3 v6 ms∧∀b,O b↔Ow rb v0 v1 v2 v3 v6 ms b
section
variable {w w':World}{B rb:Nat}{tg:Nat→Nat}{s:Rz.RS}{v0 v1 v2 v3 v6:Value}{ms:List (Option Nat)}
theorem MemAt.rlt (h:MemAt w B rb tg s v0 v1 v2 v3 v6 ms):rb<w.heap.size:=(Array.getElem?_eq_some_iff.1 h.box).1
theorem MemAt.lt (h:MemAt w B rb tg s v0 v1 v2 v3 v6 ms):∀b,Ow rb v0 v1 v2 v3 v6 ms b→B≤b∧b<w.heap.size:=by
 rintro b (q | q | q | q | q | q | ⟨i,q⟩)
 ·rw[q];exact⟨h.lo,h.rlt⟩
 ·exact h.r0.lt b q
 ·exact h.r1.lt b q
 ·exact h.r2.lt b q
 ·exact h.r3.lt b q
 ·exact h.r6.lt b q
 ·exact(h.tm i b q).2
theorem MemAt.kept {S:Nat→Prop}(h:MemAt w B rb tg s v0 v1 v2 v3 v6 ms)(hc:Chg S w w')(hs:∀b,Ow rb v0 v1 v2 v3 v6 ms b→¬S b):MemAt w' B rb tg s v0 v1 v2 v3 v6 ms:=by
 refine⟨?_,h.r0.kept hc (fun b q=>hs b (Or.inr (Or.inl q))),h.r1.kept hc (fun b q=>hs b (Or.inr (Or.inr (Or.inl q)))),h.r2.kept hc (fun b q=>hs b (Or.inr (Or.inr (Or.inr (Or.inl q))))),h.r3.kept hc (fun b q=>hs b (Or.inr (Or.inr (Or.inr (Or.inr (Or.inl q)))))),h.r6.kept hc (fun b q=>hs b (Or.inr (Or.inr (Or.inr (Or.inr (Or.inr (Or.inl q))))))),h.t0,h.t1,h.t2,h.t3,h.t4,h.t5,?_,h.ml,?_,h.gd,h.lo⟩
 ·rw[hc.block rb h.rlt (hs rb (Or.inl rfl))]
  exact h.box
 ·intro i b q
  obtain⟨a1,a2,a3⟩:=h.tm i b q
  exact⟨a1,a2,Nat.lt_of_lt_of_le a3 hc.size⟩
 ·intro i m b q1 q2
  refine(h.mp i m b q1 q2).kept (fun mb e => ?_)
  subst e
  exact hc.block mb (h.tm i mb q1).2.2 (hs mb (Or.inr (Or.inr (Or.inr (Or.inr (Or.inr (Or.inr ⟨i,q1⟩)))))))
theorem MemAt.below (h:MemAt w B rb tg s v0 v1 v2 v3 v6 ms)(hb:Below w.heap.size w w'):MemAt w' B rb tg s v0 v1 v2 v3 v6 ms:=h.kept (S:=fun _=>False) (Chg.of_below hb) (fun _ _ q=>q)
theorem Mem.kept {O S:Nat→Prop}(h:Mem w B rb O s v6)(hc:Chg S w w')(hs:∀b,O b→¬S b):Mem w' B rb O s v6:=by
 obtain⟨tg,v0,v1,v2,v3,ms,h1,h2⟩:=h
 exact⟨tg,v0,v1,v2,v3,ms,h1.kept hc (fun b q=>hs b ((h2 b).2 q)),h2⟩
theorem Mem.below {O:Nat→Prop}(h:Mem w B rb O s v6)(hb:Below w.heap.size w w'):Mem w' B rb O s v6:=h.kept (S:=fun _=>False) (Chg.of_below hb) (fun _ _ q=>q)
theorem Mem.lt {O:Nat→Prop}(h:Mem w B rb O s v6):∀b,O b→B≤b∧b<w.heap.size:=by
 obtain⟨tg,v0,v1,v2,v3,ms,h1,h2⟩:=h
 exact fun b q=>h1.lt b ((h2 b).1 q)
theorem Mem.rlt {O:Nat→Prop}(h:Mem w B rb O s v6):rb<w.heap.size:=by
 obtain⟨tg,v0,v1,v2,v3,ms,h1,h2⟩:=h
 exact h1.rlt
theorem Mem.gd {O:Nat→Prop}(h:Mem w B rb O s v6):Gd s:=by
 obtain⟨tg,v0,v1,v2,v3,ms,h1,h2⟩:=h
 exact h1.gd
def Went (w:World)(B rb:Nat)(O:Nat→Prop)(s:Rz.RS)(v6:Value)(w':World):Prop:=∃O',Mem w' B rb O' s v6∧Chg O w w'∧∀b,O' b→O b∨w.heap.size≤b
theorem Went.same {O:Nat→Prop}(h:Mem w B rb O s v6)(hb:Below w.heap.size w w'):Went w B rb O s v6 w':=⟨O,h.below hb,Chg.of_below hb,fun b q=>Or.inl q⟩
theorem Went.drew {O:Nat→Prop}(h:Went w B rb O s v6 w'):Went w B rb O s v6 w'.drew:=by
 obtain⟨O',h1,h2,h3⟩:=h
 exact⟨O',h1.below ((Below.refl _ _).drew),h2.drew,h3⟩
theorem Went.behind {w1:World}{O:Nat→Prop}(hb:Below w.heap.size w w1)(h:Went w1 B rb O s v6 w'):Went w B rb O s v6 w':=by
 obtain⟨O',g1,g2,g3⟩:=h
 exact⟨O',g1,(Chg.of_below hb).trans g2 (fun _ _ q=>q),fun b q=>(g3 b q).imp id (fun q=>Nat.le_trans hb.size q)⟩
theorem Went.trans {w1:World}{O:Nat→Prop}{s':Rz.RS}{v6':Value}(h:Went w B rb O s v6 w1)(k:∀O',Mem w1 B rb O' s v6→Went w1 B rb O' s' v6' w'):Went w B rb O s' v6' w':=by
 obtain⟨O1,h1,h2,h3⟩:=h
 obtain⟨O2,k1,k2,k3⟩:=k O1 h1
 refine⟨O2,k1,h2.trans k2 (fun i hi q => ?_),fun b q => ?_⟩
 ·rcases h3 i q with c | c
  ·exact c
  ·omega
 ·rcases k3 b q with c | c
  ·exact h3 b c
  ·exact Or.inr (Nat.le_trans h2.size c)
theorem other {k j b H:Nat}{v v':Value}(hv:∀b,v.ownBlock=some b→tg b=k)(hat:∀b,v'.ownBlock=some b→v.ownBlock=some b∨H≤b)(hb:b<H)(ht:tg b=j)(hj:j≠k):¬v'.ownBlock=some b:=by
 intro q
 rcases hat b q with c | c
 ·have:=hv b c
  omega
 ·omega
def retag (tg:Nat→Nat)(v:Value)(k:Nat)(b:Nat):Nat:=if v.ownBlock=some b then k else tg b
theorem retag_is {tg:Nat→Nat}{v:Value}{k b:Nat}(h:v.ownBlock=some b):retag tg v k b=k:=by unfold retag;rw[if_pos h]
theorem retag_no {tg:Nat→Nat}{v:Value}{k b:Nat}(h:¬v.ownBlock=some b):retag tg v k b=tg b:=by unfold retag;rw[if_neg h]
theorem MemAt.row0 (h:MemAt w B rb tg s v0 v1 v2 v3 v6 ms){w5:World}{v0':Value}{xs':List Rz.Scp}(hc:Chg (fun b=>v0.ownBlock=some b) w w5)(ho:OwnR scpC 4 53 B w5 v0' xs')(hat:∀b,v0'.ownBlock=some b→v0.ownBlock=some b∨w.heap.size≤b)(hg:Gd { s with scopes:=xs' })  :
  MemAt (w5.setCell ⟨rb,0,none⟩ v0') B rb (retag tg v0' 1) { s with scopes:=xs' } v0' v1 v2 v3 v6 ms∧Chg (Ow rb v0 v1 v2 v3 v6 ms) w (w5.setCell ⟨rb,0,none⟩ v0')∧∀b,Ow rb v0' v1 v2 v3 v6 ms b→Ow rb v0 v1 v2 v3 v6 ms b∨w.heap.size≤b:=by
 have hrb:rb<w.heap.size:=h.rlt
 have hnr:¬v0'.ownBlock=some rb:=other h.t1 hat hrb h.t0 (by omega)
 have hrs:¬v0.ownBlock=some rb:=fun q=>by have:=h.t1 rb q;have:=h.t0;omega
 have hbox5:w5.heap[rb]?=_:=(hc.block rb hrb hrs).trans h.box
 have hset:=heap_setCell_same w5 rb 0 _ 45 v0' hbox5
 have n1:∀b,v1.ownBlock=some b→¬v0'.ownBlock=some b∧b≠rb:=fun b q=>⟨other h.t1 hat (h.r1.lt b q).2 (h.t2 b q) (by omega),fun e=>by have h1:=h.t2 b q;have h2:=h.t0;rw[e] at h1;omega⟩
 have o1:OwnR vrC 6 61 B (w5.setCell ⟨rb,0,none⟩ v0') v1 s.vars:=(h.r1.kept hc (fun b q e=>by have h1:=h.t2 b q;have h2:=h.t1 b e;omega)).set (a:=⟨rb,0,none⟩) (fun b q=>(n1 b q).2) v0'
 have n2:∀b,v2.ownBlock=some b→¬v0'.ownBlock=some b∧b≠rb:=fun b q=>⟨other h.t1 hat (h.r2.lt b q).2 (h.t3 b q) (by omega),fun e=>by have h1:=h.t3 b q;have h2:=h.t0;rw[e] at h1;omega⟩
 have o2:OwnR usC 2 57 B (w5.setCell ⟨rb,0,none⟩ v0') v2 s.uses:=(h.r2.kept hc (fun b q e=>by have h1:=h.t3 b q;have h2:=h.t1 b e;omega)).set (a:=⟨rb,0,none⟩) (fun b q=>(n2 b q).2) v0'
 have n3:∀b,v3.ownBlock=some b→¬v0'.ownBlock=some b∧b≠rb:=fun b q=>⟨other h.t1 hat (h.r3.lt b q).2 (h.t4 b q) (by omega),fun e=>by have h1:=h.t4 b q;have h2:=h.t0;rw[e] at h1;omega⟩
 have o3:OwnR mpC 1 124 B (w5.setCell ⟨rb,0,none⟩ v0') v3 ms:=(h.r3.kept hc (fun b q e=>by have h1:=h.t4 b q;have h2:=h.t1 b e;omega)).set (a:=⟨rb,0,none⟩) (fun b q=>(n3 b q).2) v0'
 have n6:∀b,v6.ownBlock=some b→¬v0'.ownBlock=some b∧b≠rb:=fun b q=>⟨other h.t1 hat (h.r6.lt b q).2 (h.t5 b q) (by omega),fun e=>by have h1:=h.t5 b q;have h2:=h.t0;rw[e] at h1;omega⟩
 have o6:OwnR lbC 2 142 B (w5.setCell ⟨rb,0,none⟩ v0') v6 s.labels:=(h.r6.kept hc (fun b q e=>by have h1:=h.t5 b q;have h2:=h.t1 b e;omega)).set (a:=⟨rb,0,none⟩) (fun b q=>(n6 b q).2) v0'
 have oo:OwnR scpC 4 53 B (w5.setCell ⟨rb,0,none⟩ v0') v0' xs':=ho.set (a:=⟨rb,0,none⟩) (fun b q e=>by have e2:b=rb:=e;rw[e2] at q;exact hnr q) v0'
 have nm:∀(i b:Nat),ms[i]?=some (some b)→¬v0'.ownBlock=some b∧b≠rb∧¬v0.ownBlock=some b:=fun i b q=>by
  obtain⟨a1,a2,a3⟩:=h.tm i b q
  exact⟨other h.t1 hat a3 a1 (by omega),fun e=>by have h2:=h.t0;rw[e] at a1;omega,fun e=>by have h2:=h.t1 b e;omega⟩
 have hmap:∀(i:Nat) (m:Option Nat) (b:Blk),ms[i]?=some m→MpAt w m b→MpAt (w5.setCell ⟨rb,0,none⟩ v0') m b:=fun i m b q1 q2=>q2.kept (fun mb e=>by
  subst e
  obtain⟨a1,a2,a3⟩:=nm i mb q1
  rw[Below.heap_setCell w5 ⟨rb,0,none⟩ v0' mb a2]
  exact hc.block mb (h.tm i mb q1).2.2 a3)
 have hsz:w.heap.size≤(w5.setCell ⟨rb,0,none⟩ v0').heap.size:=by simp;exact hc.size
 refine⟨⟨hset,oo,o1,o2,o3,o6,by rw[retag_no hnr];exact h.t0,fun b q=>retag_is q,fun b q=>by rw[retag_no (n1 b q).1];exact h.t2 b q,fun b q=>by rw[retag_no (n2 b q).1];exact h.t3 b q,fun b q=>by rw[retag_no (n3 b q).1];exact h.t4 b q,fun b q=>by rw[retag_no (n6 b q).1];exact h.t5 b q,fun i b q=>by
  obtain⟨a1,a2,a3⟩:=h.tm i b q
  rw[retag_no (nm i b q).1]
  exact⟨a1,a2,Nat.lt_of_lt_of_le a3 hsz⟩,h.ml,fun i m b q1 q2=>hmap i m b q1 (h.mp i m b q1 q2),hg,h.lo⟩,?_,?_⟩
 ·exact(hc.mono (S':=Ow rb v0 v1 v2 v3 v6 ms) (fun b q=>Or.inr (Or.inl q))).trans (Chg.set (S:=Ow rb v0 v1 v2 v3 v6 ms) w5 ⟨rb,0,none⟩ v0' (Or.inl rfl)) (fun _ _ q=>q)
 ·rintro b (q | q | q | q | q | q | ⟨i,q⟩)
  ·exact Or.inl (Or.inl q)
  ·exact(hat b q).imp (fun q=>Or.inr (Or.inl q)) id
  ·exact Or.inl (Or.inr (Or.inr (Or.inl q)))
  ·exact Or.inl (Or.inr (Or.inr (Or.inr (Or.inl q))))
  ·exact Or.inl (Or.inr (Or.inr (Or.inr (Or.inr (Or.inl q)))))
  ·exact Or.inl (Or.inr (Or.inr (Or.inr (Or.inr (Or.inr (Or.inl q))))))
  ·exact Or.inl (Or.inr (Or.inr (Or.inr (Or.inr (Or.inr (Or.inr ⟨i,q⟩))))))
theorem MemAt.row1 (h:MemAt w B rb tg s v0 v1 v2 v3 v6 ms){w5:World}{v1':Value}{xs':List Rz.Vr}(hc:Chg (fun b=>v1.ownBlock=some b) w w5)(ho:OwnR vrC 6 61 B w5 v1' xs')(hat:∀b,v1'.ownBlock=some b→v1.ownBlock=some b∨w.heap.size≤b)(hg:Gd { s with vars:=xs' })  :
  MemAt (w5.setCell ⟨rb,1,none⟩ v1') B rb (retag tg v1' 2) { s with vars:=xs' } v0 v1' v2 v3 v6 ms∧Chg (Ow rb v0 v1 v2 v3 v6 ms) w (w5.setCell ⟨rb,1,none⟩ v1')∧∀b,Ow rb v0 v1' v2 v3 v6 ms b→Ow rb v0 v1 v2 v3 v6 ms b∨w.heap.size≤b:=by
 have hrb:rb<w.heap.size:=h.rlt
 have hnr:¬v1'.ownBlock=some rb:=other h.t2 hat hrb h.t0 (by omega)
 have hrs:¬v1.ownBlock=some rb:=fun q=>by have:=h.t2 rb q;have:=h.t0;omega
 have hbox5:w5.heap[rb]?=_:=(hc.block rb hrb hrs).trans h.box
 have hset:=heap_setCell_same w5 rb 1 _ 45 v1' hbox5
 have n0:∀b,v0.ownBlock=some b→¬v1'.ownBlock=some b∧b≠rb:=fun b q=>⟨other h.t2 hat (h.r0.lt b q).2 (h.t1 b q) (by omega),fun e=>by have h1:=h.t1 b q;have h2:=h.t0;rw[e] at h1;omega⟩
 have o0:OwnR scpC 4 53 B (w5.setCell ⟨rb,1,none⟩ v1') v0 s.scopes:=(h.r0.kept hc (fun b q e=>by have h1:=h.t1 b q;have h2:=h.t2 b e;omega)).set (a:=⟨rb,1,none⟩) (fun b q=>(n0 b q).2) v1'
 have n2:∀b,v2.ownBlock=some b→¬v1'.ownBlock=some b∧b≠rb:=fun b q=>⟨other h.t2 hat (h.r2.lt b q).2 (h.t3 b q) (by omega),fun e=>by have h1:=h.t3 b q;have h2:=h.t0;rw[e] at h1;omega⟩
 have o2:OwnR usC 2 57 B (w5.setCell ⟨rb,1,none⟩ v1') v2 s.uses:=(h.r2.kept hc (fun b q e=>by have h1:=h.t3 b q;have h2:=h.t2 b e;omega)).set (a:=⟨rb,1,none⟩) (fun b q=>(n2 b q).2) v1'
 have n3:∀b,v3.ownBlock=some b→¬v1'.ownBlock=some b∧b≠rb:=fun b q=>⟨other h.t2 hat (h.r3.lt b q).2 (h.t4 b q) (by omega),fun e=>by have h1:=h.t4 b q;have h2:=h.t0;rw[e] at h1;omega⟩
 have o3:OwnR mpC 1 124 B (w5.setCell ⟨rb,1,none⟩ v1') v3 ms:=(h.r3.kept hc (fun b q e=>by have h1:=h.t4 b q;have h2:=h.t2 b e;omega)).set (a:=⟨rb,1,none⟩) (fun b q=>(n3 b q).2) v1'
 have n6:∀b,v6.ownBlock=some b→¬v1'.ownBlock=some b∧b≠rb:=fun b q=>⟨other h.t2 hat (h.r6.lt b q).2 (h.t5 b q) (by omega),fun e=>by have h1:=h.t5 b q;have h2:=h.t0;rw[e] at h1;omega⟩
 have o6:OwnR lbC 2 142 B (w5.setCell ⟨rb,1,none⟩ v1') v6 s.labels:=(h.r6.kept hc (fun b q e=>by have h1:=h.t5 b q;have h2:=h.t2 b e;omega)).set (a:=⟨rb,1,none⟩) (fun b q=>(n6 b q).2) v1'
 have oo:OwnR vrC 6 61 B (w5.setCell ⟨rb,1,none⟩ v1') v1' xs':=ho.set (a:=⟨rb,1,none⟩) (fun b q e=>by have e2:b=rb:=e;rw[e2] at q;exact hnr q) v1'
 have nm:∀(i b:Nat),ms[i]?=some (some b)→¬v1'.ownBlock=some b∧b≠rb∧¬v1.ownBlock=some b:=fun i b q=>by
  obtain⟨a1,a2,a3⟩:=h.tm i b q
  exact⟨other h.t2 hat a3 a1 (by omega),fun e=>by have h2:=h.t0;rw[e] at a1;omega,fun e=>by have h2:=h.t2 b e;omega⟩
 have hmap:∀(i:Nat) (m:Option Nat) (b:Blk),ms[i]?=some m→MpAt w m b→MpAt (w5.setCell ⟨rb,1,none⟩ v1') m b:=fun i m b q1 q2=>q2.kept (fun mb e=>by
  subst e
  obtain⟨a1,a2,a3⟩:=nm i mb q1
  rw[Below.heap_setCell w5 ⟨rb,1,none⟩ v1' mb a2]
  exact hc.block mb (h.tm i mb q1).2.2 a3)
 have hsz:w.heap.size≤(w5.setCell ⟨rb,1,none⟩ v1').heap.size:=by simp;exact hc.size
 refine⟨⟨hset,o0,oo,o2,o3,o6,by rw[retag_no hnr];exact h.t0,fun b q=>by rw[retag_no (n0 b q).1];exact h.t1 b q,fun b q=>retag_is q,fun b q=>by rw[retag_no (n2 b q).1];exact h.t3 b q,fun b q=>by rw[retag_no (n3 b q).1];exact h.t4 b q,fun b q=>by rw[retag_no (n6 b q).1];exact h.t5 b q,fun i b q=>by
  obtain⟨a1,a2,a3⟩:=h.tm i b q
  rw[retag_no (nm i b q).1]
  exact⟨a1,a2,Nat.lt_of_lt_of_le a3 hsz⟩,h.ml,fun i m b q1 q2=>hmap i m b q1 (h.mp i m b q1 q2),hg,h.lo⟩,?_,?_⟩
 ·exact(hc.mono (S':=Ow rb v0 v1 v2 v3 v6 ms) (fun b q=>Or.inr (Or.inr (Or.inl q)))).trans (Chg.set (S:=Ow rb v0 v1 v2 v3 v6 ms) w5 ⟨rb,1,none⟩ v1' (Or.inl rfl)) (fun _ _ q=>q)
 ·rintro b (q | q | q | q | q | q | ⟨i,q⟩)
  ·exact Or.inl (Or.inl q)
  ·exact Or.inl (Or.inr (Or.inl q))
  ·exact(hat b q).imp (fun q=>Or.inr (Or.inr (Or.inl q))) id
  ·exact Or.inl (Or.inr (Or.inr (Or.inr (Or.inl q))))
  ·exact Or.inl (Or.inr (Or.inr (Or.inr (Or.inr (Or.inl q)))))
  ·exact Or.inl (Or.inr (Or.inr (Or.inr (Or.inr (Or.inr (Or.inl q))))))
  ·exact Or.inl (Or.inr (Or.inr (Or.inr (Or.inr (Or.inr (Or.inr ⟨i,q⟩))))))
theorem MemAt.row2 (h:MemAt w B rb tg s v0 v1 v2 v3 v6 ms){w5:World}{v2':Value}{xs':List Rz.Us}(hc:Chg (fun b=>v2.ownBlock=some b) w w5)(ho:OwnR usC 2 57 B w5 v2' xs')(hat:∀b,v2'.ownBlock=some b→v2.ownBlock=some b∨w.heap.size≤b)(hg:Gd { s with uses:=xs' })  :
  MemAt (w5.setCell ⟨rb,2,none⟩ v2') B rb (retag tg v2' 3) { s with uses:=xs' } v0 v1 v2' v3 v6 ms∧Chg (Ow rb v0 v1 v2 v3 v6 ms) w (w5.setCell ⟨rb,2,none⟩ v2')∧∀b,Ow rb v0 v1 v2' v3 v6 ms b→Ow rb v0 v1 v2 v3 v6 ms b∨w.heap.size≤b:=by
 have hrb:rb<w.heap.size:=h.rlt
 have hnr:¬v2'.ownBlock=some rb:=other h.t3 hat hrb h.t0 (by omega)
 have hrs:¬v2.ownBlock=some rb:=fun q=>by have:=h.t3 rb q;have:=h.t0;omega
 have hbox5:w5.heap[rb]?=_:=(hc.block rb hrb hrs).trans h.box
 have hset:=heap_setCell_same w5 rb 2 _ 45 v2' hbox5
 have n0:∀b,v0.ownBlock=some b→¬v2'.ownBlock=some b∧b≠rb:=fun b q=>⟨other h.t3 hat (h.r0.lt b q).2 (h.t1 b q) (by omega),fun e=>by have h1:=h.t1 b q;have h2:=h.t0;rw[e] at h1;omega⟩
 have o0:OwnR scpC 4 53 B (w5.setCell ⟨rb,2,none⟩ v2') v0 s.scopes:=(h.r0.kept hc (fun b q e=>by have h1:=h.t1 b q;have h2:=h.t3 b e;omega)).set (a:=⟨rb,2,none⟩) (fun b q=>(n0 b q).2) v2'
 have n1:∀b,v1.ownBlock=some b→¬v2'.ownBlock=some b∧b≠rb:=fun b q=>⟨other h.t3 hat (h.r1.lt b q).2 (h.t2 b q) (by omega),fun e=>by have h1:=h.t2 b q;have h2:=h.t0;rw[e] at h1;omega⟩
 have o1:OwnR vrC 6 61 B (w5.setCell ⟨rb,2,none⟩ v2') v1 s.vars:=(h.r1.kept hc (fun b q e=>by have h1:=h.t2 b q;have h2:=h.t3 b e;omega)).set (a:=⟨rb,2,none⟩) (fun b q=>(n1 b q).2) v2'
 have n3:∀b,v3.ownBlock=some b→¬v2'.ownBlock=some b∧b≠rb:=fun b q=>⟨other h.t3 hat (h.r3.lt b q).2 (h.t4 b q) (by omega),fun e=>by have h1:=h.t4 b q;have h2:=h.t0;rw[e] at h1;omega⟩
 have o3:OwnR mpC 1 124 B (w5.setCell ⟨rb,2,none⟩ v2') v3 ms:=(h.r3.kept hc (fun b q e=>by have h1:=h.t4 b q;have h2:=h.t3 b e;omega)).set (a:=⟨rb,2,none⟩) (fun b q=>(n3 b q).2) v2'
 have n6:∀b,v6.ownBlock=some b→¬v2'.ownBlock=some b∧b≠rb:=fun b q=>⟨other h.t3 hat (h.r6.lt b q).2 (h.t5 b q) (by omega),fun e=>by have h1:=h.t5 b q;have h2:=h.t0;rw[e] at h1;omega⟩
 have o6:OwnR lbC 2 142 B (w5.setCell ⟨rb,2,none⟩ v2') v6 s.labels:=(h.r6.kept hc (fun b q e=>by have h1:=h.t5 b q;have h2:=h.t3 b e;omega)).set (a:=⟨rb,2,none⟩) (fun b q=>(n6 b q).2) v2'
 have oo:OwnR usC 2 57 B (w5.setCell ⟨rb,2,none⟩ v2') v2' xs':=ho.set (a:=⟨rb,2,none⟩) (fun b q e=>by have e2:b=rb:=e;rw[e2] at q;exact hnr q) v2'
 have nm:∀(i b:Nat),ms[i]?=some (some b)→¬v2'.ownBlock=some b∧b≠rb∧¬v2.ownBlock=some b:=fun i b q=>by
  obtain⟨a1,a2,a3⟩:=h.tm i b q
  exact⟨other h.t3 hat a3 a1 (by omega),fun e=>by have h2:=h.t0;rw[e] at a1;omega,fun e=>by have h2:=h.t3 b e;omega⟩
 have hmap:∀(i:Nat) (m:Option Nat) (b:Blk),ms[i]?=some m→MpAt w m b→MpAt (w5.setCell ⟨rb,2,none⟩ v2') m b:=fun i m b q1 q2=>q2.kept (fun mb e=>by
  subst e
  obtain⟨a1,a2,a3⟩:=nm i mb q1
  rw[Below.heap_setCell w5 ⟨rb,2,none⟩ v2' mb a2]
  exact hc.block mb (h.tm i mb q1).2.2 a3)
 have hsz:w.heap.size≤(w5.setCell ⟨rb,2,none⟩ v2').heap.size:=by simp;exact hc.size
 refine⟨⟨hset,o0,o1,oo,o3,o6,by rw[retag_no hnr];exact h.t0,fun b q=>by rw[retag_no (n0 b q).1];exact h.t1 b q,fun b q=>by rw[retag_no (n1 b q).1];exact h.t2 b q,fun b q=>retag_is q,fun b q=>by rw[retag_no (n3 b q).1];exact h.t4 b q,fun b q=>by rw[retag_no (n6 b q).1];exact h.t5 b q,fun i b q=>by
  obtain⟨a1,a2,a3⟩:=h.tm i b q
  rw[retag_no (nm i b q).1]
  exact⟨a1,a2,Nat.lt_of_lt_of_le a3 hsz⟩,h.ml,fun i m b q1 q2=>hmap i m b q1 (h.mp i m b q1 q2),hg,h.lo⟩,?_,?_⟩
 ·exact(hc.mono (S':=Ow rb v0 v1 v2 v3 v6 ms) (fun b q=>Or.inr (Or.inr (Or.inr (Or.inl q))))).trans (Chg.set (S:=Ow rb v0 v1 v2 v3 v6 ms) w5 ⟨rb,2,none⟩ v2' (Or.inl rfl)) (fun _ _ q=>q)
 ·rintro b (q | q | q | q | q | q | ⟨i,q⟩)
  ·exact Or.inl (Or.inl q)
  ·exact Or.inl (Or.inr (Or.inl q))
  ·exact Or.inl (Or.inr (Or.inr (Or.inl q)))
  ·exact(hat b q).imp (fun q=>Or.inr (Or.inr (Or.inr (Or.inl q)))) id
  ·exact Or.inl (Or.inr (Or.inr (Or.inr (Or.inr (Or.inl q)))))
  ·exact Or.inl (Or.inr (Or.inr (Or.inr (Or.inr (Or.inr (Or.inl q))))))
  ·exact Or.inl (Or.inr (Or.inr (Or.inr (Or.inr (Or.inr (Or.inr ⟨i,q⟩))))))
theorem MemAt.row3 (h:MemAt w B rb tg s v0 v1 v2 v3 v6 ms){w5:World}{v3':Value}{ms':List (Option Nat)}{bs':List Blk}(hc:Chg (fun b=>v3.ownBlock=some b) w w5)(ho:OwnR mpC 1 124 B w5 v3' ms')(hat:∀b,v3'.ownBlock=some b→v3.ownBlock=some b∨w.heap.size≤b)(hg:Gd { s with blocks:=bs' })(hml:ms'.length=bs'.length)(htm:∀(i b:Nat),ms'[i]?=some (some b)→ms[i]?=some (some b))(hmp:∀(i:Nat)(m:Option Nat)(b:Blk),ms'[i]?=some m→bs'.reverse[i]?=some b→MpAt w m b) :
  MemAt (w5.setCell ⟨rb,3,none⟩ v3') B rb (retag tg v3' 4) { s with blocks:=bs' } v0 v1 v2 v3' v6 ms'∧Chg (Ow rb v0 v1 v2 v3 v6 ms) w (w5.setCell ⟨rb,3,none⟩ v3')∧∀b,Ow rb v0 v1 v2 v3' v6 ms' b→Ow rb v0 v1 v2 v3 v6 ms b∨w.heap.size≤b:=by
 have hrb:rb<w.heap.size:=h.rlt
 have hnr:¬v3'.ownBlock=some rb:=other h.t4 hat hrb h.t0 (by omega)
 have hrs:¬v3.ownBlock=some rb:=fun q=>by have:=h.t4 rb q;have:=h.t0;omega
 have hbox5:w5.heap[rb]?=_:=(hc.block rb hrb hrs).trans h.box
 have hset:=heap_setCell_same w5 rb 3 _ 45 v3' hbox5
 have n0:∀b,v0.ownBlock=some b→¬v3'.ownBlock=some b∧b≠rb:=fun b q=>⟨other h.t4 hat (h.r0.lt b q).2 (h.t1 b q) (by omega),fun e=>by have h1:=h.t1 b q;have h2:=h.t0;rw[e] at h1;omega⟩
 have o0:OwnR scpC 4 53 B (w5.setCell ⟨rb,3,none⟩ v3') v0 s.scopes:=(h.r0.kept hc (fun b q e=>by have h1:=h.t1 b q;have h2:=h.t4 b e;omega)).set (a:=⟨rb,3,none⟩) (fun b q=>(n0 b q).2) v3'
 have n1:∀b,v1.ownBlock=some b→¬v3'.ownBlock=some b∧b≠rb:=fun b q=>⟨other h.t4 hat (h.r1.lt b q).2 (h.t2 b q) (by omega),fun e=>by have h1:=h.t2 b q;have h2:=h.t0;rw[e] at h1;omega⟩
 have o1:OwnR vrC 6 61 B (w5.setCell ⟨rb,3,none⟩ v3') v1 s.vars:=(h.r1.kept hc (fun b q e=>by have h1:=h.t2 b q;have h2:=h.t4 b e;omega)).set (a:=⟨rb,3,none⟩) (fun b q=>(n1 b q).2) v3'
 have n2:∀b,v2.ownBlock=some b→¬v3'.ownBlock=some b∧b≠rb:=fun b q=>⟨other h.t4 hat (h.r2.lt b q).2 (h.t3 b q) (by omega),fun e=>by have h1:=h.t3 b q;have h2:=h.t0;rw[e] at h1;omega⟩
 have o2:OwnR usC 2 57 B (w5.setCell ⟨rb,3,none⟩ v3') v2 s.uses:=(h.r2.kept hc (fun b q e=>by have h1:=h.t3 b q;have h2:=h.t4 b e;omega)).set (a:=⟨rb,3,none⟩) (fun b q=>(n2 b q).2) v3'
 have n6:∀b,v6.ownBlock=some b→¬v3'.ownBlock=some b∧b≠rb:=fun b q=>⟨other h.t4 hat (h.r6.lt b q).2 (h.t5 b q) (by omega),fun e=>by have h1:=h.t5 b q;have h2:=h.t0;rw[e] at h1;omega⟩
 have o6:OwnR lbC 2 142 B (w5.setCell ⟨rb,3,none⟩ v3') v6 s.labels:=(h.r6.kept hc (fun b q e=>by have h1:=h.t5 b q;have h2:=h.t4 b e;omega)).set (a:=⟨rb,3,none⟩) (fun b q=>(n6 b q).2) v3'
 have oo:OwnR mpC 1 124 B (w5.setCell ⟨rb,3,none⟩ v3') v3' ms':=ho.set (a:=⟨rb,3,none⟩) (fun b q e=>by have e2:b=rb:=e;rw[e2] at q;exact hnr q) v3'
 have nm:∀(i b:Nat),ms[i]?=some (some b)→¬v3'.ownBlock=some b∧b≠rb∧¬v3.ownBlock=some b:=fun i b q=>by
  obtain⟨a1,a2,a3⟩:=h.tm i b q
  exact⟨other h.t4 hat a3 a1 (by omega),fun e=>by have h2:=h.t0;rw[e] at a1;omega,fun e=>by have h2:=h.t4 b e;omega⟩
 have hmap:∀(i:Nat) (m:Option Nat) (b:Blk),ms[i]?=some m→MpAt w m b→MpAt (w5.setCell ⟨rb,3,none⟩ v3') m b:=fun i m b q1 q2=>q2.kept (fun mb e=>by
  subst e
  obtain⟨a1,a2,a3⟩:=nm i mb q1
  rw[Below.heap_setCell w5 ⟨rb,3,none⟩ v3' mb a2]
  exact hc.block mb (h.tm i mb q1).2.2 a3)
 have hsz:w.heap.size≤(w5.setCell ⟨rb,3,none⟩ v3').heap.size:=by simp;exact hc.size
 refine⟨⟨hset,o0,o1,o2,oo,o6,by rw[retag_no hnr];exact h.t0,fun b q=>by rw[retag_no (n0 b q).1];exact h.t1 b q,fun b q=>by rw[retag_no (n1 b q).1];exact h.t2 b q,fun b q=>by rw[retag_no (n2 b q).1];exact h.t3 b q,fun b q=>retag_is q,fun b q=>by rw[retag_no (n6 b q).1];exact h.t5 b q,fun i b q=>by
  have q:=htm i b q
  obtain⟨a1,a2,a3⟩:=h.tm i b q
  rw[retag_no (nm i b q).1]
  exact⟨a1,a2,Nat.lt_of_lt_of_le a3 hsz⟩,hml,fun i m b q1 q2=>(hmp i m b q1 q2).kept (fun mb e=>by
  subst e
  have q3:=htm i mb q1
  obtain⟨a1,a2,a3⟩:=nm i mb q3
  rw[Below.heap_setCell w5 ⟨rb,3,none⟩ v3' mb a2]
  exact hc.block mb (h.tm i mb q3).2.2 a3),hg,h.lo⟩,?_,?_⟩
 ·exact(hc.mono (S':=Ow rb v0 v1 v2 v3 v6 ms) (fun b q=>Or.inr (Or.inr (Or.inr (Or.inr (Or.inl q)))))).trans (Chg.set (S:=Ow rb v0 v1 v2 v3 v6 ms) w5 ⟨rb,3,none⟩ v3' (Or.inl rfl)) (fun _ _ q=>q)
 ·rintro b (q | q | q | q | q | q | ⟨i,q⟩)
  ·exact Or.inl (Or.inl q)
  ·exact Or.inl (Or.inr (Or.inl q))
  ·exact Or.inl (Or.inr (Or.inr (Or.inl q)))
  ·exact Or.inl (Or.inr (Or.inr (Or.inr (Or.inl q))))
  ·exact(hat b q).imp (fun q=>Or.inr (Or.inr (Or.inr (Or.inr (Or.inl q))))) id
  ·exact Or.inl (Or.inr (Or.inr (Or.inr (Or.inr (Or.inr (Or.inl q))))))
  ·exact Or.inl (Or.inr (Or.inr (Or.inr (Or.inr (Or.inr (Or.inr ⟨i,htm i b q⟩))))))
theorem MemAt.row6 (h:MemAt w B rb tg s v0 v1 v2 v3 v6 ms){w5:World}{v6':Value}{xs':List (ByteArray×Bool)}(hc:Chg (fun b=>v6.ownBlock=some b) w w5)(ho:OwnR lbC 2 142 B w5 v6' xs')(hat:∀b,v6'.ownBlock=some b→v6.ownBlock=some b∨w.heap.size≤b)(hg:Gd { s with labels:=xs' })  :
  MemAt (w5.setCell ⟨rb,6,none⟩ v6') B rb (retag tg v6' 5) { s with labels:=xs' } v0 v1 v2 v3 v6' ms∧Chg (Ow rb v0 v1 v2 v3 v6 ms) w (w5.setCell ⟨rb,6,none⟩ v6')∧∀b,Ow rb v0 v1 v2 v3 v6' ms b→Ow rb v0 v1 v2 v3 v6 ms b∨w.heap.size≤b:=by
 have hrb:rb<w.heap.size:=h.rlt
 have hnr:¬v6'.ownBlock=some rb:=other h.t5 hat hrb h.t0 (by omega)
 have hrs:¬v6.ownBlock=some rb:=fun q=>by have:=h.t5 rb q;have:=h.t0;omega
 have hbox5:w5.heap[rb]?=_:=(hc.block rb hrb hrs).trans h.box
 have hset:=heap_setCell_same w5 rb 6 _ 45 v6' hbox5
 have n0:∀b,v0.ownBlock=some b→¬v6'.ownBlock=some b∧b≠rb:=fun b q=>⟨other h.t5 hat (h.r0.lt b q).2 (h.t1 b q) (by omega),fun e=>by have h1:=h.t1 b q;have h2:=h.t0;rw[e] at h1;omega⟩
 have o0:OwnR scpC 4 53 B (w5.setCell ⟨rb,6,none⟩ v6') v0 s.scopes:=(h.r0.kept hc (fun b q e=>by have h1:=h.t1 b q;have h2:=h.t5 b e;omega)).set (a:=⟨rb,6,none⟩) (fun b q=>(n0 b q).2) v6'
 have n1:∀b,v1.ownBlock=some b→¬v6'.ownBlock=some b∧b≠rb:=fun b q=>⟨other h.t5 hat (h.r1.lt b q).2 (h.t2 b q) (by omega),fun e=>by have h1:=h.t2 b q;have h2:=h.t0;rw[e] at h1;omega⟩
 have o1:OwnR vrC 6 61 B (w5.setCell ⟨rb,6,none⟩ v6') v1 s.vars:=(h.r1.kept hc (fun b q e=>by have h1:=h.t2 b q;have h2:=h.t5 b e;omega)).set (a:=⟨rb,6,none⟩) (fun b q=>(n1 b q).2) v6'
 have n2:∀b,v2.ownBlock=some b→¬v6'.ownBlock=some b∧b≠rb:=fun b q=>⟨other h.t5 hat (h.r2.lt b q).2 (h.t3 b q) (by omega),fun e=>by have h1:=h.t3 b q;have h2:=h.t0;rw[e] at h1;omega⟩
 have o2:OwnR usC 2 57 B (w5.setCell ⟨rb,6,none⟩ v6') v2 s.uses:=(h.r2.kept hc (fun b q e=>by have h1:=h.t3 b q;have h2:=h.t5 b e;omega)).set (a:=⟨rb,6,none⟩) (fun b q=>(n2 b q).2) v6'
 have n3:∀b,v3.ownBlock=some b→¬v6'.ownBlock=some b∧b≠rb:=fun b q=>⟨other h.t5 hat (h.r3.lt b q).2 (h.t4 b q) (by omega),fun e=>by have h1:=h.t4 b q;have h2:=h.t0;rw[e] at h1;omega⟩
 have o3:OwnR mpC 1 124 B (w5.setCell ⟨rb,6,none⟩ v6') v3 ms:=(h.r3.kept hc (fun b q e=>by have h1:=h.t4 b q;have h2:=h.t5 b e;omega)).set (a:=⟨rb,6,none⟩) (fun b q=>(n3 b q).2) v6'
 have oo:OwnR lbC 2 142 B (w5.setCell ⟨rb,6,none⟩ v6') v6' xs':=ho.set (a:=⟨rb,6,none⟩) (fun b q e=>by have e2:b=rb:=e;rw[e2] at q;exact hnr q) v6'
 have nm:∀(i b:Nat),ms[i]?=some (some b)→¬v6'.ownBlock=some b∧b≠rb∧¬v6.ownBlock=some b:=fun i b q=>by
  obtain⟨a1,a2,a3⟩:=h.tm i b q
  exact⟨other h.t5 hat a3 a1 (by omega),fun e=>by have h2:=h.t0;rw[e] at a1;omega,fun e=>by have h2:=h.t5 b e;omega⟩
 have hmap:∀(i:Nat) (m:Option Nat) (b:Blk),ms[i]?=some m→MpAt w m b→MpAt (w5.setCell ⟨rb,6,none⟩ v6') m b:=fun i m b q1 q2=>q2.kept (fun mb e=>by
  subst e
  obtain⟨a1,a2,a3⟩:=nm i mb q1
  rw[Below.heap_setCell w5 ⟨rb,6,none⟩ v6' mb a2]
  exact hc.block mb (h.tm i mb q1).2.2 a3)
 have hsz:w.heap.size≤(w5.setCell ⟨rb,6,none⟩ v6').heap.size:=by simp;exact hc.size
 refine⟨⟨hset,o0,o1,o2,o3,oo,by rw[retag_no hnr];exact h.t0,fun b q=>by rw[retag_no (n0 b q).1];exact h.t1 b q,fun b q=>by rw[retag_no (n1 b q).1];exact h.t2 b q,fun b q=>by rw[retag_no (n2 b q).1];exact h.t3 b q,fun b q=>by rw[retag_no (n3 b q).1];exact h.t4 b q,fun b q=>retag_is q,fun i b q=>by
  obtain⟨a1,a2,a3⟩:=h.tm i b q
  rw[retag_no (nm i b q).1]
  exact⟨a1,a2,Nat.lt_of_lt_of_le a3 hsz⟩,h.ml,fun i m b q1 q2=>hmap i m b q1 (h.mp i m b q1 q2),hg,h.lo⟩,?_,?_⟩
 ·exact(hc.mono (S':=Ow rb v0 v1 v2 v3 v6 ms) (fun b q=>Or.inr (Or.inr (Or.inr (Or.inr (Or.inr (Or.inl q))))))).trans (Chg.set (S:=Ow rb v0 v1 v2 v3 v6 ms) w5 ⟨rb,6,none⟩ v6' (Or.inl rfl)) (fun _ _ q=>q)
 ·rintro b (q | q | q | q | q | q | ⟨i,q⟩)
  ·exact Or.inl (Or.inl q)
  ·exact Or.inl (Or.inr (Or.inl q))
  ·exact Or.inl (Or.inr (Or.inr (Or.inl q)))
  ·exact Or.inl (Or.inr (Or.inr (Or.inr (Or.inl q))))
  ·exact Or.inl (Or.inr (Or.inr (Or.inr (Or.inr (Or.inl q)))))
  ·exact(hat b q).imp (fun q=>Or.inr (Or.inr (Or.inr (Or.inr (Or.inr (Or.inl q)))))) id
  ·exact Or.inl (Or.inr (Or.inr (Or.inr (Or.inr (Or.inr (Or.inr ⟨i,q⟩))))))
end
end Go.Proofs.YtihmdcdifakepaaGreat.Rv
