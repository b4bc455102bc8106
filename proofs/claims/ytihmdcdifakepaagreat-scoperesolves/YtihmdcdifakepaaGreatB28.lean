/- NH, NI, NJ, NK, NL, ZS -/
import Derived.Test.YtihmdcdifakepaaGreatB27
import Derived.Test.YtihmdcdifakepaaGreatB23
import Derived.Test.YtihmdcdifakepaaGreatB25
set_option linter.unusedVariables false
set_option linter.unusedSimpArgs false
set_option maxRecDepth 100000
set_option maxHeartbeats 40000000
namespace Go.Proofs.YtihmdcdifakepaaGreat.Rv
open Go.RowKit Go.Proofs.YtihmdcdifakepaaGreat.Sc Go.Proofs.YtihmdcdifakepaaGreat.Rz
theorem pars_app {α:Type}(nd:α→Nd):∀(l:List α)(k:α)(r:List α)(s s1:Rz.RS),parsP nd l s = .ok s1→parsP nd (l++k :: r) s=(declP (nd k).name (nd k).pl 3 s1).bind (parsP nd r)
 | [],k,r,s,s1,e=>by
   unfold parsP at e
   obtain rfl:=Except.ok.inj e
   rfl
 | x :: l,k,r,s,s1,e=>by
   unfold parsP at e
   obtain⟨s2,e1,e2⟩:=bind_ok e
   rw[List.cons_append,parsP,e1]
   exact pars_app nd l k r s2 s1 e2
structure PaAt (W0:World)(n:Nat)(w:World)(rb:Nat)(O:Nat→Prop)(s:Rz.RS)(v6:Value)(xs:List (Tr n))(i:Nat)(wr:World):Prop where
 le:i≤xs.length
 went:∃s1,parsP (ndR n) (xs.take i) s = .ok s1∧(∃O1,On W0 rb O1 s1 v6 wr∧Chg O w wr∧(∀b,O1 b→O b∨w.heap.size≤b))∧cr s1≤cr s+2*i∧s1.blocks.length=s.blocks.length∧s1.labels=s.labels∧s1.loops=s.loops∧s1.fn=s.fn
theorem PaAt.start {W0:World}{n:Nat}{w:World}{rb:Nat}{O:Nat→Prop}{s:Rz.RS}{v6:Value}{xs:List (Tr n)}(h:On W0 rb O s v6 w):PaAt W0 n w rb O s v6 xs 0 w :=
 ⟨Nat.zero_le _,s,rfl,⟨O,h,Chg.refl _ _,fun b q=>Or.inl q⟩,by omega,rfl,rfl,rfl,rfl⟩
theorem PaAt.bel {W0:World}{n:Nat}{w:World}{rb:Nat}{O:Nat→Prop}{s:Rz.RS}{v6:Value}{xs:List (Tr n)}{i:Nat}{wr:World}(h:PaAt W0 n w rb O s v6 xs i wr):Below W0.heap.size W0 wr:=by
 obtain⟨hle,s1,e1,⟨O1,o1,o2,o3⟩,_⟩:=h
 exact o1.bel
theorem PaAt.step {W0:World}{n:Nat}{w:World}{rb:Nat}{O:Nat→Prop}{s:Rz.RS}{v6:Value}{xs:List (Tr n)}{i:Nat}{wr wb:World}(h:PaAt W0 n w rb O s v6 xs i wr){t:Tr n}(ht:xs[i]?=some t)(hb:Below wr.heap.size wr wb)(hbud:cr s+2*xs.length+1≤lim)(hd:dp s+1≤lim)(hne:1≤s.blocks.length)(hs:(ndR n t).name.size≤maxLen)(kind num:Int)(op:ByteArray)(kv:Value) :
  Calls Tryz.prog 49 #[.pointer (some ⟨rb,0,none⟩),.agg #[.int .i64 kind,.int .i64 (ndR n t).pl,.string (ndR n t).name,.int .u64 num,.string op,kv],.int .i64 3] wb fun e w'=>(e = .returned (.tuple #[])∧PaAt W0 n w rb O s v6 xs (i+1) w')∨∃er,e = .panicked (thrown er)∧parsP (ndR n) xs s = .error er∧Chg O w w':=by
 have hil:i<xs.length:=(List.getElem?_eq_some_iff.1 ht).1
 obtain⟨hle,s1,e1,⟨O1,o1,o2,o3⟩,b1,b2,b3,b4,b5⟩:=h
 obtain⟨c0,cs,hbs⟩:∃c0 cs,s1.blocks=c0 :: cs:=by
  cases hq:s1.blocks with
  | nil=>rw[hq] at b2;simp at b2;omega
  | cons a b=>exact⟨a,b,rfl⟩
 have hbg:bg s1<1000000000:=by
  have hdp:dp s1=dp s:=by unfold dp;rw[b2,b3,b4]
  have:=bg_of (s:=s1) (by omega) (by omega)
  unfold cr dp bg lim at *
  omega
 have hc2:Chg O w wb:=o2.trans (Chg.of_below hb) (fun _ _ (q:O _)=>q)
 have hsub:∀a,a<w.heap.size→O1 a→O a:=fun a ha q=>by
  rcases o3 a q with c | c
  ·exact c
  ·omega
 refine(declare_any wb W0.heap.size rb O1 s1 v6 (o1.below hb).mem hbg c0 cs hbs kind (ndR n t).pl num (ndR n t).name op kv hs 3).mono ?_
 intro e w' ho
 have hdr:xs.drop i=t :: xs.drop (i+1):=by
  rw[List.drop_eq_getElem_cons hil]
  congr 1
  exact(List.getElem?_eq_some_iff.1 ht).2
 have hsp:xs=xs.take i++t :: xs.drop (i+1):=by rw[←hdr,List.take_append_drop]
 have hea:=pars_app (ndR n) (xs.take i) t (xs.drop (i+1)) s s1 e1
 rw[←hsp] at hea
 cases hr:declP (ndR n t).name (ndR n t).pl 3 s1 with
 | error er =>
   rw[hr] at ho hea
   obtain⟨rfl,g2⟩:=ho
   exact Or.inr ⟨er,rfl,hea,hc2.trans g2 hsub⟩
 | ok s2 =>
   rw[hr] at ho
   obtain⟨rfl,g2⟩:=ho
   obtain⟨O2,k1,k2,k3⟩:=(o1.below hb).went g2
   obtain⟨p1,p2,p3,p4⟩:=decl_keeps hr
   have hcr:=cr_decl _ _ _ s1 s2 hr
   refine Or.inl ⟨rfl,hil,s2,?_,⟨O2,k1,hc2.trans k2 hsub,fun b q => ?_⟩,by omega,by rw[p1,b2],by rw[p2,b3],by rw[p3,b4],by rw[p4,b5]⟩
   ·have htk:xs.take (i+1)=xs.take i++t :: []:=by rw[List.take_add_one,ht];rfl
    rw[htk,pars_app (ndR n) (xs.take i) t [] s s1 e1,hr]
    rfl
   ·rcases k3 b q with c | c
    ·exact o3 b c
    ·exact Or.inr (Nat.le_trans hc2.size c)
theorem hasSelf_any (w:World)(x:Nd)(kv:Value):Calls Tryz.prog 67 #[.agg #[.int .i64 x.kind,.int .i64 x.pl,.string x.name,.int .u64 x.num,.string x.op,kv]] w fun e w'=>e = .returned (.bool (selfB x))∧Below w.heap.size w w':=by
 obtain⟨wb,hwb⟩:∃wb,wb=w.alloc (.cells #[.int .i64 x.kind,.int .i64 x.pl,.string x.name,.int .u64 x.num,.string x.op,kv] 25):=⟨_,rfl⟩
 have hbl:Below w.heap.size w wb:=by rw[hwb];exact below_new (Below.refl _ _) (Nat.le_refl _) _
 have hX:NdB w.heap.size x kv wb:=by rw[hwb];exact at_new _ _
 obtain⟨a0,_,a2,_,_,_⟩:=hX.cs
 have HB:Hid (Below w.heap.size w wb):=hbl
 obtain⟨R,hR⟩:∃R,R=selfB x:=⟨_,rfl⟩
 rw[←hR]
 unfold selfB isS at hR
 have HR:=(show Hid _ from hR)
 generalize x.kind=kd at *
 generalize x.name=nm at *
 clear hR hX hbl
 by_cases ck:kd=12
 ·subst ck
  by_cases cn:nm.toList=[]
  ·have hne:(nm.toList == [])=true:=by rw[cn];rfl
   have hR2:R=false:=by rw[HR.out];simp[cn]
   subst hR2
   clear HR
   go_enter Tryz.func67,Tryz.ntmps67
   go_upto_region 1 with fail
   rw[←hwb]
   clear hwb
   go_wp2_with fail
   go_ret
   exact⟨rfl,HB.out⟩
  ·have hne:(nm.toList == [])=false:=by simpa using cn
   have hR2:R=true:=by rw[HR.out];simp[cn]
   subst hR2
   clear HR
   go_enter Tryz.func67,Tryz.ntmps67
   go_upto_region 1 with fail
   rw[←hwb]
   clear hwb
   go_wp2_with fail
   go_ret
   exact⟨rfl,HB.out⟩
 ·have hck:(kd == (12:Int))=false:=by simpa using ck
  have hR2:R=false:=by rw[HR.out];simp[ck]
  subst hR2
  clear HR
  go_enter Tryz.func67,Tryz.ntmps67
  go_upto_region 1 with fail
  rw[←hwb]
  clear hwb
  go_wp2_with fail
  go_ret
  exact⟨rfl,HB.out⟩
def hereW (w:World)(rb:Nat)(f l:Nat)(v:Value):World:=((w.setCell ⟨rb,4,none⟩ (.int .i64 (f:Int))).setCell ⟨rb,5,none⟩ (.int .i64 (l:Int))).setCell ⟨rb,6,none⟩ v
section
variable {w w':World}{B rb:Nat}{tg:Nat→Nat}{s:Rz.RS}{v0 v1 v2 v3 v6:Value}{ms:List (Option Nat)}
theorem OwnR.here {β:Type}{enc:β→List Value}{k:Nat}{e:TypeId}{v:Value}{xs:List β}(h:OwnR enc k e B w v xs)(hn:∀b,v.ownBlock=some b→b≠rb)(f l:Nat)(u:Value):OwnR enc k e B (hereW w rb f l u) v xs :=
 ((h.set (a:=⟨rb,4,none⟩) hn _).set (a:=⟨rb,5,none⟩) hn _).set (a:=⟨rb,6,none⟩) hn _
theorem here_block (w:World)(rb f l:Nat)(u:Value)(b:Nat)(h:b≠rb):(hereW w rb f l u).heap[b]?=w.heap[b]?:=by
 unfold hereW
 rw[Below.heap_setCell _ _ _ _ h,Below.heap_setCell _ _ _ _ h,Below.heap_setCell _ _ _ _ h]
theorem here_chg (w:World)(rb f l:Nat)(u:Value):Chg (fun b=>b=rb) w (hereW w rb f l u) :=
 ((Chg.set (S:=fun b=>b=rb) w ⟨rb,4,none⟩ _ rfl).trans (Chg.set (S:=fun b=>b=rb) _ ⟨rb,5,none⟩ _ rfl) (fun _ _ q=>q)).trans (Chg.set (S:=fun b=>b=rb) _ ⟨rb,6,none⟩ _ rfl) (fun _ _ q=>q)
theorem MemW.here (h:MemW w B rb tg s v0 v1 v2 v3 v6 ms)(f l:Nat){v6':Value}{xs':List (ByteArray×Bool)}(ho:OwnR lbC 2 142 B w v6' xs')(hno:∀b,v6'.ownBlock=some b→b≠rb∧¬v0.ownBlock=some b∧¬v1.ownBlock=some b∧¬v2.ownBlock=some b∧¬v3.ownBlock=some b∧∀i:Nat,ms[i]?≠some (some b)) :
  MemW (hereW w rb f l v6') B rb (retag tg v6' 5) { s with fn:=f,loops:=l,labels:=xs' } v0 v1 v2 v3 v6' ms:=by
 have hrb:rb<w.heap.size:=h.rlt
 have hnr:¬v6'.ownBlock=some rb:=fun q=>(hno rb q).1 rfl
 have s4:=heap_setCell_same w rb 4 _ 45 (.int .i64 (f:Int)) h.box
 have s5:=heap_setCell_same _ rb 5 _ 45 (.int .i64 (l:Int)) s4
 have hset:=heap_setCell_same _ rb 6 _ 45 v6' s5
 have n0:∀b,v0.ownBlock=some b→¬v6'.ownBlock=some b∧b≠rb:=fun b q=>⟨fun e=>(hno b e).2.1 q,fun e=>by have h1:=h.t1 b q;have h2:=h.t0;rw[e] at h1;omega⟩
 have n1:∀b,v1.ownBlock=some b→¬v6'.ownBlock=some b∧b≠rb:=fun b q=>⟨fun e=>(hno b e).2.2.1 q,fun e=>by have h1:=h.t2 b q;have h2:=h.t0;rw[e] at h1;omega⟩
 have n2:∀b,v2.ownBlock=some b→¬v6'.ownBlock=some b∧b≠rb:=fun b q=>⟨fun e=>(hno b e).2.2.2.1 q,fun e=>by have h1:=h.t3 b q;have h2:=h.t0;rw[e] at h1;omega⟩
 have n3:∀b,v3.ownBlock=some b→¬v6'.ownBlock=some b∧b≠rb:=fun b q=>⟨fun e=>(hno b e).2.2.2.2.1 q,fun e=>by have h1:=h.t4 b q;have h2:=h.t0;rw[e] at h1;omega⟩
 have nm:∀(i b:Nat),ms[i]?=some (some b)→¬v6'.ownBlock=some b∧b≠rb:=fun i b q=>by
  obtain⟨a1,a2,a3⟩:=h.tm i b q
  exact⟨fun e=>(hno b e).2.2.2.2.2 i q,fun e=>by have h2:=h.t0;rw[e] at a1;omega⟩
 have hmap:∀(i:Nat) (m:Option Nat) (b:Blk),ms[i]?=some m→MpAt w m b→MpAt (hereW w rb f l v6') m b:=fun i m b q1 q2=>q2.kept (fun mb e=>by
  subst e
  exact here_block w rb f l v6' mb (nm i mb q1).2)
 have hsz:=(here_chg w rb f l v6').size
 exact⟨hset,h.r0.here (fun b q=>(n0 b q).2) f l v6',h.r1.here (fun b q=>(n1 b q).2) f l v6',h.r2.here (fun b q=>(n2 b q).2) f l v6',h.r3.here (fun b q=>(n3 b q).2) f l v6',ho.here (fun b q e=>by rw[e] at q;exact hnr q) f l v6',by rw[retag_no hnr];exact h.t0,fun b q=>by rw[retag_no (n0 b q).1];exact h.t1 b q,fun b q=>by rw[retag_no (n1 b q).1];exact h.t2 b q,fun b q=>by rw[retag_no (n2 b q).1];exact h.t3 b q,fun b q=>by rw[retag_no (n3 b q).1];exact h.t4 b q,fun b q=>retag_is q,fun i b q=>by
  obtain⟨a1,a2,a3⟩:=h.tm i b q
  rw[retag_no (nm i b q).1]
  exact⟨a1,a2,Nat.lt_of_lt_of_le a3 hsz⟩,h.ml,fun i m b q1 q2=>hmap i m b q1 (h.mp i m b q1 q2),h.lo⟩
theorem MemW.row0 (h:MemW w B rb tg s v0 v1 v2 v3 v6 ms){w5:World}{v0':Value}{xs':List Rz.Scp}(hc:Chg (fun b=>v0.ownBlock=some b) w w5)(ho:OwnR scpC 4 53 B w5 v0' xs')(hat:∀b,v0'.ownBlock=some b→v0.ownBlock=some b∨w.heap.size≤b)  :
  MemW (w5.setCell ⟨rb,0,none⟩ v0') B rb (retag tg v0' 1) { s with scopes:=xs' } v0' v1 v2 v3 v6 ms∧Chg (Ow rb v0 v1 v2 v3 v6 ms) w (w5.setCell ⟨rb,0,none⟩ v0')∧∀b,Ow rb v0' v1 v2 v3 v6 ms b→Ow rb v0 v1 v2 v3 v6 ms b∨w.heap.size≤b:=by
 have hrb:rb<w.heap.size:=h.rlt
 have hnr:¬v0'.ownBlock=some rb:=other h.t1 hat hrb h.t0 (by omega)
 have hrs:¬v0.ownBlock=some rb:=fun q=>by have:=h.t1 rb q;have:=h.t0;omega
 have hbox5:w5.heap[rb]?=_:=(hc.block rb hrb hrs).trans h.box
 have hset:=heap_setCell_same w5 rb 0 _ 45 v0' hbox5
 have n1:∀b,v1.ownBlock=some b→¬v0'.ownBlock=some b∧b≠rb:=fun b q=>⟨other h.t1 hat (h.r1.lt b q).2 (h.t2 b q) (by omega),fun e=>by have h1:=h.t2 b q;have h2:=h.t0;rw[e] at h1;omega⟩
 have o1:OwnR vrC 6 61 B (w5.setCell ⟨rb,0,none⟩ v0') v1 s.vars:=(h.r1.kept hc (fun b q e=>by have h1:=h.t2 b q;have h2:=h.t1 b e;omega)).set (a:=⟨rb,0,none⟩) (fun b q=>(n1 b q).2) v0'
 have n2:∀b,v2.ownBlock=some b→¬v0'.ownBlock=some b∧b≠rb:=fun b q=>⟨other h.t1 hat (h.r2.lt b q).2 (h.t3 b q) (by omega),fun e=>by have h1:=h.t3 b q;have h2:=h.t0;rw[e] at h1;omega⟩
 have o2:OwnR usC 2 57 B (w5.setCell ⟨rb,0,none⟩ v0') v2 s.uses:=(h.r2.kept hc (fun b q e=>by have h1:=h.t3 b q;have h2:=h.t1 b e;omega)).set (a:=⟨rb,0,none⟩) (fun b q=>(n2 b q).2) v0'
 have n3:∀b,v3.ownBlock=some b→¬v0'.ownBlock=some b∧b≠rb:=fun b q=>⟨other h.t1 hat (h.r3.lt b q).2 (h.t4 b q) (by omega),fun e=>by have h1:=h.t4 b q;have h2:=h.t0;rw[e] at h1;omega⟩
 have o3:OwnR mpC 1 124 B (w5.setCell ⟨rb,0,none⟩ v0') v3 ms:=(h.r3.kept hc (fun b q e=>by have h1:=h.t4 b q;have h2:=h.t1 b e;omega)).set (a:=⟨rb,0,none⟩) (fun b q=>(n3 b q).2) v0'
 have n6:∀b,v6.ownBlock=some b→¬v0'.ownBlock=some b∧b≠rb:=fun b q=>⟨other h.t1 hat (h.r6.lt b q).2 (h.t5 b q) (by omega),fun e=>by have h1:=h.t5 b q;have h2:=h.t0;rw[e] at h1;omega⟩
 have o6:OwnR lbC 2 142 B (w5.setCell ⟨rb,0,none⟩ v0') v6 s.labels:=(h.r6.kept hc (fun b q e=>by have h1:=h.t5 b q;have h2:=h.t1 b e;omega)).set (a:=⟨rb,0,none⟩) (fun b q=>(n6 b q).2) v0'
 have oo:OwnR scpC 4 53 B (w5.setCell ⟨rb,0,none⟩ v0') v0' xs':=ho.set (a:=⟨rb,0,none⟩) (fun b q e=>by have e2:b=rb:=e;rw[e2] at q;exact hnr q) v0'
 have nm:∀(i b:Nat),ms[i]?=some (some b)→¬v0'.ownBlock=some b∧b≠rb∧¬v0.ownBlock=some b:=fun i b q=>by
  obtain⟨a1,a2,a3⟩:=h.tm i b q
  exact⟨other h.t1 hat a3 a1 (by omega),fun e=>by have h2:=h.t0;rw[e] at a1;omega,fun e=>by have h2:=h.t1 b e;omega⟩
 have hmap:∀(i:Nat) (m:Option Nat) (b:Blk),ms[i]?=some m→MpAt w m b→MpAt (w5.setCell ⟨rb,0,none⟩ v0') m b:=fun i m b q1 q2=>q2.kept (fun mb e=>by
  subst e
  obtain⟨a1,a2,a3⟩:=nm i mb q1
  rw[Below.heap_setCell w5 ⟨rb,0,none⟩ v0' mb a2]
  exact hc.block mb (h.tm i mb q1).2.2 a3)
 have hsz:w.heap.size≤(w5.setCell ⟨rb,0,none⟩ v0').heap.size:=by simp;exact hc.size
 refine⟨⟨hset,oo,o1,o2,o3,o6,by rw[retag_no hnr];exact h.t0,fun b q=>retag_is q,fun b q=>by rw[retag_no (n1 b q).1];exact h.t2 b q,fun b q=>by rw[retag_no (n2 b q).1];exact h.t3 b q,fun b q=>by rw[retag_no (n3 b q).1];exact h.t4 b q,fun b q=>by rw[retag_no (n6 b q).1];exact h.t5 b q,fun i b q=>by
  obtain⟨a1,a2,a3⟩:=h.tm i b q
  rw[retag_no (nm i b q).1]
  exact⟨a1,a2,Nat.lt_of_lt_of_le a3 hsz⟩,h.ml,fun i m b q1 q2=>hmap i m b q1 (h.mp i m b q1 q2),h.lo⟩,?_,?_⟩
 ·exact(hc.mono (S':=Ow rb v0 v1 v2 v3 v6 ms) (fun b q=>Or.inr (Or.inl q))).trans (Chg.set (S:=Ow rb v0 v1 v2 v3 v6 ms) w5 ⟨rb,0,none⟩ v0' (Or.inl rfl)) (fun _ _ q=>q)
 ·rintro b (q | q | q | q | q | q | ⟨i,q⟩)
  ·exact Or.inl (Or.inl q)
  ·exact(hat b q).imp (fun q=>Or.inr (Or.inl q)) id
  ·exact Or.inl (Or.inr (Or.inr (Or.inl q)))
  ·exact Or.inl (Or.inr (Or.inr (Or.inr (Or.inl q))))
  ·exact Or.inl (Or.inr (Or.inr (Or.inr (Or.inr (Or.inl q)))))
  ·exact Or.inl (Or.inr (Or.inr (Or.inr (Or.inr (Or.inr (Or.inl q))))))
  ·exact Or.inl (Or.inr (Or.inr (Or.inr (Or.inr (Or.inr (Or.inr ⟨i,q⟩))))))
end
theorem Mem.enter {w:World}{B rb:Nat}{O:Nat→Prop}{s:Rz.RS}{v6:Value}(h:Mem w B rb O s v6):∃v0,w.cell? ⟨rb,0,none⟩=some v0∧OwnR scpC 4 53 B w v0 s.scopes∧(∀b,v0.ownBlock=some b→O b∧b≠rb)∧∀(y:Rz.Scp)(w5:World)(v0':Value),Chg (fun b=>v0.ownBlock=some b) (hereW w rb s.scopes.length 0 (.slice none 0 0)) w5→OwnR scpC 4 53 B w5 v0' (s.scopes++[y])→(∀b,v0'.ownBlock=some b→v0.ownBlock=some b∨w.heap.size≤b) →
  ∃O1,Mem (w5.setCell ⟨rb,0,none⟩ v0') B rb O1 { s with scopes:=s.scopes++[y],fn:=s.scopes.length,loops:=0,labels:=[] } (.slice none 0 0)∧Chg O w (w5.setCell ⟨rb,0,none⟩ v0')∧(∀b,O1 b→O b∨w.heap.size≤b) ∧
   ∀s2 w2,Went (w5.setCell ⟨rb,0,none⟩ v0') B rb O1 s2 (.slice none 0 0) w2→s.fn<s2.scopes.length→Went w B rb O { s2 with fn:=s.fn,loops:=s.loops,labels:=s.labels } v6 (hereW w2 rb s.fn s.loops v6):=by
 obtain⟨tg,v0,v1,v2,v3,ms,hm,hO⟩:=h
 have hno0:∀b,v0.ownBlock=some b→b≠rb:=fun b q e=>by have h1:=hm.t1 b q;have h2:=hm.t0;rw[e] at h1;omega
 refine⟨v0,hm.c.1,hm.r0,fun b q=>⟨(hO b).2 (Or.inr (Or.inl q)),hno0 b q⟩,fun y w5 v0' hc ho hat => ?_⟩
 have hW:=hm.weak.here s.scopes.length 0 (v6' := .slice none 0 0) (xs':=[]) (OwnR.nil _ _) (fun b q=>by simp[Value.ownBlock] at q)
 have hch:=here_chg w rb s.scopes.length 0 (.slice none 0 0)
 have hszh:(hereW w rb s.scopes.length 0 (.slice none 0 0)).heap.size=w.heap.size:=by unfold hereW;simp
 obtain⟨a1,a2,a3⟩:=hW.row0 hc ho (fun b q=>by rw[hszh];exact hat b q)
 have hfull:=a1.full ⟨by simp,hm.gd.blk,hm.gd.wf⟩
 have hdown:∀b,Ow rb v0 v1 v2 v3 (.slice none 0 0) ms b→Ow rb v0 v1 v2 v3 v6 ms b:=by
  rintro b (q | q | q | q | q | q | ⟨i,q⟩)
  ·exact Or.inl q
  ·exact Or.inr (Or.inl q)
  ·exact Or.inr (Or.inr (Or.inl q))
  ·exact Or.inr (Or.inr (Or.inr (Or.inl q)))
  ·exact Or.inr (Or.inr (Or.inr (Or.inr (Or.inl q))))
  ·simp[Value.ownBlock] at q
  ·exact Or.inr (Or.inr (Or.inr (Or.inr (Or.inr (Or.inr ⟨i,q⟩)))))
 have hrbO:O rb:=(hO rb).2 (Or.inl rfl)
 have hchg:Chg O w (w5.setCell ⟨rb,0,none⟩ v0'):=(hch.mono (S':=O) (fun b q=>by rw[q];exact hrbO)).trans a2 (fun a ha q=>(hO a).2 (hdown a q))
 have hO1:∀b,Ow rb v0' v1 v2 v3 (.slice none 0 0) ms b→O b∨w.heap.size≤b:=fun b q=>by
  rcases a3 b q with k | k
  ·exact Or.inl ((hO b).2 (hdown b k))
  ·rw[hszh] at k;exact Or.inr k
 refine⟨Ow rb v0' v1 v2 v3 (.slice none 0 0) ms,⟨_,v0',v1,v2,v3,ms,hfull,fun b=>Iff.rfl⟩,hchg,hO1,?_⟩
 rintro s2 w2 ⟨O2,⟨tg2,u0,u1,u2,u3,ms2,h2,hO2⟩,c2,p2⟩ hfn
 have hsz5:w.heap.size≤(w5.setCell ⟨rb,0,none⟩ v0').heap.size:=hchg.size
 have hnO:∀b,v6.ownBlock=some b→¬Ow rb v0' v1 v2 v3 (.slice none 0 0) ms b∧b<w.heap.size:=fun b q=>by
  have ht:=hm.t5 b q
  have hlt:=(hm.r6.lt b q).2
  refine⟨?_,hlt⟩
  rintro(c | c | c | c | c | c | ⟨i,c⟩)
  ·rw[c] at ht;have:=hm.t0;omega
  ·rcases hat b c with k | k
   ·have:=hm.t1 b k;omega
   ·omega
  ·have:=hm.t2 b c;omega
  ·have:=hm.t3 b c;omega
  ·have:=hm.t4 b c;omega
  ·simp[Value.ownBlock] at c
  ·have:=(hm.tm i b c).1;omega
 have hn6:∀b,v6.ownBlock=some b→b≠rb:=fun b q e=>by have h1:=hm.t5 b q;have h2':=hm.t0;rw[e] at h1;omega
 have hn60:∀b,v6.ownBlock=some b→¬v0.ownBlock=some b:=fun b q e=>by have h1:=hm.t5 b q;have h2':=hm.t1 b e;omega
 have hrow:OwnR lbC 2 142 B w2 v6 s.labels:=by
  have o1:=hm.r6.here (rb:=rb) hn6 s.scopes.length 0 (.slice none 0 0)
  have o2:=o1.kept hc hn60
  have o3:=o2.set (a:=⟨rb,0,none⟩) hn6 v0'
  exact o3.kept c2 (fun b q=>(hnO b q).1)
 have hno:∀b,v6.ownBlock=some b→b≠rb∧¬u0.ownBlock=some b∧¬u1.ownBlock=some b∧¬u2.ownBlock=some b∧¬u3.ownBlock=some b∧∀i:Nat,ms2[i]?≠some (some b):=by
  intro b q
  obtain⟨c,d⟩:=hnO b q
  have hn2:¬Ow rb u0 u1 u2 u3 (.slice none 0 0) ms2 b:=fun e=>by
   rcases p2 b ((hO2 b).2 e) with k | k
   ·exact c k
   ·omega
  exact⟨fun e=>hn2 (Or.inl e),fun e=>hn2 (Or.inr (Or.inl e)),fun e=>hn2 (Or.inr (Or.inr (Or.inl e))),fun e=>hn2 (Or.inr (Or.inr (Or.inr (Or.inl e)))),fun e=>hn2 (Or.inr (Or.inr (Or.inr (Or.inr (Or.inl e))))),fun i e=>hn2 (Or.inr (Or.inr (Or.inr (Or.inr (Or.inr (Or.inr ⟨i,e⟩))))))⟩
 have hback:=(h2.weak.here s.fn s.loops hrow hno).full ⟨hfn,h2.gd.blk,h2.gd.wf⟩
 have hup:∀b,Ow rb u0 u1 u2 u3 (.slice none 0 0) ms2 b→O b∨w.heap.size≤b:=fun b q=>by
  rcases p2 b ((hO2 b).2 q) with k | k
  ·exact hO1 b k
  ·exact Or.inr (Nat.le_trans hsz5 k)
 refine⟨Ow rb u0 u1 u2 u3 v6 ms2,⟨_,u0,u1,u2,u3,ms2,hback,fun b=>Iff.rfl⟩,?_,?_⟩
 ·have h1:Chg O w w2:=hchg.trans c2 (fun a ha q=>by
   rcases hO1 a q with k | k
   ·exact k
   ·omega)
  exact h1.trans (here_chg w2 rb s.fn s.loops v6) (fun a ha q=>by rw[q];exact hrbO)
 ·rintro b (q | q | q | q | q | q | ⟨i,q⟩)
  ·exact hup b (Or.inl q)
  ·exact hup b (Or.inr (Or.inl q))
  ·exact hup b (Or.inr (Or.inr (Or.inl q)))
  ·exact hup b (Or.inr (Or.inr (Or.inr (Or.inl q))))
  ·exact hup b (Or.inr (Or.inr (Or.inr (Or.inr (Or.inl q)))))
  ·exact Or.inl ((hO b).2 (Or.inr (Or.inr (Or.inr (Or.inr (Or.inr (Or.inl q)))))))
  ·exact hup b (Or.inr (Or.inr (Or.inr (Or.inr (Or.inr (Or.inr ⟨i,q⟩))))))
theorem run_init (w:World)(b off m kc:Nat)(h:m+1≤kc)(hk:kc≤maxLen):(Instr.slice 23 (.slice (some ⟨b,off,none⟩) (m+1) kc) none (some (.int .i64 (m:Int))) none).run Tryz.prog w = .ok (.slice (some ⟨b,off,none⟩) m kc) w:=by
 have h1:(m:Int)≤(kc:Int):=by omega
 have h2:(0:Int)≤(m:Int):=by omega
 have h3:m≤kc:=by omega
 have h4:¬(kc=0):=by omega
 simp[Instr.slice,Instr.sliceBounds,Instr.sliceBound,asIntOf,run_underlying Tryz.underlying23,go_sem,h1,h2,h3,h4]
theorem kids_init {n:Nat}{w:World}{b off kc:Nat}{l:List (Tr n)}{t:Tr n}(h:Sli.ok (encT n) 6 w ⟨some ⟨b,off,none⟩,kc,l++[t]⟩):Sli.ok (encT n) 6 w ⟨some ⟨b,off,none⟩,kc,l⟩:=by
 have h1:=h.len
 have h2:=h.cap
 simp only[List.length_append,List.length_singleton] at h1 h2
 refine⟨by simp only;omega,by simp only;omega,fun h0 => ?_⟩
 obtain⟨b',off',e1,hc⟩:=h.cells (by simp)
 cases e1
 refine⟨b,off,rfl,fun i y hi j u hj=>hc i y ?_ j u hj⟩
 have hil:=(List.getElem?_eq_some_iff.1 hi).1
 rw[List.getElem?_append_left hil]
 exact hi
end Go.Proofs.YtihmdcdifakepaaGreat.Rv
namespace Go.Proofs.YtihmdcdifakepaaGreat.Rv.Rx
open Go.RowKit Go.Proofs.YtihmdcdifakepaaGreat.Sc Go.Proofs.YtihmdcdifakepaaGreat.Rz
theorem stat_36 (W0:World)(n:Nat)(hE:ExC W0 n)(hS:StC W0 n)(hB:BlC W0 n):∀(t:Tr (n+1)),(show Nd×Sli (Tr n) from t).1.kind=36→okD (n+1) W0 t→∀(w:World)(wb:Nat)(O:Nat→Prop)(s:Rz.RS)(c a:Int)(v6:Value),OnD W0 wb O s c a v6 w→cr s+8*szT (n+1) t≤lim+2→dp s+4*(n+1)≤lim→1≤s.blocks.length→Calls Tryz.prog 20 #[.pointer (some ⟨wb,0,none⟩),valT (n+1) t] w (Tl w W0.heap.size wb O v6 (8*szT (n+1) t - 2) ((resR bi (n+1)).2.1 t s) s c a):=by
 intro t h35 hok w wb O s c a v6 h hb hd hm
 obtain⟨x,sl⟩:=t
 replace h35:x.kind=36:=h35
 obtain⟨⟨hxw,hso,hkt⟩,hft⟩:=hok
 have hks:∀y∈sl.xs,okD n W0 y:=fun y hy=>⟨hkt y hy,hft.2.2.2.2 y hy⟩
 have hsz:szT (n+1) ((x,sl):Nd×Sli (Tr n))=1+(sl.xs.map (szT n)).sum:=rfl
 rw[hsz] at hb ⊢
 rw[val_succ]
 obtain⟨kv,hkv⟩:∃kv,kv=Value.slice sl.at' sl.xs.length sl.cap:=⟨_,rfl⟩
 obtain⟨wn,hwn⟩:∃wn,wn=w.alloc (.cells #[.int .i64 x.kind,.int .i64 x.pl,.string x.name,.int .u64 x.num,.string x.op,kv] 25):=⟨_,rfl⟩
 have hbl:Below w.heap.size w wn:=by rw[hwn];exact below_new (Below.refl _ _) (Nat.le_refl _) _
 have hX:NdB w.heap.size x kv wn:=by rw[hwn];exact at_new _ _
 have hn:=h.below hbl
 have c7:=hn.mem.box.2.2.2.1
 obtain⟨P,hP⟩:∃P,P=Tl w W0.heap.size wb O v6 (8*(1+(sl.xs.map (szT n)).sum) - 2) ((resR bi (n+1)).2.1 ((x,sl):Nd×Sli (Tr n)) s) s c a:=⟨_,rfl⟩
 rw[←hP]
 by_cases hc:¬c=0
 ·have hc':(c == 0)=false:=by simpa using hc
  have HE:Hid (P (.returned (.tuple #[])) wn):=by rw[hP];exact⟨rfl,s,c,a,(Told.idle hc).mono (by omega),RWent.same h.mem hbl⟩
  rw[←hkv]
  clear h hb hd hn hX hP hxw hso hkt hft hks hE hS hB hsz hkv hbl h35
  go_enter Tryz.func20,Tryz.ntmps20
  go_upto_region 1 with fail
  rw[←hwn]
  clear hwn
  go_wp2_with fail
  go_end0
  exact HE.out
 have hc:=Decidable.not_not.1 hc
 subst hc
 have HFIN:Hid (∀(k:Nat) (r:Except Rz.Er Rz.RS),k≤8*(1+(sl.xs.map (szT n)).sum) - 2→(resR bi (n+1)).2.1 ((x,sl):Nd×Sli (Tr n)) s=r→∀e w',Tl wn W0.heap.size wb O v6 k r s 0 a e w'→P e w'):=fun k r hk hr e w' hT=>by
  rw[hP,hr]
  exact(hT.mono hk).behind hbl
 have b0:wn.cell? ⟨w.heap.size,0,none⟩=some (.int .i64 x.kind):=cell_of_row wn _ 0 _ _ (0,0) hX
 have b1:wn.cell? ⟨w.heap.size,1,none⟩=some (.int .i64 x.pl):=cell_of_row wn _ 1 _ _ (0,0) hX
 have b2:wn.cell? ⟨w.heap.size,2,none⟩=some (.string x.name):=cell_of_row wn _ 2 _ _ (0,0) hX
 have b3:wn.cell? ⟨w.heap.size,3,none⟩=some (.int .u64 x.num):=cell_of_row wn _ 3 _ _ (0,0) hX
 have b4:wn.cell? ⟨w.heap.size,4,none⟩=some (.string x.op):=cell_of_row wn _ 4 _ _ (0,0) hX
 have b5:wn.cell? ⟨w.heap.size,5,none⟩=some kv:=cell_of_row wn _ 5 _ _ (0,0) hX
 have hlm:cr s≤100000000:=by unfold lim at hb;omega
 have hlen:1≤sl.xs.length:=hft.1 (by omega)
 obtain⟨ps,bd,hxs⟩:∃ps bd,sl.xs=ps++[bd]:=by
  rcases List.eq_nil_or_concat sl.xs with e | ⟨p,q,e⟩
  ·rw[e] at hlen;simp at hlen
  ·exact⟨p,q,by rw[e,List.concat_eq_append]⟩
 obtain⟨kb,off,hat,_⟩:=hso.cells (by rw[hxs];simp)
 obtain⟨y1,v1,hy1,hv1,H1⟩:=kid_in hso hat (i:=ps.length) (t:=bd) (by rw[hxs];simp) (j:=off+ps.length*6) rfl
 have hll:sl.xs.length=ps.length+1:=by rw[hxs];simp
 have hs3:(sl.xs.map (szT n)).sum=(ps.map (szT n)).sum+szT n bd:=by rw[hxs];simp
 have z1:=sz_pos n bd
 have k1:=hks bd (by rw[hxs];simp)
 have hcl:=hso.len
 have hcm:=hso.cap
 rw[hs3] at hb HFIN
 have hr:(resR bi (n+1)).2.1 ((x,sl):Nd×Sli (Tr n)) s=(eachP (resR bi n).1 ps s).bind (loopP (resR bi n).2.1 [bd]):=by
  show(if x.kind=33 then _ else if x.kind=34 then _ else if x.kind=35 then _ else if x.kind=36∨x.kind=37 then (eachP (resR bi n).1 sl.xs.dropLast s).bind (loopP (resR bi n).2.1 (sl.xs.drop (sl.xs.length - 1))) else _)=_
  rw[if_neg (by omega),if_neg (by omega),if_neg (by omega),if_pos (by omega),hll,hxs,List.dropLast_concat,Nat.add_sub_cancel,List.drop_left]
 have hso2:Sli.ok (encT n) 6 W0 ⟨some ⟨kb,off,none⟩,sl.cap,ps⟩:=by
  obtain⟨sa,kc,sx⟩:=sl
  simp only at hat hxs
  subst hat
  subst hxs
  exact kids_init hso
 have HE0:=all_any W0 n hE wn wb O s 0 a v6 hn ⟨some ⟨kb,off,none⟩,sl.cap,ps⟩ hso2 (fun y hy=>hks y (by rw[hxs];exact List.mem_append_left _ hy)) (by simp only;omega) (by omega)
 simp only at HE0
 obtain⟨r1,hr1⟩:∃r1,r1=eachP (resR bi n).1 ps s:=⟨_,rfl⟩
 rw[←hr1] at HE0 hr
 have HS2:Hid (∀e w2,Tl wn W0.heap.size wb O v6 (8*(ps.map (szT n)).sum - 2*ps.length) r1 s 0 a e w2→e = .returned (.tuple #[])∧w2.cell? ⟨w.heap.size,5,none⟩=some kv∧Below W0.heap.size W0 w2∧Calls Tryz.prog 38 #[.pointer (some ⟨wb,0,none⟩),.agg #[.int .i64 y1.kind,.int .i64 y1.pl,.string y1.name,.int .u64 y1.num,.string y1.op,v1]] w2 (fun e w'=>e = .returned (.tuple #[])∧P e w')):=fun e w2 hT=>by
  refine⟨hT.1,?_,hT.bel hn,?_⟩
  ·obtain⟨_,s1,c1,a1,_,hw1⟩:=hT
   rw[cell_of_row w2 _ 5 _ 25 (0,0) (nd_went h.mem (Nat.le_refl _) hbl hX hw1)]
   rfl
  ·rw[←hv1]
   refine(hT.then (k':=8*szT n bd - 2) (g:=loopP (resR bi n).2.1 [bd]) hn fun O1 s1 c1 a1 hl hc o1 => ?_).mono ?_
   ·have:=hl.dp
    have:=hl.blen
    exact loop_any W0 n hS bd k1 w2 wb O1 s1 c1 a1 v6 o1 (by omega) (by omega) (by omega)
   ·intro e3 w3 hT3
    exact⟨hT3.1,HFIN.out _ _ (by omega) hr e3 w3 hT3⟩
 have HK2:Hid _:=H1
 rw[hll] at hcl
 have hsl:∀w:World,(Instr.slice 23 (.slice (some ⟨kb,off,none⟩) (ps.length+1) sl.cap) none (some (.int .i64 (ps.length:Int))) none).run Tryz.prog w = .ok (.slice (some ⟨kb,off,none⟩) ps.length sl.cap) w:=fun w=>run_init w kb off ps.length sl.cap hcl hcm
 have hkv2:kv = .slice (some ⟨kb,off,none⟩) (ps.length+1) sl.cap:=by rw[hkv,hat,hll]
 have e1:Value.slice sl.at' sl.xs.length sl.cap=kv:=hkv.symm
 rw[e1]
 have hpl:(ps.length:Int)≤9223372036854775806:=by unfold maxLen at hcm;omega
 generalize sl.cap=kc at *
 generalize ps.length=m at *
 have hm0:(0:Int)≤(m:Int):=by omega
 have hm1:(m:Int)<(m:Int)+1:=by omega
 have hm2:(m:Int)+1 - 1=(m:Int):=by omega
 clear h hb hd hm hn hX hP hxw hso hkt hft hks hE hS hB hsz hkv hbl HFIN hr hr1 hlm e1 hlen hat hxs hs3 z1 k1 hv1 H1 hy1 hll hso2 hcl hcm
 subst hkv2
 rw[h35] at b0 hwn ⊢
 clear h35
 go_enter Tryz.func20,Tryz.ntmps20
 go_upto_region 1 with fail
 rw[←hwn]
 clear hwn
 go_wp2_with fail
 refine HE0.mono ?_
 intro e w2 hT
 obtain⟨rfl,b5',bl2,kc2⟩:=HS2.out e w2 hT
 obtain⟨q0,q1,q2,q3,q4,q5⟩:=HK2.out w2 bl2
 clear HE0 hT HS2 HK2 bl2 b0 b1 b2 b3 b4 b5
 go_wp2_with fail
 refine kc2.mono ?_
 rintro e w3 ⟨rfl,hp⟩
 have HE:Hid (P (.returned (.tuple #[])) w3):=hp
 clear kc2 hp
 go_wp2_with fail
 go_end0
 exact HE.out
theorem stat_37 (W0:World)(n:Nat)(hE:ExC W0 n)(hS:StC W0 n)(hB:BlC W0 n):∀(t:Tr (n+1)),(show Nd×Sli (Tr n) from t).1.kind=37→okD (n+1) W0 t→∀(w:World)(wb:Nat)(O:Nat→Prop)(s:Rz.RS)(c a:Int)(v6:Value),OnD W0 wb O s c a v6 w→cr s+8*szT (n+1) t≤lim+2→dp s+4*(n+1)≤lim→1≤s.blocks.length→Calls Tryz.prog 20 #[.pointer (some ⟨wb,0,none⟩),valT (n+1) t] w (Tl w W0.heap.size wb O v6 (8*szT (n+1) t - 2) ((resR bi (n+1)).2.1 t s) s c a):=by
 intro t h35 hok w wb O s c a v6 h hb hd hm
 obtain⟨x,sl⟩:=t
 replace h35:x.kind=37:=h35
 obtain⟨⟨hxw,hso,hkt⟩,hft⟩:=hok
 have hks:∀y∈sl.xs,okD n W0 y:=fun y hy=>⟨hkt y hy,hft.2.2.2.2 y hy⟩
 have hsz:szT (n+1) ((x,sl):Nd×Sli (Tr n))=1+(sl.xs.map (szT n)).sum:=rfl
 rw[hsz] at hb ⊢
 rw[val_succ]
 obtain⟨kv,hkv⟩:∃kv,kv=Value.slice sl.at' sl.xs.length sl.cap:=⟨_,rfl⟩
 obtain⟨wn,hwn⟩:∃wn,wn=w.alloc (.cells #[.int .i64 x.kind,.int .i64 x.pl,.string x.name,.int .u64 x.num,.string x.op,kv] 25):=⟨_,rfl⟩
 have hbl:Below w.heap.size w wn:=by rw[hwn];exact below_new (Below.refl _ _) (Nat.le_refl _) _
 have hX:NdB w.heap.size x kv wn:=by rw[hwn];exact at_new _ _
 have hn:=h.below hbl
 have c7:=hn.mem.box.2.2.2.1
 obtain⟨P,hP⟩:∃P,P=Tl w W0.heap.size wb O v6 (8*(1+(sl.xs.map (szT n)).sum) - 2) ((resR bi (n+1)).2.1 ((x,sl):Nd×Sli (Tr n)) s) s c a:=⟨_,rfl⟩
 rw[←hP]
 by_cases hc:¬c=0
 ·have hc':(c == 0)=false:=by simpa using hc
  have HE:Hid (P (.returned (.tuple #[])) wn):=by rw[hP];exact⟨rfl,s,c,a,(Told.idle hc).mono (by omega),RWent.same h.mem hbl⟩
  rw[←hkv]
  clear h hb hd hn hX hP hxw hso hkt hft hks hE hS hB hsz hkv hbl h35
  go_enter Tryz.func20,Tryz.ntmps20
  go_upto_region 1 with fail
  rw[←hwn]
  clear hwn
  go_wp2_with fail
  go_end0
  exact HE.out
 have hc:=Decidable.not_not.1 hc
 subst hc
 have HFIN:Hid (∀(k:Nat) (r:Except Rz.Er Rz.RS),k≤8*(1+(sl.xs.map (szT n)).sum) - 2→(resR bi (n+1)).2.1 ((x,sl):Nd×Sli (Tr n)) s=r→∀e w',Tl wn W0.heap.size wb O v6 k r s 0 a e w'→P e w'):=fun k r hk hr e w' hT=>by
  rw[hP,hr]
  exact(hT.mono hk).behind hbl
 have b0:wn.cell? ⟨w.heap.size,0,none⟩=some (.int .i64 x.kind):=cell_of_row wn _ 0 _ _ (0,0) hX
 have b1:wn.cell? ⟨w.heap.size,1,none⟩=some (.int .i64 x.pl):=cell_of_row wn _ 1 _ _ (0,0) hX
 have b2:wn.cell? ⟨w.heap.size,2,none⟩=some (.string x.name):=cell_of_row wn _ 2 _ _ (0,0) hX
 have b3:wn.cell? ⟨w.heap.size,3,none⟩=some (.int .u64 x.num):=cell_of_row wn _ 3 _ _ (0,0) hX
 have b4:wn.cell? ⟨w.heap.size,4,none⟩=some (.string x.op):=cell_of_row wn _ 4 _ _ (0,0) hX
 have b5:wn.cell? ⟨w.heap.size,5,none⟩=some kv:=cell_of_row wn _ 5 _ _ (0,0) hX
 have hlm:cr s≤100000000:=by unfold lim at hb;omega
 have hlen:1≤sl.xs.length:=hft.1 (by omega)
 obtain⟨ps,bd,hxs⟩:∃ps bd,sl.xs=ps++[bd]:=by
  rcases List.eq_nil_or_concat sl.xs with e | ⟨p,q,e⟩
  ·rw[e] at hlen;simp at hlen
  ·exact⟨p,q,by rw[e,List.concat_eq_append]⟩
 obtain⟨kb,off,hat,_⟩:=hso.cells (by rw[hxs];simp)
 obtain⟨y1,v1,hy1,hv1,H1⟩:=kid_in hso hat (i:=ps.length) (t:=bd) (by rw[hxs];simp) (j:=off+ps.length*6) rfl
 have hll:sl.xs.length=ps.length+1:=by rw[hxs];simp
 have hs3:(sl.xs.map (szT n)).sum=(ps.map (szT n)).sum+szT n bd:=by rw[hxs];simp
 have z1:=sz_pos n bd
 have k1:=hks bd (by rw[hxs];simp)
 have hcl:=hso.len
 have hcm:=hso.cap
 rw[hs3] at hb HFIN
 have hr:(resR bi (n+1)).2.1 ((x,sl):Nd×Sli (Tr n)) s=(eachP (resR bi n).1 ps s).bind (loopP (resR bi n).2.1 [bd]):=by
  show(if x.kind=33 then _ else if x.kind=34 then _ else if x.kind=35 then _ else if x.kind=36∨x.kind=37 then (eachP (resR bi n).1 sl.xs.dropLast s).bind (loopP (resR bi n).2.1 (sl.xs.drop (sl.xs.length - 1))) else _)=_
  rw[if_neg (by omega),if_neg (by omega),if_neg (by omega),if_pos (by omega),hll,hxs,List.dropLast_concat,Nat.add_sub_cancel,List.drop_left]
 have hso2:Sli.ok (encT n) 6 W0 ⟨some ⟨kb,off,none⟩,sl.cap,ps⟩:=by
  obtain⟨sa,kc,sx⟩:=sl
  simp only at hat hxs
  subst hat
  subst hxs
  exact kids_init hso
 have HE0:=all_any W0 n hE wn wb O s 0 a v6 hn ⟨some ⟨kb,off,none⟩,sl.cap,ps⟩ hso2 (fun y hy=>hks y (by rw[hxs];exact List.mem_append_left _ hy)) (by simp only;omega) (by omega)
 simp only at HE0
 obtain⟨r1,hr1⟩:∃r1,r1=eachP (resR bi n).1 ps s:=⟨_,rfl⟩
 rw[←hr1] at HE0 hr
 have HS2:Hid (∀e w2,Tl wn W0.heap.size wb O v6 (8*(ps.map (szT n)).sum - 2*ps.length) r1 s 0 a e w2→e = .returned (.tuple #[])∧w2.cell? ⟨w.heap.size,5,none⟩=some kv∧Below W0.heap.size W0 w2∧Calls Tryz.prog 38 #[.pointer (some ⟨wb,0,none⟩),.agg #[.int .i64 y1.kind,.int .i64 y1.pl,.string y1.name,.int .u64 y1.num,.string y1.op,v1]] w2 (fun e w'=>e = .returned (.tuple #[])∧P e w')):=fun e w2 hT=>by
  refine⟨hT.1,?_,hT.bel hn,?_⟩
  ·obtain⟨_,s1,c1,a1,_,hw1⟩:=hT
   rw[cell_of_row w2 _ 5 _ 25 (0,0) (nd_went h.mem (Nat.le_refl _) hbl hX hw1)]
   rfl
  ·rw[←hv1]
   refine(hT.then (k':=8*szT n bd - 2) (g:=loopP (resR bi n).2.1 [bd]) hn fun O1 s1 c1 a1 hl hc o1 => ?_).mono ?_
   ·have:=hl.dp
    have:=hl.blen
    exact loop_any W0 n hS bd k1 w2 wb O1 s1 c1 a1 v6 o1 (by omega) (by omega) (by omega)
   ·intro e3 w3 hT3
    exact⟨hT3.1,HFIN.out _ _ (by omega) hr e3 w3 hT3⟩
 have HK2:Hid _:=H1
 rw[hll] at hcl
 have hsl:∀w:World,(Instr.slice 23 (.slice (some ⟨kb,off,none⟩) (ps.length+1) sl.cap) none (some (.int .i64 (ps.length:Int))) none).run Tryz.prog w = .ok (.slice (some ⟨kb,off,none⟩) ps.length sl.cap) w:=fun w=>run_init w kb off ps.length sl.cap hcl hcm
 have hkv2:kv = .slice (some ⟨kb,off,none⟩) (ps.length+1) sl.cap:=by rw[hkv,hat,hll]
 have e1:Value.slice sl.at' sl.xs.length sl.cap=kv:=hkv.symm
 rw[e1]
 have hpl:(ps.length:Int)≤9223372036854775806:=by unfold maxLen at hcm;omega
 generalize sl.cap=kc at *
 generalize ps.length=m at *
 have hm0:(0:Int)≤(m:Int):=by omega
 have hm1:(m:Int)<(m:Int)+1:=by omega
 have hm2:(m:Int)+1 - 1=(m:Int):=by omega
 clear h hb hd hm hn hX hP hxw hso hkt hft hks hE hS hB hsz hkv hbl HFIN hr hr1 hlm e1 hlen hat hxs hs3 z1 k1 hv1 H1 hy1 hll hso2 hcl hcm
 subst hkv2
 rw[h35] at b0 hwn ⊢
 clear h35
 go_enter Tryz.func20,Tryz.ntmps20
 go_upto_region 1 with fail
 rw[←hwn]
 clear hwn
 go_wp2_with fail
 refine HE0.mono ?_
 intro e w2 hT
 obtain⟨rfl,b5',bl2,kc2⟩:=HS2.out e w2 hT
 obtain⟨q0,q1,q2,q3,q4,q5⟩:=HK2.out w2 bl2
 clear HE0 hT HS2 HK2 bl2 b0 b1 b2 b3 b4 b5
 go_wp2_with fail
 refine kc2.mono ?_
 rintro e w3 ⟨rfl,hp⟩
 have HE:Hid (P (.returned (.tuple #[])) w3):=hp
 clear kc2 hp
 go_wp2_with fail
 go_end0
 exact HE.out
end Go.Proofs.YtihmdcdifakepaaGreat.Rv.Rx
