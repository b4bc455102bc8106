/- ME, ZC -/
import Derived.Test.YtihmdcdifakepaaGreatMD
import Derived.Test.YtihmdcdifakepaaGreatB8
set_option linter.unusedVariables false
set_option linter.unusedSimpArgs false
set_option maxRecDepth 100000
set_option maxHeartbeats 40000000
namespace Go.Proofs.YtihmdcdifakepaaGreat.Rv
open Go.RowKit Go.Proofs.YtihmdcdifakepaaGreat.Sc Go.Proofs.YtihmdcdifakepaaGreat.Rz
section
variable {w w':World}{B rb:Nat}{tg:Nat→Nat}{s:Rz.RS}{v0 v1 v2 v3 v6:Value}{ms:List (Option Nat)}
theorem MemAt.c (h:MemAt w B rb tg s v0 v1 v2 v3 v6 ms):w.cell? ⟨rb,0,none⟩=some v0∧w.cell? ⟨rb,1,none⟩=some v1∧w.cell? ⟨rb,2,none⟩=some v2∧w.cell? ⟨rb,3,none⟩=some v3∧w.cell? ⟨rb,4,none⟩=some (.int .i64 (s.fn:Int))∧w.cell? ⟨rb,5,none⟩=some (.int .i64 (s.loops:Int))∧w.cell? ⟨rb,6,none⟩=some v6:=by
 have hb:=h.box
 refine⟨?_,?_,?_,?_,?_,?_,?_⟩ <;> (rw[cell_of_row w rb _ _ 45 (0,0) hb];rfl)
theorem MemAt.f (h:MemAt w B rb tg s v0 v1 v2 v3 v6 ms)(j:Nat):w.frozen? ⟨rb,j,none⟩=false:=frozen_of_row w rb j _ 45 h.box
theorem own_slice {β:Type}{enc:β→List Value}{k:Nat}{e:TypeId}{v:Value}{xs:List β}(h:OwnR enc k e B w v xs):∃ad cap,v = .slice ad xs.length cap∧xs.length≤cap∧cap≤maxLen∧(xs≠[]→∃g,ad=some ⟨g,0,none⟩):=by
 rcases h.2 with⟨rfl,h0⟩ | ⟨g,cap,cur,rfl,hb,hg,hn,hc,_⟩
 ·have:=List.length_eq_zero_iff.1 h0
  subst this
  exact⟨none,0,rfl,Nat.le_refl _,Nat.zero_le _,fun q=>absurd rfl q⟩
 ·exact⟨some ⟨g,0,none⟩,cap,rfl,hn,hc,fun _=>⟨g,rfl⟩⟩
theorem went_of {O:Nat→Prop}{tg':Nat→Nat}{s':Rz.RS}{u0 u1 u2 u3 u6:Value}{ms':List (Option Nat)}(hO:∀b,O b↔Ow rb v0 v1 v2 v3 v6 ms b)(h1:MemAt w' B rb tg' s' u0 u1 u2 u3 u6 ms')(h2:Chg (Ow rb v0 v1 v2 v3 v6 ms) w w')(h3:∀b,Ow rb u0 u1 u2 u3 u6 ms' b→Ow rb v0 v1 v2 v3 v6 ms b∨w.heap.size≤b):Went w B rb O s' u6 w' :=
 ⟨Ow rb u0 u1 u2 u3 u6 ms',⟨tg',u0,u1,u2,u3,ms',h1,fun b=>Iff.rfl⟩,h2.mono (fun b q=>(hO b).2 q),fun b q=>(h3 b q).imp (fun q=>(hO b).2 q) id⟩
end
theorem open_any (w:World)(B rb:Nat)(O:Nat→Prop)(s:Rz.RS)(v6:Value)(h:Mem w B rb O s v6)(hb:bg s≤1000000000) :
  Calls Tryz.prog 26 #[.pointer (some ⟨rb,0,none⟩)] w fun e w'=>e = .returned (.tuple #[])∧Went w B rb O (openP s) v6 w':=by
 obtain⟨tg,v0,v1,v2,v3,ms,h,hO⟩:=h
 have HM:Hid (MemAt w B rb tg s v0 v1 v2 v3 v6 ms):=h
 have c3:=h.c.2.2.2.1
 have f3:=h.f 3
 obtain⟨ad,cap,rfl,l1,l2,_⟩:=own_slice h.r3
 have HL:Hid (ms.length≤1000000000):=by show _≤_;have:=h.ml;unfold bg at hb;omega
 have HA:Hid (∀o,Below w.heap.size w (w.alloc o)):=fun o=>(Below.refl _ _).alloc (Nat.le_refl _) _
 have HR:Hid (OwnR mpC 1 124 B (w.alloc (.cells #[.map none] 124)) (.slice ad ms.length cap) ms):=h.r3.below (HA.out _)
 have HON:Hid (Sli.ok mpC 1 (w.alloc (.cells #[.map none] 124)) ⟨some ⟨w.heap.size,0,none⟩,1,[none]⟩):=one_sli rtMp (at_new _ _) rfl
 have HBX:Hid (((ms.length+1)+(ms.length+1) / 4+192)*8≤281474976710656∧ms.length+1≤maxLen):=by have:=HL.out;exact⟨by omega,by unfold maxLen;omega⟩
 have HSZ:Hid (B≤(w.alloc (.cells #[.map none] 124)).heap.size):=Nat.le_trans (Nat.le_trans h.lo (Nat.le_of_lt h.rlt)) (HA.out _).size
 have hne:¬rb=w.heap.size:=Nat.ne_of_lt h.rlt
 have HFZ:Hid (∀w5,Chg (fun b=>(Value.slice ad ms.length cap).ownBlock=some b) w w5→w5.cell? ⟨rb,3,none⟩=some (.slice ad ms.length cap)∧w5.frozen? ⟨rb,3,none⟩=false):=fun w5 h5=>by
  have hrs:¬(Value.slice ad ms.length cap).ownBlock=some rb:=fun q=>by have:=HM.out.t4 rb q;have:=HM.out.t0;omega
  exact⟨h5.cell c3 hrs,by rw[World.frozen?_of_block (w:=w) (h5.block rb HM.out.rlt hrs)];exact f3⟩
 have HG:Hid (Gd (openP s)):=⟨h.gd.fnl,fun b hb e he=>by
  rcases List.mem_cons.1 hb with q | q
  ·rw[q] at he;cases he
  ·exact h.gd.blk b q e he,fun b hb=>by
  rcases List.mem_cons.1 hb with q | q
  ·rw[q];exact⟨by simp,fun e he=>by cases he⟩
  ·exact h.gd.wf b q⟩
 clear h hb l1 l2
 go_enter Tryz.func26,Tryz.ntmps26
 go_wp2_with (at_builtin;refine app_row rtMp rfl _ _ rfl B (.slice ad ms.length cap) ms ?h1 HR.out ⟨some ⟨w.heap.size,0,none⟩,1,[none]⟩ ?h3 HON.out HBX.out.2 HBX.out.1 HSZ.out ?_)
 case h1=>rfl
 case h3=>rfl
 intro v5 w5 ho5 hg5 hl5
 have hc5:Chg (fun b=>(Value.slice ad ms.length cap).ownBlock=some b) w w5:=(Chg.of_below (HA.out _)).trans (Chg.of_grown (S:=fun b=>(Value.slice ad ms.length cap).ownBlock=some b) hg5 (fun b q=>q)) (fun _ _ q=>q)
 obtain⟨g5,cap5,rfl,_,_⟩:=World.ownsRow.form ho5 (by simp)
 obtain⟨z1,z2⟩:=HFZ.out w5 hc5
 have hrow:=HM.out.row3 (v3' := .slice (some ⟨g5,0,none⟩) (ms++[none]).length cap5) (ms':=ms++[none]) (bs':=[] :: s.blocks) hc5 ho5 (fun b q=>by
   rcases hl5 with e | e
   ·exact Or.inl (e ▸ q)
   ·rw[e] at q
    cases q
    exact Or.inr (by first | exact(HA.out _).size | (simp <;> omega) | omega)) HG.out (by simp[HM.out.ml]) (fun i b q=>by
   rcases Nat.lt_or_ge i ms.length with c | c
   ·rw[List.getElem?_append_left c] at q;exact q
   ·rw[List.getElem?_append_right c,List.getElem?_singleton] at q
    split at q
    ·cases q
    ·cases q) (fun i m b q1 q2=>by
   rw[List.reverse_cons] at q2
   have hml:=HM.out.ml
   rcases Nat.lt_or_ge i ms.length with c | c
   ·rw[List.getElem?_append_left c] at q1
    rw[List.getElem?_append_left (by rw[List.length_reverse];omega)] at q2
    exact HM.out.mp i m b q1 q2
   ·rw[List.getElem?_append_right c,List.getElem?_singleton] at q1
    rw[List.getElem?_append_right (by rw[List.length_reverse];omega),List.getElem?_singleton] at q2
    split at q1
    ·split at q2
     ·cases q1;cases q2;exact Or.inl ⟨rfl,rfl⟩
     ·cases q2
    ·cases q1)
 have HW:Hid (Went w B rb O (openP s) v6 (w5.setCell ⟨rb,3,none⟩ (.slice (some ⟨g5,0,none⟩) (ms++[none]).length cap5))):=went_of hO hrow.1 hrow.2.1 hrow.2.2
 have hln:(ms++[none]).length=ms.length+1:=by simp
 rw[hln] at HW
 clear hrow ho5 hg5 hl5 hc5 HM HR HON HBX HSZ HFZ HG HA HL hO hln
 go_wp2_with fail
 go_end0
 exact⟨rfl,HW.out⟩
theorem shut_any (w:World)(B rb:Nat)(O:Nat→Prop)(s:Rz.RS)(v6:Value)(h:Mem w B rb O s v6)(b0:Blk)(bs:List Blk)(hbs:s.blocks=b0 :: bs) :
  Calls Tryz.prog 28 #[.pointer (some ⟨rb,0,none⟩)] w fun e w'=>e = .returned (.tuple #[])∧Went w B rb O (shutP s) v6 w':=by
 obtain⟨tg,v0,v1,v2,v3,ms,h,hO⟩:=h
 have hml:=h.ml
 rw[hbs,List.length_cons] at hml
 obtain⟨ms0,m,rfl⟩:∃ms0 m,ms=ms0++[m]:=by
  rcases List.eq_nil_or_concat ms with e | ⟨a,b,e⟩
  ·rw[e] at hml;simp at hml
  ·exact⟨a,b,by rw[e,List.concat_eq_append]⟩
 obtain⟨ad,cap,rfl,l1,l2,hg⟩:=own_slice h.r3
 obtain⟨g,rfl⟩:=hg (by simp)
 have hln:(ms0++[m]).length=ms0.length+1:=by simp
 rw[hln] at h l1 hml hO
 have c3:=h.c.2.2.2.1
 have f3:=h.f 3
 have hrow:=h.row3 (v3' := .slice (some ⟨g,0,none⟩) ms0.length cap) (ms':=ms0) (bs':=bs) (w5:=w) (Chg.refl _ _) (h.r3.cut rtMp.len) (fun b q=>Or.inl q) ⟨h.gd.fnl,fun b hb e he=>h.gd.blk b (by rw[hbs];exact List.mem_cons_of_mem _ hb) e he,fun b hb=>h.gd.wf b (by rw[hbs];exact List.mem_cons_of_mem _ hb)⟩ (by omega) (fun i b q=>by rw[List.getElem?_append_left (List.getElem?_eq_some_iff.1 q).1];exact q) (fun i m' b q1 q2=>h.mp i m' b (by rw[List.getElem?_append_left (List.getElem?_eq_some_iff.1 q1).1];exact q1) (by rw[hbs,List.reverse_cons,List.getElem?_append_left (List.getElem?_eq_some_iff.1 q2).1];exact q2))
 have hsh:shutP s={ s with blocks:=bs }:=by unfold shutP;rw[hbs];rfl
 have HW:Hid (Went w B rb O (shutP s) v6 (w.setCell ⟨rb,3,none⟩ (.slice (some ⟨g,0,none⟩) ms0.length cap))):=by
  rw[hsh]
  exact went_of hO hrow.1 hrow.2.1 hrow.2.2
 have l3:(ms0.length:Int)≤cap:=by omega
 have l4:(cap:Int)≤9223372036854775807:=by unfold maxLen at l2;omega
 have l5:((ms0.length:Int)+1)≤9223372036854775807:=by omega
 clear hrow h hsh hO l1 l2 hml hln hg hbs
 go_enter Tryz.func28,Tryz.ntmps28
 go_wp2_with fail
 go_region
 all_goals
  go_wp2_with fail
  go_end0
  exact⟨rfl,HW.out.drew⟩
theorem scope_any (w:World)(B rb:Nat)(O:Nat→Prop)(s:Rz.RS)(v6:Value)(tg:Nat→Nat)(v0 v1 v2 v3:Value)(ms:List (Option Nat))(h:MemAt w B rb tg s v0 v1 v2 v3 v6 ms)(g n cap:Nat)(hv:v0 = .slice (some ⟨g,0,none⟩) n cap) :
  Calls Tryz.prog 70 #[.pointer (some ⟨rb,0,none⟩)] w fun e w'=>e = .returned (.pointer (some ⟨g,s.fn*4,none⟩))∧Below w.heap.size w w':=by
 subst hv
 have c0:=h.c.1
 have c4:=h.c.2.2.2.2.1
 obtain⟨r1,r2,r3,r4,r5,r6,r7⟩:=h.r0.read rtScp.len
 have hf:=h.gd.fnl
 have hfi:(s.fn:Int)<n:=by omega
 have hlim:(n:Int)≤9223372036854775807:=by unfold maxLen at r5;omega
 clear h r1 r2 r3 r4 r5 r6 r7 hf
 go_enter Tryz.func70,Tryz.ntmps70
 go_wp2_with fail
 go_region
 all_goals
  go_wp2_with fail
  go_ret
  exact⟨rfl,(Below.refl _ _).drew⟩
theorem stays_any (w:World)(B rb:Nat)(O:Nat→Prop)(s:Rz.RS)(v6:Value)(h:Mem w B rb O s v6)(v:Option Nat)(hv:∀i,v=some i→i<s.vars.length) :
  Calls Tryz.prog 93 #[.pointer (some ⟨rb,0,none⟩),.int .i64 ((v.map (fun i=>(i:Int))).getD (-1))] w fun e w'=>e = .returned (.bool (staysP v s))∧w'=w:=by
 cases v with
 | none =>
   show Calls Tryz.prog 93 #[.pointer (some ⟨rb,0,none⟩),.int .i64 (-1)] w fun e w'=>e = .returned (.bool true)∧w'=w
   clear h hv
   go_enter Tryz.func93,Tryz.ntmps93
   go_wp2_with fail
   go_ret
   exact⟨rfl,rfl⟩
 | some i =>
   show Calls Tryz.prog 93 #[.pointer (some ⟨rb,0,none⟩),.int .i64 (i:Int)] w fun e w'=>e = .returned (.bool (staysP (some i) s))∧w'=w
   have hi:=hv i rfl
   obtain⟨tg,v0,v1,v2,v3,ms,h,hO⟩:=h
   have c1:=h.c.2.1
   obtain⟨ad,cap,rfl,l1,l2,hg⟩:=own_slice h.r1
   obtain⟨g,rfl⟩:=hg (by intro e;rw[e] at hi;simp at hi)
   obtain⟨r1,r2,r3,r4,r5,r6,r7⟩:=h.r1.read rtVr.len
   have hx:=List.getElem?_eq_getElem hi
   have d2:=r6 i _ hx 2 _ rfl
   have hst:staysP (some i) s=((s.vars[i]).kind == 2 || (s.vars[i]).kind == 5):=by unfold staysP;simp only;rw[hx];rfl
   rw[hst]
   have hii:(i:Int)<s.vars.length:=by omega
   have hlim:(s.vars.length:Int)≤9223372036854775807:=by unfold maxLen at l2;omega
   generalize (s.vars[i]).kind=K at *
   clear h r1 r2 r3 r4 r5 r6 r7 hv hx hst l1 l2 hg hO
   by_cases k2:K=2
   ·subst k2
    go_enter Tryz.func93,Tryz.ntmps93
    go_wp2_with fail
    go_ret
    exact⟨rfl,rfl⟩
   ·have k2':(K == 2)=false:=by simpa using k2
    rw[k2',Bool.false_or]
    generalize hk5:(K == 5)=K5 at *
    go_enter Tryz.func93,Tryz.ntmps93
    go_wp2_with fail
    go_ret
    exact⟨rfl,rfl⟩
end Go.Proofs.YtihmdcdifakepaaGreat.Rv
namespace Go.Proofs.YtihmdcdifakepaaGreat.Rv.Rx
open Go.RowKit Go.Proofs.YtihmdcdifakepaaGreat.Sc Go.Proofs.YtihmdcdifakepaaGreat.Rz
section
variable {w w' w5:World}{B wb:Nat}{O O' S:Nat→Prop}{s s':Rz.RS}{c a c' a':Int}{M M':DV}{tg:Nat→Nat}{v6 v6':Value}
theorem Prt.hold (k:Nat)
  (e2:k≠2→M'.v0=M.v0∧s'.scopes=s.scopes) (e3:k≠3→M'.v1=M.v1∧s'.vars=s.vars) (e4:k≠4→M'.v2=M.v2∧s'.uses=s.uses)
  (e5:k≠5→M'.v3=M.v3∧M'.bs=M.bs) (e6:k≠6→M'.v6=M.v6∧s'.labels=s.labels)
  (e7:∀j v b,k≠j+7→M'.bs[j]?=some v→s'.blocks.reverse[j]?=some b→(M.bs[j]?=some v∧s.blocks.reverse[j]?=some b)∨(v=⟨none,0,0⟩∧b=[])) :
  ∀(j':Nat) (W:World) (O:Nat→Prop),j'≠1→j'≠k→Prt W B wb s c a M O j'→Prt W B wb s' c' a' M' O j'
 | 0,W,O,_,_,_=>trivial
 | 1,W,O,h,_,_=>absurd rfl h
 | 2,W,O,_,h,q=>by obtain⟨x1,x2⟩:=e2 (Ne.symm h);show RowIn _ _ _ _ _ _ _ _;rw[x1,x2];exact q
 | 3,W,O,_,h,q=>by obtain⟨x1,x2⟩:=e3 (Ne.symm h);show RowIn _ _ _ _ _ _ _ _;rw[x1,x2];exact q
 | 4,W,O,_,h,q=>by obtain⟨x1,x2⟩:=e4 (Ne.symm h);show RowIn _ _ _ _ _ _ _ _;rw[x1,x2];exact q
 | 5,W,O,_,h,q=>by obtain⟨x1,x2⟩:=e5 (Ne.symm h);show RowIn _ _ _ _ _ _ _ _;rw[x1,x2];exact q
 | 6,W,O,_,h,q=>by obtain⟨x1,x2⟩:=e6 (Ne.symm h);show RowIn _ _ _ _ _ _ _ _;rw[x1,x2];exact q
 | j+7,W,O,_,h,q=>fun v b h1 h2=>by
   rcases e7 j v b (Ne.symm h) h1 h2 with⟨x1,x2⟩ | ⟨x1,x2⟩
   ·exact q v b x1 x2
   ·rw[x1,x2];exact⟨OwnR.nil B W,fun b q=>by cases q⟩
theorem Prt.plain (h0:s'.scopes=s.scopes)(h1:s'.vars=s.vars)(h2:s'.uses=s.uses)(h3:s'.blocks=s.blocks)(h6:s'.labels=s.labels):∀(j':Nat)(W:World)(O:Nat→Prop),j'≠1→Prt W B wb s c a M O j'→Prt W B wb s' c' a' M O j':=fun j' W O hn q=>by
 cases j' with
 | zero=>trivial
 | succ j=>exact Prt.hold 0 (fun _=>⟨rfl,h0⟩) (fun _=>⟨rfl,h1⟩) (fun _=>⟨rfl,h2⟩) (fun _=>⟨rfl,rfl⟩) (fun _=>⟨rfl,h6⟩) (fun j v b _ x1 x2=>Or.inl ⟨x1,by rw[←h3];exact x2⟩) (j+1) W O hn (by omega) q
theorem At.rowin {β:Type}{enc:β→List Value}{kk:Nat}{e:TypeId}{v v':Value}{xs':List β}{k:Nat}(h:At w B wb tg s c a M)(hk:k≠0)(hv:∀b,v.ownBlock=some b→tg b=k)(ho:OwnR enc kk e B w5 v' xs')(hat:∀b,v'.ownBlock=some b→v.ownBlock=some b∨w.heap.size≤b)
  {O:Nat→Prop} (h1:∀b,b<w.heap.size→tg b=k→O b) (h2:∀b,w.heap.size≤b→b<w5.heap.size→O b):RowIn enc kk e B w5 O v' xs' :=
 ⟨ho,fun b q=>(hat b q).elim (fun q=>h1 b (h.lt b (by rw[hv b q];exact hk)).2 (hv b q)) (fun z=>h2 b z (ho.lt b q).2)⟩
theorem At.wentF (h:At w B wb tg s c a M)(hO:∀b,O b↔tg b≠0){j:Nat}{u:Value}(hbx:boxC s' c' a' M=(boxC s c a M).setIfInBounds j u)(h0:s'.scopes=s.scopes)(h1:s'.vars=s.vars)(h2:s'.uses=s.uses)(h3:s'.blocks=s.blocks)(h6:s'.labels=s.labels)(hg:GdD s'):RWent w B wb O s' c' a' M.v6 (w.setCell ⟨wb,j,none⟩ u):=by
 obtain⟨g1,g2⟩:=h.fld M hbx (Prt.plain h0 h1 h2 h3 h6) (by rw[h3];exact h.len)
 exact h.went (k0:=0) g2 (fun b hb q=>by omega) (by simpa using g1) hg rfl hO
theorem RMem.set7 (h:RMem w B wb O s c a v6)(e:Int):RWent w B wb O s e a v6 (w.setCell ⟨wb,7,none⟩ (.int .i64 e)):=by
 obtain⟨tg,M,h1,hgd,rfl,hO⟩:=h
 exact h1.wentF hO rfl rfl rfl rfl rfl rfl hgd
theorem RMem.set8 (h:RMem w B wb O s c a v6)(e:Int):RWent w B wb O s c e v6 (w.setCell ⟨wb,8,none⟩ (.int .i64 e)):=by
 obtain⟨tg,M,h1,hgd,rfl,hO⟩:=h
 exact h1.wentF hO rfl rfl rfl rfl rfl rfl hgd
theorem RMem.set6 (h:RMem w B wb O s c a v6)(k:Nat):RWent w B wb O { s with loops:=k } c a v6 (w.setCell ⟨wb,6,none⟩ (.int .i64 (k:Int))):=by
 obtain⟨tg,M,h1,hgd,rfl,hO⟩:=h
 exact h1.wentF hO rfl rfl rfl rfl rfl rfl ⟨hgd.fnl,hgd.blk,hgd.wf,hgd.few,hgd.scl⟩
theorem RMem.set4 (h:RMem w B wb O s c a v6)(k:Nat)(hk:k<s.scopes.length):RWent w B wb O { s with fn:=k } c a v6 (w.setCell ⟨wb,4,none⟩ (.int .i64 (k:Int))):=by
 obtain⟨tg,M,h1,hgd,rfl,hO⟩:=h
 exact h1.wentF hO rfl rfl rfl rfl rfl rfl ⟨hk,hgd.blk,hgd.wf,hgd.few,hgd.scl⟩
end
theorem fail_any (w:World)(B wb:Nat)(O:Nat→Prop)(s:Rz.RS)(a:Int)(v6:Value)(h:RMem w B wb O s 0 a v6)(pl e:Int) :
  Calls Tryz.prog 34 #[.pointer (some ⟨wb,0,none⟩),.int .i64 pl,.int .i64 e] w fun r w'=>r = .returned (.tuple #[])∧RWent w B wb O s e pl v6 w':=by
 have c7:=h.box.2.2.2.1
 have c8:=h.box.2.2.2.2.1
 have f7:=h.box.2.2.2.2.2 7
 have f8:=h.box.2.2.2.2.2 8
 have h1:=h.set7 e
 have HW:Hid (RWent w B wb O s e pl v6 ((w.setCell ⟨wb,7,none⟩ (.int .i64 e)).setCell ⟨wb,8,none⟩ (.int .i64 pl))):=h1.trans fun O' q=>q.set8 pl
 clear h h1
 go_enter Tryz.func34,Tryz.ntmps34
 go_wp2_with fail
 go_end0
 exact⟨rfl,HW.out⟩
theorem open_any (w:World)(B wb:Nat)(O:Nat→Prop)(s:Rz.RS)(c a:Int)(v6:Value)(h:RMem w B wb O s c a v6)(hb:s.blocks.length≤1000000000) :
  Calls Tryz.prog 39 #[.pointer (some ⟨wb,0,none⟩)] w fun e w'=>e = .returned (.tuple #[])∧RWent w B wb O (openP s) c a v6 w':=by
 obtain⟨tg,M,h,hgd,rfl,hO⟩:=h
 have HM:Hid (At w B wb tg s c a M):=h
 have c3:=h.box.2.2.2.1
 have f3:=h.box.2.2.2.2.2.2.2.2.2 3
 have h5:RowIn slC 1 54 B w (fun b=>tg b=5) M.v3 M.bs:=h.prt 5
 obtain⟨ad,cap,hv3,l1,l2,_⟩:=own_slice h5.1
 rw[hv3] at h5 c3
 have HL:Hid (M.bs.length≤1000000000):=by show _≤_;have:=h.len;omega
 have HA:Hid (∀o,Below w.heap.size w (w.alloc o)):=fun o=>(Below.refl _ _).alloc (Nat.le_refl _) _
 have HR:Hid (OwnR slC 1 54 B (w.alloc (.cells #[.slice none 0 0] 54)) (.slice ad M.bs.length cap) M.bs):=h5.1.below (HA.out _)
 have HON:Hid (Sli.ok slC 1 (w.alloc (.cells #[.slice none 0 0] 54)) ⟨some ⟨w.heap.size,0,none⟩,1,[⟨none,0,0⟩]⟩):=one_sli rxSl (at_new _ _) rfl
 have HBX:Hid (((M.bs.length+1)+(M.bs.length+1) / 4+192)*24≤281474976710656∧M.bs.length+1≤maxLen):=by have:=HL.out;exact⟨by omega,by unfold maxLen;omega⟩
 have hwl:=h.B0.2.1
 have HSZ:Hid (B≤(w.alloc (.cells #[.slice none 0 0] 54)).heap.size):=Nat.le_trans (Nat.le_trans h.B0.2.2 (Nat.le_of_lt hwl)) (HA.out _).size
 have hne:¬wb=w.heap.size:=Nat.ne_of_lt hwl
 have HTG:Hid (∀b,(Value.slice ad M.bs.length cap).ownBlock=some b→tg b=5):=h5.2
 have HFZ:Hid (∀w5,Chg (fun b=>(Value.slice ad M.bs.length cap).ownBlock=some b) w w5→w5.cell? ⟨wb,3,none⟩=some (.slice ad M.bs.length cap)∧w5.frozen? ⟨wb,3,none⟩=false):=fun w5 h5=>by
  have hrs:¬(Value.slice ad M.bs.length cap).ownBlock=some wb:=fun q=>by have:=HTG.out wb q;have:=HM.out.B0;omega
  exact⟨h5.cell c3 hrs,by rw[World.frozen?_of_block (w:=w) (h5.block wb hwl hrs)];exact f3⟩
 have HG:Hid (GdD (openP s)):=⟨hgd.fnl,fun b hb e he=>by
  rcases List.mem_cons.1 hb with q | q
  ·rw[q] at he;cases he
  ·exact hgd.blk b q e he,fun b hb=>by
  rcases List.mem_cons.1 hb with q | q
  ·rw[q];exact⟨by simp,fun e he=>by cases he⟩
  ·exact hgd.wf b q,fun b hb=>by
  rcases List.mem_cons.1 hb with q | q
  ·rw[q];exact Nat.zero_le _
  ·exact hgd.few b q,hgd.scl⟩
 clear h hb l1 l2 h5
 go_enter Tryz.func39,Tryz.ntmps39
 go_wp2_with (at_builtin;refine app_row rxSl rfl _ _ rfl B (.slice ad M.bs.length cap) M.bs ?h1 HR.out ⟨some ⟨w.heap.size,0,none⟩,1,[⟨none,0,0⟩]⟩ ?h3 HON.out HBX.out.2 HBX.out.1 HSZ.out ?_)
 case h1=>rfl
 case h3=>rfl
 intro v5 w5 ho5 hg5 hl5
 have hc5:Chg (fun b=>(Value.slice ad M.bs.length cap).ownBlock=some b) w w5:=(Chg.of_below (HA.out _)).trans (Chg.of_grown (S:=fun b=>(Value.slice ad M.bs.length cap).ownBlock=some b) hg5 (fun b q=>q)) (fun _ _ q=>q)
 obtain⟨g5,cap5,rfl,_,_⟩:=World.ownsRow.form ho5 (by simp)
 have hln:(M.bs++[(⟨none,0,0⟩:SV)]).length=M.bs.length+1:=by simp
 simp only[hln] at ho5 hl5 ⊢
 obtain⟨v5,hv5⟩:∃v5,v5=Value.slice (some ⟨g5,0,none⟩) (M.bs.length+1) cap5:=⟨_,rfl⟩
 have ho5:OwnR slC 1 54 B w5 v5 (M.bs++[⟨none,0,0⟩]):=by rw[hv5];exact ho5
 rw[←hv5] at hl5
 obtain⟨z1,z2⟩:=HFZ.out w5 hc5
 have hlen:=HM.out.len
 have hold:∀(j':Nat) (W:World) (O':Nat→Prop),j'≠1→j'≠5→Prt W B wb s c a M O' j'→Prt W B wb (openP s) c a { M with v3:=v5,bs:=M.bs++[⟨none,0,0⟩] } O' j':=Prt.hold 5 (fun _=>⟨rfl,rfl⟩) (fun _=>⟨rfl,rfl⟩) (fun _=>⟨rfl,rfl⟩) (fun q=>absurd rfl q) (fun _=>⟨rfl,rfl⟩) (fun j v b _ x1 x2=>by
   have x2:([] :: s.blocks).reverse[j]?=some b:=x2
   rw[List.reverse_cons] at x2
   have x1:(M.bs++[⟨none,0,0⟩])[j]?=some v:=x1
   rcases Nat.lt_or_ge j M.bs.length with d | d
   ·rw[List.getElem?_append_left d] at x1
    rw[List.getElem?_append_left (by rw[List.length_reverse];omega)] at x2
    exact Or.inl ⟨x1,x2⟩
   ·rw[List.getElem?_append_right d,List.getElem?_singleton] at x1
    rw[List.getElem?_append_right (by rw[List.length_reverse];omega),List.getElem?_singleton] at x2
    split at x1
    ·split at x2
     ·cases x1;cases x2;exact Or.inr ⟨rfl,rfl⟩
     ·cases x2
    ·cases x1)
 have hrow:=HM.out.row (k:=5) (j:=3) (u:=v5) (s':=openP s) (by omega) (hc5.mono HTG.out) { M with v3:=v5,bs:=M.bs++[⟨none,0,0⟩] } rfl
  (fun O' h1 h2=>HM.out.rowin (by omega) HTG.out ho5 (fun b q=>by
   rcases hl5 with e | e
   ·exact Or.inl (e ▸ q)
   ·rw[e] at q
    cases q
    exact Or.inr (by first | exact(HA.out (.cells #[] 0)).size | (simp <;> omega) | omega)) h1 h2)
  hold
  (by show(M.bs++[_]).length=([] :: s.blocks).length;simp[hlen])
 have HW:Hid (RWent w B wb O (openP s) c a M.v6 (w5.setCell ⟨wb,3,none⟩ v5)):=HM.out.went (k0:=5) (M':={ M with v3:=v5,bs:=M.bs++[⟨none,0,0⟩] }) hrow.2 (fun b hb q=>by omega) (by simpa using hrow.1) HG.out rfl hO
 rw[hv5] at HW
 clear hrow hold ho5 hg5 hl5 hc5 HM HR HON HBX HSZ HFZ HG HA HL hO HTG hlen hv5
 go_wp2_with fail
 go_end0
 exact⟨rfl,HW.out⟩
theorem shut_any (w:World)(B wb:Nat)(O:Nat→Prop)(s:Rz.RS)(c a:Int)(v6:Value)(h:RMem w B wb O s c a v6)(hbs:1≤s.blocks.length) :
  Calls Tryz.prog 40 #[.pointer (some ⟨wb,0,none⟩)] w fun e w'=>e = .returned (.tuple #[])∧RWent w B wb O (shutP s) c a v6 w':=by
 obtain⟨tg,M,h,hgd,rfl,hO⟩:=h
 have hml:=h.len
 obtain⟨b0,bs,hbl⟩:∃b0 bs,s.blocks=b0 :: bs:=by
  cases q:s.blocks with
  | nil=>rw[q] at hbs;simp at hbs
  | cons x y=>exact⟨x,y,rfl⟩
 rw[hbl,List.length_cons] at hml
 obtain⟨ms0,m,hms⟩:∃ms0 m,M.bs=ms0++[m]:=by
  rcases List.eq_nil_or_concat M.bs with e | ⟨x,y,e⟩
  ·rw[e] at hml;simp at hml
  ·exact⟨x,y,by rw[e,List.concat_eq_append]⟩
 have c3:=h.box.2.2.2.1
 have f3:=h.box.2.2.2.2.2.2.2.2.2 3
 have h5:RowIn slC 1 54 B w (fun b=>tg b=5) M.v3 M.bs:=h.prt 5
 obtain⟨ad,cap,hv3,l1,l2,hg⟩:=own_slice h5.1
 obtain⟨g,rfl⟩:=hg (by rw[hms];simp)
 have hln:M.bs.length=ms0.length+1:=by rw[hms];simp
 rw[hv3,hms] at h5
 rw[hv3,hln] at c3
 have hshut:shutP s={ s with blocks:=bs }:=by unfold shutP;rw[hbl];rfl
 have hcut:=h5.1
 rw[show(ms0++[m]).length=ms0.length+1 by simp] at hcut
 have hold:∀(j':Nat) (W:World) (O':Nat→Prop),j'≠1→j'≠5→Prt W B wb s c a M O' j'→Prt W B wb { s with blocks:=bs } c a { M with v3 := .slice (some ⟨g,0,none⟩) ms0.length cap,bs:=ms0 } O' j':=Prt.hold 5 (fun _=>⟨rfl,rfl⟩) (fun _=>⟨rfl,rfl⟩) (fun _=>⟨rfl,rfl⟩) (fun q=>absurd rfl q) (fun _=>⟨rfl,rfl⟩) (fun j v b _ x1 x2=>by
   have x1:ms0[j]?=some v:=x1
   have x2:bs.reverse[j]?=some b:=x2
   refine Or.inl ⟨?_,?_⟩
   ·rw[hms,List.getElem?_append_left (List.getElem?_eq_some_iff.1 x1).1];exact x1
   ·rw[hbl,List.reverse_cons,List.getElem?_append_left (List.getElem?_eq_some_iff.1 x2).1];exact x2)
 have hrow:=h.row (k:=5) (j:=3) (u := .slice (some ⟨g,0,none⟩) ms0.length cap) (s':={ s with blocks:=bs }) (by omega) (Chg.refl _ w) { M with v3 := .slice (some ⟨g,0,none⟩) ms0.length cap,bs:=ms0 } rfl
  (fun O' h1 h2=>⟨hcut.cut rxSl.len,fun b q=>h1 b (hcut.lt b q).2 (h5.2 b (by simpa [Value.ownBlock] using q))⟩)
  hold
  (by show ms0.length=bs.length;omega)
 have HW:Hid (RWent w B wb O (shutP s) c a M.v6 (w.setCell ⟨wb,3,none⟩ (.slice (some ⟨g,0,none⟩) ms0.length cap))):=by
  show RWent _ _ _ _ _ _ _ _ _
  rw[hshut]
  exact h.went (k0:=5) (M':={ M with v3 := .slice (some ⟨g,0,none⟩) ms0.length cap,bs:=ms0 }) hrow.2 (fun b hb q=>by omega) (by simpa using hrow.1) ⟨hgd.fnl,fun b hb e he=>hgd.blk b (by rw[hbl];exact List.mem_cons_of_mem _ hb) e he,fun b hb=>hgd.wf b (by rw[hbl];exact List.mem_cons_of_mem _ hb),fun b hb=>hgd.few b (by rw[hbl];exact List.mem_cons_of_mem _ hb),hgd.scl⟩ rfl hO
 have l3:(ms0.length:Int)≤cap:=by omega
 have l4:(cap:Int)≤9223372036854775807:=by unfold maxLen at l2;omega
 have l5:((ms0.length:Int)+1)≤9223372036854775807:=by omega
 clear hrow hold h hshut hO l1 l2 hml hln hg hbs hbl hcut h5 hms hv3
 go_enter Tryz.func40,Tryz.ntmps40
 go_wp2_with fail
 go_region
 all_goals
  go_wp2_with fail
  go_end0
  exact⟨rfl,HW.out.drew⟩
end Go.Proofs.YtihmdcdifakepaaGreat.Rv.Rx
