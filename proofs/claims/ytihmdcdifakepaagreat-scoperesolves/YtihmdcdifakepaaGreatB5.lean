/- WD, WE -/
import Derived.Test.YtihmdcdifakepaaGreatB4
set_option linter.unusedVariables false
set_option linter.unusedSimpArgs false
set_option maxRecDepth 100000
set_option maxHeartbeats 40000000
namespace Go.Proofs.YtihmdcdifakepaaGreat.Sc
open Go.RowKit
structure Pl (B pb:Nat)(w:World)(vU vV:Value)(U V:List Int)(bad:Bool):Prop where
 c0:w.cell? ⟨pb,0,none⟩=some vU
 c1:w.cell? ⟨pb,1,none⟩=some vV
 c2:w.cell? ⟨pb,2,none⟩=some (.bool bad)
 f0:w.frozen? ⟨pb,0,none⟩=false
 f1:w.frozen? ⟨pb,1,none⟩=false
 f2:w.frozen? ⟨pb,2,none⟩=false
 oU:OwnI B w vU U
 oV:OwnI B w vV V
 sU:vU.ownBlock≠some pb
 sV:vV.ownBlock≠some pb
 sUV:∀k,vU.ownBlock=some k→vV.ownBlock≠some k
 pB:B≤pb
def Own (pb:Nat)(vU vV:Value)(k:Nat):Prop:=k=pb∨vU.ownBlock=some k∨vV.ownBlock=some k
theorem Pl.own_B {B pb:Nat}{w:World}{vU vV:Value}{U V:List Int}{bad:Bool}(h:Pl B pb w vU vV U V bad):∀k,Own pb vU vV k→B≤k:=by
 rintro k (rfl | q | q)
 ·exact h.pB
 ·exact(h.oU.lt k q).1
 ·exact(h.oV.lt k q).1
theorem Pl.size {B pb:Nat}{w:World}{vU vV:Value}{U V:List Int}{bad:Bool}(h:Pl B pb w vU vV U V bad):B≤w.heap.size:=by
 have:=World.block_lt_of_cell? w _ h.c0
 have:=h.pB
 simp at *
 omega
theorem frozen_chg {S:Nat→Prop}{w w':World}(h:Chg S w w'){a:Addr}{u:Value}(hu:w.cell? a=some u)(hn:¬S a.block):w'.frozen? a=w.frozen? a :=
 World.frozen?_of_block (w:=w) (h.block a.block (World.block_lt_of_cell? w _ hu) hn)
theorem Pl.kept {B pb:Nat}{w w':World}{vU vV:Value}{U V:List Int}{bad:Bool}{S:Nat→Prop}(h:Pl B pb w vU vV U V bad)(hc:Chg S w w')(hs:∀k,Own pb vU vV k→¬S k):Pl B pb w' vU vV U V bad:=by
 have hp:¬S pb:=hs pb (Or.inl rfl)
 exact⟨hc.cell h.c0 hp,hc.cell h.c1 hp,hc.cell h.c2 hp,(frozen_chg hc h.c0 hp).trans h.f0,(frozen_chg hc h.c1 hp).trans h.f1,(frozen_chg hc h.c2 hp).trans h.f2,
  h.oU.kept hc (fun k e=>hs k (Or.inr (Or.inl e))),h.oV.kept hc (fun k e=>hs k (Or.inr (Or.inr e))),h.sU,h.sV,h.sUV,h.pB⟩
theorem Pl.new {B pb:Nat}{w w':World}{vU vV:Value}{U V:List Int}{bad:Bool}(h:Pl B pb w vU vV U V bad)(hc:Below w.heap.size w w'):Pl B pb w' vU vV U V bad :=
 h.kept (S:=fun _=>False) (Chg.of_below hc) (fun _ _ q=>q)
def Rs (st:RS)(U V:List Int)(bad:Bool):Prop:=match st with
 | none=>bad=true
 | some s=>bad=false∧s.1=U.reverse∧s.2=V.reverse
structure PlAt (B pb:Nat)(w:World)(st:RS)(m:Nat)(vU vV:Value):Prop where
 mem:∃U V,Pl B pb w vU vV U V st.isNone∧Rs st U V st.isNone∧U.length≤m∧V.length≤m
structure Stp (pb:Nat)(w:World)(vU vV:Value)(w':World)(vU' vV':Value):Prop where
 chg:Chg (Own pb vU vV) w w'
 own:∀k,Own pb vU' vV' k→k<w.heap.size→Own pb vU vV k
theorem Stp.refl (pb:Nat)(w:World)(vU vV:Value):Stp pb w vU vV w vU vV:=⟨Chg.refl _ _,fun _ h _=>h⟩
theorem Stp.new {pb:Nat}{w w':World}(vU vV:Value)(h:Below w.heap.size w w'):Stp pb w vU vV w' vU vV:=⟨Chg.of_below h,fun _ h _=>h⟩
theorem Stp.trans {pb:Nat}{a b c:World}{vU vV vU' vV' vU'' vV'':Value}(h:Stp pb a vU vV b vU' vV')(k:Stp pb b vU' vV' c vU'' vV''):Stp pb a vU vV c vU'' vV'' :=
 ⟨h.chg.trans k.chg (fun i hi q=>h.own i q hi),fun i q hi=>h.own i (k.own i q (Nat.lt_of_lt_of_le hi h.chg.size)) hi⟩
theorem PlAt.new {B pb:Nat}{w w':World}{st:RS}{m:Nat}{vU vV:Value}(h:PlAt B pb w st m vU vV)(hc:Below w.heap.size w w'):PlAt B pb w' st m vU vV:=by
 obtain⟨U,V,h1,h2⟩:=h.mem
 exact⟨U,V,h1.new hc,h2⟩
theorem PlAt.more {B pb:Nat}{w:World}{st:RS}{m m':Nat}{vU vV:Value}(h:PlAt B pb w st m vU vV)(hm:m≤m'):PlAt B pb w st m' vU vV:=by
 obtain⟨U,V,h1,h2,h3,h4⟩:=h.mem
 exact⟨U,V,h1,h2,by omega,by omega⟩
theorem PlAt.bad {B pb:Nat}{w:World}{st:RS}{m:Nat}{vU vV:Value}(h:PlAt B pb w st m vU vV):w.cell? ⟨pb,2,none⟩=some (.bool st.isNone)∧w.frozen? ⟨pb,2,none⟩=false:=by
 obtain⟨U,V,h1,_⟩:=h.mem
 exact⟨h1.c2,h1.f2⟩
theorem PlAt.own_B {B pb:Nat}{w:World}{st:RS}{m:Nat}{vU vV:Value}(h:PlAt B pb w st m vU vV):∀k,Own pb vU vV k→B≤k:=by
 obtain⟨U,V,h1,_⟩:=h.mem
 exact h1.own_B
theorem PlAt.lt {B pb:Nat}{w:World}{st:RS}{m:Nat}{vU vV:Value}(h:PlAt B pb w st m vU vV):∀k,Own pb vU vV k→k<w.heap.size:=by
 obtain⟨U,V,h1,_⟩:=h.mem
 rintro k (rfl | q | q)
 ·exact World.block_lt_of_cell? w _ h1.c0
 ·exact(h1.oU.lt k q).2
 ·exact(h1.oV.lt k q).2
theorem PlAt.size {B pb:Nat}{w:World}{st:RS}{m:Nat}{vU vV:Value}(h:PlAt B pb w st m vU vV):B≤w.heap.size:=by
 obtain⟨U,V,h1,_⟩:=h.mem
 exact h1.size
theorem PlAt.below {B pb:Nat}{W w w':World}{st:RS}{m:Nat}{vU vV vU' vV':Value}(h:PlAt B pb w st m vU vV)(hs:Stp pb w vU vV w' vU' vV')(hb:Below B W w):Below B W w' :=
 hs.chg.below hb h.size h.own_B
theorem PlAt.spoil {B pb:Nat}{w:World}{st:RS}{m:Nat}{vU vV:Value}(h:PlAt B pb w st m vU vV):PlAt B pb (w.setCell ⟨pb,2,none⟩ (.bool true)) none m vU vV∧Stp pb w vU vV (w.setCell ⟨pb,2,none⟩ (.bool true)) vU vV:=by
 obtain⟨U,V,h1,h2,h3,h4⟩:=h.mem
 have hc:Chg (fun k=>k=pb) w (w.setCell ⟨pb,2,none⟩ (.bool true)):=Chg.set w _ _ rfl
 refine⟨⟨U,V,⟨?_,?_,?_,?_,?_,?_,h1.oU.kept hc (fun k e q=>h1.sU (q ▸ e)),h1.oV.kept hc (fun k e q=>h1.sV (q ▸ e)),h1.sU,h1.sV,h1.sUV,h1.pB⟩,rfl,h3,h4⟩,⟨Chg.set w _ _ (Or.inl rfl),fun _ q _=>q⟩⟩
 ·rw[World.cell?_setCell_other _ _ _ _ (by simp)];exact h1.c0
 ·rw[World.cell?_setCell_other _ _ _ _ (by simp)];exact h1.c1
 ·rw[World.cell?_setCell_same _ _ _ h1.c2];rfl
 ·rw[World.frozen?_setCell];exact h1.f0
 ·rw[World.frozen?_setCell];exact h1.f1
 ·rw[World.frozen?_setCell];exact h1.f2
theorem loc_ne {w w1:World}{B pb:Nat}{v v':Value}{V V':List Int}(ho:OwnI B w1 v' V')(hs:v.ownBlock≠some pb)(hp:pb<w.heap.size)(hl:v'.ownBlock=v.ownBlock∨∃k,v'.ownBlock=some k∧w.heap.size≤k):v'.ownBlock≠some pb:=by
 rcases hl with q | ⟨k,q,r⟩
 ·rw[q];exact hs
 ·rw[q];intro e;cases e;omega
theorem Pl.putV {B pb:Nat}{w w1:World}{vU vV v':Value}{U V X':List Int}{bad:Bool}(h:Pl B pb w vU vV U V bad)(ho:OwnI B w1 v' X')(hc:Chg (fun k=>vV.ownBlock=some k) w w1)
  (hl:v'.ownBlock=vV.ownBlock∨∃k,v'.ownBlock=some k∧w.heap.size≤k) (b:Bool) :
  Pl B pb ((w1.setCell ⟨pb,1,none⟩ v').setCell ⟨pb,2,none⟩ (.bool b)) vU v' U X' b∧Stp pb w vU vV ((w1.setCell ⟨pb,1,none⟩ v').setCell ⟨pb,2,none⟩ (.bool b)) vU v' ∧
   (w1.cell? ⟨pb,1,none⟩=some vV∧w1.frozen? ⟨pb,1,none⟩=false∧w1.cell? ⟨pb,2,none⟩=some (.bool bad)∧w1.frozen? ⟨pb,2,none⟩=false):=by
 have hpb:pb<w.heap.size:=World.block_lt_of_cell? w _ h.c0
 have n1:¬(vV.ownBlock=some pb):=h.sV
 have c0:=hc.cell h.c0 n1
 have c1:=hc.cell h.c1 n1
 have c2:=hc.cell h.c2 n1
 have f0:=(frozen_chg hc h.c0 n1).trans h.f0
 have f1:=(frozen_chg hc h.c1 n1).trans h.f1
 have f2:=(frozen_chg hc h.c2 n1).trans h.f2
 have hv:v'.ownBlock≠some pb:=loc_ne (V:=X') ho h.sV hpb hl
 have hw:OwnI B w1 vU U:=h.oU.kept hc (fun k e q=>absurd q (h.sUV k e))
 have d1:Chg (fun k=>k=pb) w1 (w1.setCell ⟨pb,1,none⟩ v'):=Chg.set _ _ _ rfl
 have d2:Chg (fun k=>k=pb) (w1.setCell ⟨pb,1,none⟩ v') ((w1.setCell ⟨pb,1,none⟩ v').setCell ⟨pb,2,none⟩ (.bool b)):=Chg.set _ _ _ rfl
 have d3:=d1.trans d2 (fun _ _ q=>q)
 have osep:∀k,v'.ownBlock=some k→vU.ownBlock≠some k:=by
  intro k e1 e2
  rcases hl with q | ⟨k',q,r⟩
  ·rw[q] at e1;exact(h.sUV k e2 e1).elim
  ·rw[q] at e1;cases e1
   have:=(h.oU.lt k e2).2
   omega
 refine⟨⟨?_,?_,?_,?_,?_,?_,hw.kept d3 (fun k e q=>h.sU (q ▸ e)),ho.kept d3 (fun k e q=>hv (q ▸ e)),h.sU,hv,fun k e1 e2=>osep k e2 e1,h.pB⟩,⟨⟨?_,?_,?_,?_,?_⟩,?_⟩,c1,f1,c2,f2⟩
 ·rw[World.cell?_setCell_other _ _ _ _ (by simp)]
  first
   | rw[World.cell?_setCell_same _ _ _ c0]
   | (rw[World.cell?_setCell_other _ _ _ _ (by simp)];exact c0)
 ·rw[World.cell?_setCell_other _ _ _ _ (by simp)]
  first
   | rw[World.cell?_setCell_same _ _ _ c1]
   | (rw[World.cell?_setCell_other _ _ _ _ (by simp)];exact c1)
 ·exact World.cell?_setCell_same _ _ _ (by rw[World.cell?_setCell_other _ _ _ _ (by simp)];exact c2)
 ·rw[World.frozen?_setCell,World.frozen?_setCell];exact f0
 ·rw[World.frozen?_setCell,World.frozen?_setCell];exact f1
 ·rw[World.frozen?_setCell,World.frozen?_setCell];exact f2
 ·exact hc.os
 ·exact hc.tape
 ·exact hc.output
 ·have:=hc.size;simp;exact this
 ·intro k hk hn
  rw[d3.block k (Nat.lt_of_lt_of_le hk hc.size) (fun q=>hn (Or.inl q))]
  exact hc.block k hk (fun q=>hn (Or.inr (Or.inr q)))
 ·intro k hk hlt
  rcases hk with q | q | q
  ·exact Or.inl q
  ·exact Or.inr (Or.inl q)
  ·rcases hl with p | ⟨k',p,r⟩
   ·rw[p] at q;exact Or.inr (Or.inr q)
   ·rw[p] at q;cases q;omega
theorem Pl.putU {B pb:Nat}{w w1:World}{vU vV v':Value}{U V X':List Int}{bad:Bool}(h:Pl B pb w vU vV U V bad)(ho:OwnI B w1 v' X')(hc:Chg (fun k=>vU.ownBlock=some k) w w1)
  (hl:v'.ownBlock=vU.ownBlock∨∃k,v'.ownBlock=some k∧w.heap.size≤k) (b:Bool) :
  Pl B pb ((w1.setCell ⟨pb,0,none⟩ v').setCell ⟨pb,2,none⟩ (.bool b)) v' vV X' V b∧Stp pb w vU vV ((w1.setCell ⟨pb,0,none⟩ v').setCell ⟨pb,2,none⟩ (.bool b)) v' vV ∧
   (w1.cell? ⟨pb,0,none⟩=some vU∧w1.frozen? ⟨pb,0,none⟩=false∧w1.cell? ⟨pb,2,none⟩=some (.bool bad)∧w1.frozen? ⟨pb,2,none⟩=false):=by
 have hpb:pb<w.heap.size:=World.block_lt_of_cell? w _ h.c0
 have n1:¬(vU.ownBlock=some pb):=h.sU
 have c0:=hc.cell h.c0 n1
 have c1:=hc.cell h.c1 n1
 have c2:=hc.cell h.c2 n1
 have f0:=(frozen_chg hc h.c0 n1).trans h.f0
 have f1:=(frozen_chg hc h.c1 n1).trans h.f1
 have f2:=(frozen_chg hc h.c2 n1).trans h.f2
 have hv:v'.ownBlock≠some pb:=loc_ne (V:=X') ho h.sU hpb hl
 have hw:OwnI B w1 vV V:=h.oV.kept hc (fun k e q=>absurd e (h.sUV k q))
 have d1:Chg (fun k=>k=pb) w1 (w1.setCell ⟨pb,0,none⟩ v'):=Chg.set _ _ _ rfl
 have d2:Chg (fun k=>k=pb) (w1.setCell ⟨pb,0,none⟩ v') ((w1.setCell ⟨pb,0,none⟩ v').setCell ⟨pb,2,none⟩ (.bool b)):=Chg.set _ _ _ rfl
 have d3:=d1.trans d2 (fun _ _ q=>q)
 have osep:∀k,v'.ownBlock=some k→vV.ownBlock≠some k:=by
  intro k e1 e2
  rcases hl with q | ⟨k',q,r⟩
  ·rw[q] at e1;exact(h.sUV k e1 e2).elim
  ·rw[q] at e1;cases e1
   have:=(h.oV.lt k e2).2
   omega
 refine⟨⟨?_,?_,?_,?_,?_,?_,ho.kept d3 (fun k e q=>hv (q ▸ e)),hw.kept d3 (fun k e q=>h.sV (q ▸ e)),hv,h.sV,fun k e1 e2=>osep k e1 e2,h.pB⟩,⟨⟨?_,?_,?_,?_,?_⟩,?_⟩,c0,f0,c2,f2⟩
 ·rw[World.cell?_setCell_other _ _ _ _ (by simp)]
  first
   | rw[World.cell?_setCell_same _ _ _ c0]
   | (rw[World.cell?_setCell_other _ _ _ _ (by simp)];exact c0)
 ·rw[World.cell?_setCell_other _ _ _ _ (by simp)]
  first
   | rw[World.cell?_setCell_same _ _ _ c1]
   | (rw[World.cell?_setCell_other _ _ _ _ (by simp)];exact c1)
 ·exact World.cell?_setCell_same _ _ _ (by rw[World.cell?_setCell_other _ _ _ _ (by simp)];exact c2)
 ·rw[World.frozen?_setCell,World.frozen?_setCell];exact f0
 ·rw[World.frozen?_setCell,World.frozen?_setCell];exact f1
 ·rw[World.frozen?_setCell,World.frozen?_setCell];exact f2
 ·exact hc.os
 ·exact hc.tape
 ·exact hc.output
 ·have:=hc.size;simp;exact this
 ·intro k hk hn
  rw[d3.block k (Nat.lt_of_lt_of_le hk hc.size) (fun q=>hn (Or.inl q))]
  exact hc.block k hk (fun q=>hn (Or.inr (Or.inl q)))
 ·intro k hk hlt
  rcases hk with q | q | q
  ·exact Or.inl q
  ·rcases hl with p | ⟨k',p,r⟩
   ·rw[p] at q;exact Or.inr (Or.inl q)
   ·rw[p] at q;cases q;omega
  ·exact Or.inr (Or.inr q)
theorem declared_any (B pb:Nat)(x:Int)(w:World)(vU vV:Value)(st:RS)(m:Nat)(hp:PlAt B pb w st m vU vV)(hm:m+1≤1000000) :
  Calls Tryz.prog 30 #[.pointer (some ⟨pb,0,none⟩),.int .i64 x] w fun e w'=>e = .returned (.tuple #[])∧∃vU' vV',PlAt B pb w' (decR x st) (m+1) vU' vV'∧Stp pb w vU vV w' vU' vV':=by
 obtain⟨U,V,hpl,hrs,hU,hV⟩:=hp.mem
 have HP:Hid (Pl B pb w vU vV U V st.isNone):=hpl
 have HR:Hid (Rs st U V st.isNone):=hrs
 have HL:Hid (U.length≤m∧V.length≤m):=⟨hU,hV⟩
 have cj:=hpl.c1
 have honce:=once_any B vV V x w hpl.oV (by omega) hpl.size
 have HM:Hid (m+1≤1000000):=hm
 have HOL:Hid ((onceI V x).length≤m+1):=by
  have:(onceI V x).length≤V.length+1:=by (unfold onceI;split <;> simp)
  show _≤_
  omega
 clear hp hpl hrs hU hV hm
 cases st with
 | none =>
   simp only[Option.isNone_none] at HP HR
   obtain⟨ok,hok⟩:∃ok,ok=decide (x∉V):=⟨_,rfl⟩
   rw[←hok] at honce
   clear hok
   go_enter Tryz.func30,Tryz.ntmps30
   go_wp2_with (go_at_call 54;refine honce.mono ?_;rintro e w1 ⟨v',rfl,ho,hc,hl⟩;obtain⟨ad',cap',rfl,_,_,_⟩:=ho.ints;have HO:Hid (OwnI B w1 (.slice ad' _ cap') (onceI V x)∧Chg (fun k=>vV.ownBlock=some k) w w1∧((Value.slice ad' _ cap').ownBlock=vV.ownBlock∨∃k,(Value.slice ad' _ cap').ownBlock=some k∧w.heap.size≤k)):=⟨ho,hc,hl⟩;obtain⟨d1,d2,d3,d4⟩:=(HP.out.putV ho hc hl true).2.2;clear ho hc hl honce)
   go_end0
   obtain⟨p1,p2,_⟩:=HP.out.putV HO.out.1 HO.out.2.1 HO.out.2.2 true
   refine⟨rfl,_,_,⟨_,_,p1,rfl,?_,?_⟩,p2⟩
   ·have:=HL.out;have:=HOL.out;omega
   ·have:=HL.out;have:=HOL.out;omega
 | some s =>
   simp only[Option.isNone_some] at HP HR
   obtain⟨_,r1,r2⟩:=HR.out
   have HRR:Hid (s.1=U.reverse∧s.2=V.reverse):=⟨r1,r2⟩
   clear r1 r2
   by_cases hx:x∈V
   ·have hd:decide (x∉V)=false:=by simpa using hx
    have HX:Hid (x∈V):=hx
    rw[hd] at honce
    clear hx hd
    go_enter Tryz.func30,Tryz.ntmps30
    go_wp2_with (go_at_call 54;refine honce.mono ?_;rintro e w1 ⟨v',rfl,ho,hc,hl⟩;obtain⟨ad',cap',rfl,_,_,_⟩:=ho.ints;have HO:Hid (OwnI B w1 (.slice ad' _ cap') (onceI V x)∧Chg (fun k=>vV.ownBlock=some k) w w1∧((Value.slice ad' _ cap').ownBlock=vV.ownBlock∨∃k,(Value.slice ad' _ cap').ownBlock=some k∧w.heap.size≤k)):=⟨ho,hc,hl⟩;obtain⟨d1,d2,d3,d4⟩:=(HP.out.putV ho hc hl true).2.2;clear ho hc hl honce)
    go_end0
    obtain⟨p1,p2,_⟩:=HP.out.putV HO.out.1 HO.out.2.1 HO.out.2.2 true
    have e:decR x (some s)=none:=by
     show takeD s x=none
     unfold takeD
     rw[if_pos (by rw[HRR.out.2];simpa using HX.out)]
    rw[e]
    refine⟨rfl,_,_,⟨_,_,p1,rfl,?_,?_⟩,p2⟩
    ·have:=HL.out;have:=HOL.out;omega
    ·have:=HL.out;have:=HOL.out;omega
   ·have hd:decide (x∉V)=true:=by simpa using hx
    have HX:Hid (x∉V):=hx
    rw[hd] at honce
    clear hx hd
    go_enter Tryz.func30,Tryz.ntmps30
    go_wp2_with (go_at_call 54;refine honce.mono ?_;rintro e w1 ⟨v',rfl,ho,hc,hl⟩;obtain⟨ad',cap',rfl,_,_,_⟩:=ho.ints;have HO:Hid (OwnI B w1 (.slice ad' _ cap') (onceI V x)∧Chg (fun k=>vV.ownBlock=some k) w w1∧((Value.slice ad' _ cap').ownBlock=vV.ownBlock∨∃k,(Value.slice ad' _ cap').ownBlock=some k∧w.heap.size≤k)):=⟨ho,hc,hl⟩;obtain⟨d1,d2,d3,d4⟩:=(HP.out.putV ho hc hl true).2.2;clear ho hc hl honce)
    go_end0
    obtain⟨p1,p2,_⟩:=HP.out.putV HO.out.1 HO.out.2.1 HO.out.2.2 false
    have e:decR x (some s)=some (s.1,x :: s.2):=by
     show takeD s x=_
     unfold takeD
     rw[if_neg (by rw[HRR.out.2];simpa using HX.out)]
    rw[e]
    refine⟨rfl,_,_,⟨_,_,p1,⟨rfl,?_,?_⟩,?_,?_⟩,p2⟩
    ·exact HRR.out.1
    ·unfold onceI;rw[if_neg HX.out];simp[HRR.out.2]
    ·have:=HL.out;have:=HOL.out;omega
    ·have:=HL.out;have:=HOL.out;omega
theorem used_any (B pb:Nat)(x:Int)(w:World)(vU vV:Value)(st:RS)(m:Nat)(hp:PlAt B pb w st m vU vV)(hm:m+1≤1000000) :
  Calls Tryz.prog 57 #[.pointer (some ⟨pb,0,none⟩),.int .i64 x] w fun e w'=>e = .returned (.tuple #[])∧∃vU' vV',PlAt B pb w' (useR x st) (m+1) vU' vV'∧Stp pb w vU vV w' vU' vV':=by
 obtain⟨U,V,hpl,hrs,hU,hV⟩:=hp.mem
 have HP:Hid (Pl B pb w vU vV U V st.isNone):=hpl
 have HR:Hid (Rs st U V st.isNone):=hrs
 have HL:Hid (U.length≤m∧V.length≤m):=⟨hU,hV⟩
 have cj:=hpl.c0
 have honce:=once_any B vU U x w hpl.oU (by omega) hpl.size
 have HM:Hid (m+1≤1000000):=hm
 have HOL:Hid ((onceI U x).length≤m+1):=by
  have:(onceI U x).length≤U.length+1:=by (unfold onceI;split <;> simp)
  show _≤_
  omega
 clear hp hpl hrs hU hV hm
 cases st with
 | none =>
   simp only[Option.isNone_none] at HP HR
   obtain⟨ok,hok⟩:∃ok,ok=decide (x∉U):=⟨_,rfl⟩
   rw[←hok] at honce
   clear hok
   go_enter Tryz.func57,Tryz.ntmps57
   go_wp2_with (go_at_call 54;refine honce.mono ?_;rintro e w1 ⟨v',rfl,ho,hc,hl⟩;obtain⟨ad',cap',rfl,_,_,_⟩:=ho.ints;have HO:Hid (OwnI B w1 (.slice ad' _ cap') (onceI U x)∧Chg (fun k=>vU.ownBlock=some k) w w1∧((Value.slice ad' _ cap').ownBlock=vU.ownBlock∨∃k,(Value.slice ad' _ cap').ownBlock=some k∧w.heap.size≤k)):=⟨ho,hc,hl⟩;obtain⟨d1,d2,d3,d4⟩:=(HP.out.putU ho hc hl true).2.2;clear ho hc hl honce)
   go_end0
   obtain⟨p1,p2,_⟩:=HP.out.putU HO.out.1 HO.out.2.1 HO.out.2.2 true
   refine⟨rfl,_,_,⟨_,_,p1,rfl,?_,?_⟩,p2⟩
   ·have:=HL.out;have:=HOL.out;omega
   ·have:=HL.out;have:=HOL.out;omega
 | some s =>
   simp only[Option.isNone_some] at HP HR
   obtain⟨_,r1,r2⟩:=HR.out
   have HRR:Hid (s.1=U.reverse∧s.2=V.reverse):=⟨r1,r2⟩
   clear r1 r2
   by_cases hx:x∈U
   ·have hd:decide (x∉U)=false:=by simpa using hx
    have HX:Hid (x∈U):=hx
    rw[hd] at honce
    clear hx hd
    go_enter Tryz.func57,Tryz.ntmps57
    go_wp2_with (go_at_call 54;refine honce.mono ?_;rintro e w1 ⟨v',rfl,ho,hc,hl⟩;obtain⟨ad',cap',rfl,_,_,_⟩:=ho.ints;have HO:Hid (OwnI B w1 (.slice ad' _ cap') (onceI U x)∧Chg (fun k=>vU.ownBlock=some k) w w1∧((Value.slice ad' _ cap').ownBlock=vU.ownBlock∨∃k,(Value.slice ad' _ cap').ownBlock=some k∧w.heap.size≤k)):=⟨ho,hc,hl⟩;obtain⟨d1,d2,d3,d4⟩:=(HP.out.putU ho hc hl true).2.2;clear ho hc hl honce)
    go_end0
    obtain⟨p1,p2,_⟩:=HP.out.putU HO.out.1 HO.out.2.1 HO.out.2.2 true
    have e:useR x (some s)=none:=by
     show takeU s x=none
     unfold takeU
     rw[if_pos (by rw[HRR.out.1];simpa using HX.out)]
    rw[e]
    refine⟨rfl,_,_,⟨_,_,p1,rfl,?_,?_⟩,p2⟩
    ·have:=HL.out;have:=HOL.out;omega
    ·have:=HL.out;have:=HOL.out;omega
   ·have hd:decide (x∉U)=true:=by simpa using hx
    have HX:Hid (x∉U):=hx
    rw[hd] at honce
    clear hx hd
    go_enter Tryz.func57,Tryz.ntmps57
    go_wp2_with (go_at_call 54;refine honce.mono ?_;rintro e w1 ⟨v',rfl,ho,hc,hl⟩;obtain⟨ad',cap',rfl,_,_,_⟩:=ho.ints;have HO:Hid (OwnI B w1 (.slice ad' _ cap') (onceI U x)∧Chg (fun k=>vU.ownBlock=some k) w w1∧((Value.slice ad' _ cap').ownBlock=vU.ownBlock∨∃k,(Value.slice ad' _ cap').ownBlock=some k∧w.heap.size≤k)):=⟨ho,hc,hl⟩;obtain⟨d1,d2,d3,d4⟩:=(HP.out.putU ho hc hl true).2.2;clear ho hc hl honce)
    go_end0
    obtain⟨p1,p2,_⟩:=HP.out.putU HO.out.1 HO.out.2.1 HO.out.2.2 false
    have e:useR x (some s)=some (x :: s.1,s.2):=by
     show takeU s x=_
     unfold takeU
     rw[if_neg (by rw[HRR.out.1];simpa using HX.out)]
    rw[e]
    refine⟨rfl,_,_,⟨_,_,p1,⟨rfl,?_,?_⟩,?_,?_⟩,p2⟩
    ·unfold onceI;rw[if_neg HX.out];simp[HRR.out.1]
    ·exact HRR.out.2
    ·have:=HL.out;have:=HOL.out;omega
    ·have:=HL.out;have:=HOL.out;omega
theorem kids_any (k:Int)(w:World):Calls Tryz.prog 51 #[.int .i64 k] w fun e w'=>e = .returned (.int .i64 (kidsR k))∧w'=w:=by
 have h:k=34∨k=41∨k=42∨k=46∨k=36∨k=38∨k=35∨k=43∨k=37∨k=39∨k=40∨k=45∨(k≠34∧k≠41∧k≠42∧k≠46∧k≠36∧k≠38∧k≠35∧k≠43∧k≠37∧k≠39∧k≠40∧k≠45):=by omega
 rcases h with h | h | h | h | h | h | h | h | h | h | h | h | ⟨h1,h2,h3,h4,h5,h6,h7,h8,h9,h10,h11,h12⟩
 all_goals
  first
   | subst h
     go_enter Tryz.func51,Tryz.ntmps51
     go_wp2
     go_ret
     exact⟨rfl,rfl⟩
   | have hv:kidsR k = -1:=by unfold kidsR;repeat rw[if_neg (by omega)]
     have HV:Hid (kidsR k = -1):=hv
     clear hv
     go_enter Tryz.func51,Tryz.ntmps51
     go_wp2
     go_ret
     rw[HV.out]
     exact⟨rfl,rfl⟩
def StrsAt (w:World)(ad:Option Addr)(zs:List ByteArray):Prop:=zs≠[]→∃b off,ad=some ⟨b,off,none⟩∧∀i z,zs[i]?=some z→w.cell? ⟨b,off+i,none⟩=some (.string z)
theorem among_any (s:ByteArray)(ad:Option Addr)(cap:Nat)(zs:List ByteArray)(w:World)(hz:StrsAt w ad zs)(hl:zs.length≤1000) :
  Calls Tryz.prog 56 #[.string s,.slice ad zs.length cap] w fun e w'=>e = .returned (.bool (zs.any fun z=>z.toList == s.toList))∧w'=w:=by
 have HZ:Hid (StrsAt w ad zs):=hz
 clear hz
 have hl2:(zs.length:Int)≤1000:=by omega
 go_enter Tryz.func56,Tryz.ntmps56
 go_wp2_with fail
 go_loopw [5] (fun i wr=>∃k:Nat,(k≤zs.length∧Hid ((zs.take k).any (fun z=>z.toList == s.toList)=false)∧wr=w)∧i = .int .i64 k) (fun i wr=>zs.length - (intOf i).toNat)
 case atStart=>exact⟨0,⟨Nat.zero_le _,rfl,rfl⟩,rfl⟩
 case round =>
  obtain⟨k,⟨ple,HR,rfl⟩,rfl⟩:=hrel
  rcases Nat.lt_or_ge k zs.length with c | c
  ·have hex:∃y,zs[k]?=some y:=⟨_,List.getElem?_eq_getElem c⟩
   obtain⟨y,hy⟩:=hex
   obtain⟨b,off,rfl,hc⟩:=HZ.out (by intro e;subst e;simp at c)
   have c0:=hc k y hy
   have HY:Hid (zs[k]?=some y):=hy
   clear hc hy
   cases t:(y.toList == s.toList)
   ·have HN:Hid ((zs.take (k+1)).any (fun z=>z.toList == s.toList)=false):=by
     show _=_
     rw[List.take_add_one,HY.out,List.any_append,HR.out]
     simp[t]
    go_wp2_with fail
    refine⟨⟨k+1,⟨c,HN,trivial⟩,by go_num⟩,?_⟩
    simp[intOf]
    omega
   ·have HN:Hid (zs.any (fun z=>z.toList == s.toList)=true):=by
     show _=_
     rw[List.any_eq_true]
     exact⟨y,List.mem_of_getElem? HY.out,t⟩
    go_wp2_with fail
    go_ret
    rw[HN.out]
    exact⟨rfl,rfl⟩
  ·have HN:Hid (zs.any (fun z=>z.toList == s.toList)=false):=by
    have:=HR.out
    rw[List.take_of_length_le c] at this
    exact this
   go_wp2_with fail
   go_ret
   rw[HN.out]
   exact⟨rfl,rfl⟩
end Go.Proofs.YtihmdcdifakepaaGreat.Sc
