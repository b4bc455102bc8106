/- PG, PH -/
import Derived.Test.YtahhionlbfhinabGreatDoorB2
import Derived.Deep.Cut
set_option linter.unusedVariables false
set_option linter.unusedSimpArgs false
set_option maxRecDepth 100000
set_option maxHeartbeats 40000000
namespace Go.Proofs.YtahhionlbfhinabGreatDoor.Sp
open Go.RowKit Go.Proofs.YtahhionlbfhinabGreatDoor.Hp
theorem one_of (w:World)(l:Ly):∀j u,(lyC l)[j]?=some u→(w.alloc (.cells #[.int .i64 l.kd,.int .u64 l.pr,.int .i64 l.fr,.string l.ke,.int .i64 l.fl,.int .i64 l.sl,.int .i64 l.sz] 142)).cell? ((⟨w.heap.size,0,none⟩:Addr).add j)=some u :=
 World.news_of_block (cs:=#[.int .i64 l.kd,.int .u64 l.pr,.int .i64 l.fr,.string l.ke,.int .i64 l.fl,.int .i64 l.sl,.int .i64 l.sz]) (t:=142) (fr:=(0,0)) (at_new w _)
theorem ly_one (l:Ly):∀u∈lyC l,u.oneCell'=true:=by
 intro u hu
 simp[lyC] at hu
 rcases hu with rfl | rfl | rfl | rfl | rfl | rfl | rfl <;> rfl
theorem take_any (w:World)(B tb:Nat)(O:Nat→Prop)(most:Int)(L:List Sh)(h:Tree w B tb O most L)(l:Ly)(s:Sh)(hl:l.wf)(hp:Pair L L.length l s)(hroom:most≤top∨L.length+1≤top) :
  Calls Tryz.prog 88 #[.pointer (some ⟨tb,0,none⟩),lyV l] w fun e w'=>e = .returned (.tuple #[.int .i64 (layD most L s).2.1,.bool (layD most L s).2.2])∧Went w B tb O most (layD most L s).1 w':=by
 have HT0:Hid (Tree w B tb O most L):=h
 obtain⟨T,v,mb,h⟩:=h
 have HLW:Hid (l.wf∧Pair L L.length l s):=⟨hl,hp⟩
 obtain⟨l0,hl0⟩:∃l0,l0=l:=⟨_,rfl⟩
 have hlookl:∀(w:World),MapAt w mb T→_:=fun w hm=>hm.look h.wf l hl
 have HPUT:Hid (∀(wb w5:World) (v5:Value),TreeAt wb B tb O most L T v mb→hit L s=none→(∀x∈T,¬sameStep x l)→L.length+1≤top→OwnR lyC 7 142 B w5 v5 (T++[l])→Chg (fun b=>v.ownBlock=some b) wb w5→(∀b,v5.ownBlock=some b→v.ownBlock=some b∨wb.heap.size≤b)→∃w7,(Instr.mapUpdate 162 (.map (some mb)) (stV l) (.int .i64 (T.length:Int))).run Tryz.prog (w5.setCell ⟨tb,1,none⟩ v5).drew = .ok () w7∧Went wb B tb O most (L++[s]) w7):=fun wb w5 v5 a1 a2 a3 a4 a5 a6 a7=>tree_push a1 hl hp a2 a3 a4 a5 a6 a7
 have HN:Hid (∀w:World,∀j u,(lyC l)[j]?=some u→(w.alloc (.cells #[.int .i64 l.kd,.int .u64 l.pr,.int .i64 l.fr,.string l.ke,.int .i64 l.fl,.int .i64 l.sl,.int .i64 l.sz] 142)).cell? ((⟨w.heap.size,0,none⟩:Addr).add j)=some u):=fun w=>one_of w l
 have HHIT:Hid (∀(j:Nat) (x:Ly),T[j]?=some x→sameStep x l→layD most L s=(L,(j:Int),true)):=fun j x h1 h2=>lay_hit h.rel hp h1 h2 most
 have HNEW:Hid ((∀x∈T,¬sameStep x l)→hit L s=none):=fun h1=>lay_new h.rel hp h1
 have HONE:Hid (∀u∈lyC l,u.oneCell'=true):=ly_one l
 unfold stV at hlookl
 unfold lyV
 obtain⟨kd,pr,fr,ke,fl,sl,sz⟩:=l
 clear hl hp
 unfold lyC at HN HONE
 unfold stV at HPUT
 simp only at *
 have b0:(w.alloc (.cells #[.int .i64 (kd:Int),.int .u64 pr,.int .i64 (fr:Int),.string ke,.int .i64 fl,.int .i64 (sl:Int),.int .i64 (sz:Int)] 142)).cell? ⟨w.heap.size,0,none⟩=some (.int .i64 (kd:Int)):=box_new w #[.int .i64 (kd:Int),.int .u64 pr,.int .i64 (fr:Int),.string ke,.int .i64 fl,.int .i64 (sl:Int),.int .i64 (sz:Int)] 142 0 _ rfl
 have b1:(w.alloc (.cells #[.int .i64 (kd:Int),.int .u64 pr,.int .i64 (fr:Int),.string ke,.int .i64 fl,.int .i64 (sl:Int),.int .i64 (sz:Int)] 142)).cell? ⟨w.heap.size,1,none⟩=some (.int .u64 pr):=box_new w #[.int .i64 (kd:Int),.int .u64 pr,.int .i64 (fr:Int),.string ke,.int .i64 fl,.int .i64 (sl:Int),.int .i64 (sz:Int)] 142 1 _ rfl
 have b2:(w.alloc (.cells #[.int .i64 (kd:Int),.int .u64 pr,.int .i64 (fr:Int),.string ke,.int .i64 fl,.int .i64 (sl:Int),.int .i64 (sz:Int)] 142)).cell? ⟨w.heap.size,2,none⟩=some (.int .i64 (fr:Int)):=box_new w #[.int .i64 (kd:Int),.int .u64 pr,.int .i64 (fr:Int),.string ke,.int .i64 fl,.int .i64 (sl:Int),.int .i64 (sz:Int)] 142 2 _ rfl
 have b3:(w.alloc (.cells #[.int .i64 (kd:Int),.int .u64 pr,.int .i64 (fr:Int),.string ke,.int .i64 fl,.int .i64 (sl:Int),.int .i64 (sz:Int)] 142)).cell? ⟨w.heap.size,3,none⟩=some (.string ke):=box_new w #[.int .i64 (kd:Int),.int .u64 pr,.int .i64 (fr:Int),.string ke,.int .i64 fl,.int .i64 (sl:Int),.int .i64 (sz:Int)] 142 3 _ rfl
 have b4:(w.alloc (.cells #[.int .i64 (kd:Int),.int .u64 pr,.int .i64 (fr:Int),.string ke,.int .i64 fl,.int .i64 (sl:Int),.int .i64 (sz:Int)] 142)).cell? ⟨w.heap.size,4,none⟩=some (.int .i64 fl):=box_new w #[.int .i64 (kd:Int),.int .u64 pr,.int .i64 (fr:Int),.string ke,.int .i64 fl,.int .i64 (sl:Int),.int .i64 (sz:Int)] 142 4 _ rfl
 have b5:(w.alloc (.cells #[.int .i64 (kd:Int),.int .u64 pr,.int .i64 (fr:Int),.string ke,.int .i64 fl,.int .i64 (sl:Int),.int .i64 (sz:Int)] 142)).cell? ⟨w.heap.size,5,none⟩=some (.int .i64 (sl:Int)):=box_new w #[.int .i64 (kd:Int),.int .u64 pr,.int .i64 (fr:Int),.string ke,.int .i64 fl,.int .i64 (sl:Int),.int .i64 (sz:Int)] 142 5 _ rfl
 have b6:(w.alloc (.cells #[.int .i64 (kd:Int),.int .u64 pr,.int .i64 (fr:Int),.string ke,.int .i64 fl,.int .i64 (sl:Int),.int .i64 (sz:Int)] 142)).cell? ⟨w.heap.size,6,none⟩=some (.int .i64 (sz:Int)):=box_new w #[.int .i64 (kd:Int),.int .u64 pr,.int .i64 (fr:Int),.string ke,.int .i64 fl,.int .i64 (sl:Int),.int .i64 (sz:Int)] 142 6 _ rfl
 have hB:Below w.heap.size w (w.alloc (.cells #[.int .i64 (kd:Int),.int .u64 pr,.int .i64 (fr:Int),.string ke,.int .i64 fl,.int .i64 (sl:Int),.int .i64 (sz:Int)] 142)):=(Below.refl _ _).alloc (Nat.le_refl _) _
 obtain⟨wb,hwb⟩:∃wb,wb=w.alloc (.cells #[.int .i64 (kd:Int),.int .u64 pr,.int .i64 (fr:Int),.string ke,.int .i64 fl,.int .i64 (sl:Int),.int .i64 (sz:Int)] 142):=⟨_,rfl⟩
 have HW:Hid (w.heap.size<wb.heap.size):=by show _<_;rw[hwb,size_new];omega
 rw[←hwb] at hB b0 b1 b2 b3 b4 b5 b6
 have h1:=h.kept (S:=fun _=>False) (Chg.of_below hB) (fun _ _ q=>q)
 obtain⟨⟨ad,cap,xs⟩,rfl,h2,h3,c0,c1,c2⟩:=h1.open
 simp only at h2
 subst h2
 have hlen:=h.rel.len
 have hlook:=hlookl wb.drew h1.map
 clear hlookl
 have htb:tb<wb.heap.size:=World.block_lt_of_cell? wb _ c0
 have hnb:¬tb=w.heap.size:=by
  have:=(Array.getElem?_eq_some_iff.1 h.box).1
  omega
 have hlim:(xs.length:Int)≤9223372036854775807:=by have h4:=h3.len;have h5:=h3.cap;simp only at h4 h5;unfold maxLen at h5;omega
 have hroom2:(xs.length:Int)<most→L.length+1≤top:=by
  intro q
  rcases hroom with c | c
  ·unfold top at c ⊢;omega
  ·exact c
 have HR:Hid (TreeAt wb B tb O most L xs (Sli.val ⟨ad,cap,xs⟩) mb):=h1
 have HB:Hid (Below w.heap.size w wb):=hB
 have ffz:wb.frozen? ⟨tb,1,none⟩=false:=frozen_of_row wb tb 1 _ 165 h1.box
 clear h h1 h3 hroom hB HLW hl0
 simp only at c1
 rcases hlook with⟨hrun,hno⟩ | ⟨j,x,hrun,hx,hsx⟩
 ·have hh:=HNEW.out hno
  by_cases hm:most≤(xs.length:Int)
  ·have e:layD most L s=(L,0,false):=by unfold layD;rw[hh];simp only;rw[if_pos (by omega)]
   rw[e]
   have HE:=Went.same HT0.out HB.out.drew
   have HE2:=(show Hid _ from HE)
   clear HE HR HB HT0 hno hh e HPUT HN HHIT HNEW HONE hroom2
   go_enter Tryz.func88,Tryz.ntmps88
   go_upto_region 1 with fail
   rw[←hwb]
   clear hwb
   go_wp2_with fail
   go_region
   all_goals
    go_wp2_with fail
    go_ret2
    exact⟨rfl,HE2.out⟩
  ·have e:layD most L s=(L++[s],(L.length:Int),true):=by unfold layD;rw[hh];simp only;rw[if_neg (by omega)]
   rw[e,←hlen]
   have hr2:=hroom2 (by omega)
   have hm2:(xs.length:Int)<most:=by omega
   obtain⟨i0,hi,hz0,hz1,hz2⟩:=info_parts info142
   have HBX:Hid ((xs.length+1)*64≤140737488355328∧xs.length+1≤maxLen):=by unfold top at hr2;refine⟨?_,?_⟩;omega;unfold maxLen;omega
   have HP2:Hid (∀(w5:World) (v5:Value),OwnR lyC 7 142 B w5 v5 (xs++[⟨kd,pr,fr,ke,fl,sl,sz⟩])→Chg (fun b=>(Sli.val (⟨ad,cap,xs⟩:Sli Ly)).ownBlock=some b) wb w5→(∀b,v5.ownBlock=some b→(Sli.val (⟨ad,cap,xs⟩:Sli Ly)).ownBlock=some b∨wb.heap.size≤b)→∃w7,(Instr.mapUpdate 162 (.map (some mb)) (.agg #[.int .i64 (kd:Int),.int .u64 pr,.int .i64 (fr:Int),.string ke,.int .i64 fl]) (.int .i64 (xs.length:Int))).run Tryz.prog (w5.setCell ⟨tb,1,none⟩ v5).drew = .ok () w7∧Went wb B tb O most (L++[s]) w7):=fun w5 v5 a5 a6 a7=>HPUT.out wb w5 v5 HR.out hh hno hr2 a5 a6 a7
   clear hno hh e HPUT HHIT HNEW hroom2 hr2 hm hlen
   have HRD:Hid (TreeAt wb.drew B tb O most L xs (Sli.val ⟨ad,cap,xs⟩) mb):=HR.out.kept (S:=fun _=>False) (Chg.of_below (Below.refl _ _).drew) (fun _ _ q=>q)
   have HP3:Hid (∀(w5:World) (v5:Value),OwnR lyC 7 142 B w5 v5 (xs++[⟨kd,pr,fr,ke,fl,sl,sz⟩])→Chg (fun b=>(Sli.val (⟨ad,cap,xs⟩:Sli Ly)).ownBlock=some b) wb.drew w5→(∀b,v5.ownBlock=some b→(Sli.val (⟨ad,cap,xs⟩:Sli Ly)).ownBlock=some b∨wb.drew.heap.size≤b)→∃w7,(Instr.mapUpdate 162 (.map (some mb)) (.agg #[.int .i64 (kd:Int),.int .u64 pr,.int .i64 (fr:Int),.string ke,.int .i64 fl]) (.int .i64 (xs.length:Int))).run Tryz.prog (w5.setCell ⟨tb,1,none⟩ v5).drew = .ok () w7∧Went w B tb O most (L++[s]) w7):=fun w5 v5 a5 a6 a7=>by
    obtain⟨w7,r1,r2⟩:=HP2.out w5 v5 a5 ⟨a6.1,a6.2,a6.3,a6.4,a6.5⟩ a7
    exact⟨w7,r1,(Went.same HT0.out HB.out).trans (fun O' hO'=>by
     obtain⟨O2,k1,k2,k3⟩:=r2
     obtain⟨T',v',mb',hT'⟩:=hO'
     have e1:=hT'.box
     rw[HR.out.box] at e1
     have e2:v'=Sli.val ⟨ad,cap,xs⟩∧mb'=mb:=by
      simp at e1
      exact⟨e1.1.symm,e1.2.symm⟩
     have e3:∀b,O' b↔O b:=fun b=>by rw[hT'.os b,HR.out.os b,e2.1,e2.2]
     exact⟨O2,k1,k2.mono (fun k q=>(e3 k).2 q),fun b q=>(k3 b q).imp (fun q=>(e3 b).2 q) id⟩)⟩
   have HNO:Hid (∀b,O b→b≠w.heap.size):=fun b hb e=>by
    have:=HT0.out.lt b hb
    omega
   have HWD:Hid (w.heap.size<wb.drew.heap.size):=HW.out
   have d1:wb.drew.cell? ⟨tb,1,none⟩=some (.slice ad xs.length cap):=c1
   have d2:wb.drew.cell? ⟨tb,2,none⟩=some (.map (some mb)):=c2
   have fzd:wb.drew.frozen? ⟨tb,1,none⟩=false:=ffz
   have e0:wb.drew.cell? ⟨w.heap.size,0,none⟩=some (.int .i64 (kd:Int)):=b0
   have e1:wb.drew.cell? ⟨w.heap.size,1,none⟩=some (.int .u64 pr):=b1
   have e2:wb.drew.cell? ⟨w.heap.size,2,none⟩=some (.int .i64 (fr:Int)):=b2
   have e3:wb.drew.cell? ⟨w.heap.size,3,none⟩=some (.string ke):=b3
   have e4:wb.drew.cell? ⟨w.heap.size,4,none⟩=some (.int .i64 fl):=b4
   have e5:wb.drew.cell? ⟨w.heap.size,5,none⟩=some (.int .i64 (sl:Int)):=b5
   have e6:wb.drew.cell? ⟨w.heap.size,6,none⟩=some (.int .i64 (sz:Int)):=b6
   go_enter Tryz.func88,Tryz.ntmps88
   go_upto_region 1 with fail
   rw[←hwb]
   clear hwb
   go_wp2_with fail
   go_region
   go_upto_region 9 with fail
   clear hrun b0 b1 b2 b3 b4 b5 b6 c0 c1 c2 HP2 HR HB HT0 HW ffz htb
   generalize wb.drew=wc at *
   have HNW:=HN.out wc.drew
   have HNW2:=(show Hid _ from HNW)
   have HAL:Hid (Below wc.heap.size wc (wc.drew.alloc (.cells #[.int .i64 (kd:Int),.int .u64 pr,.int .i64 (fr:Int),.string ke,.int .i64 fl,.int .i64 (sl:Int),.int .i64 (sz:Int)] 142))):=((Below.refl wc.heap.size wc).drew).alloc (Nat.le_refl _) _
   have HOW:Hid ((wc.drew.alloc (.cells #[.int .i64 (kd:Int),.int .u64 pr,.int .i64 (fr:Int),.string ke,.int .i64 fl,.int .i64 (sl:Int),.int .i64 (sz:Int)] 142)).ownsRow B 142 7 (.slice ad xs.length cap) xs.length (xs.flatMap lyC)):=HRD.out.own.below HAL.out
   have HBB:Hid (B≤wc.heap.size):=by show _≤_;have:=HRD.out.lt tb ((HRD.out.os tb).2 (Or.inl rfl));omega
   have g1:(wc.alloc (.cells #[.int .i64 (kd:Int),.int .u64 pr,.int .i64 (fr:Int),.string ke,.int .i64 fl,.int .i64 (sl:Int),.int .i64 (sz:Int)] 142)).cell? ⟨tb,1,none⟩=some (.slice ad xs.length cap):=cells_below ((Below.refl wc.heap.size wc).alloc (Nat.le_refl _) _) _ _ d1
   have g1':=cells_below ((Below.refl wc.heap.size wc).drew) _ _ d1
   have q0:=cells_below HAL.out _ _ e0
   have htc:¬tb=wc.heap.size:=by have:=(Array.getElem?_eq_some_iff.1 HRD.out.box).1;omega
   have HFZ:Hid (∀w5,Chg (fun b=>(Sli.val (⟨ad,cap,xs⟩:Sli Ly)).ownBlock=some b) wc w5→w5.cell? ⟨tb,1,none⟩=some (.slice ad xs.length cap)∧w5.frozen? ⟨tb,1,none⟩=false):=fun w5 h5=>⟨h5.cell d1 (fun q=>HRD.out.n2 q),by
    rw[World.frozen?_of_block (w:=wc) (h5.block tb (Array.getElem?_eq_some_iff.1 HRD.out.box).1 (fun q=>HRD.out.n2 q))];exact fzd⟩
   clear HNW q0
   go_region_law ((refine step_append_lies _ (by rfl) _ _ 163 (by rfl) B 142 i0 _ 7 64 Tryz.underlying163 hi hz0 hz1 hz2 rfl (by decide) (.slice ad xs.length cap) xs.length (xs.flatMap lyC) (by rfl) (by exact HOW.out) ⟨wc.heap.size,0,none⟩ 1 1 [.int .i64 (kd:Int),.int .u64 pr,.int .i64 (fr:Int),.string ke,.int .i64 fl,.int .i64 (sl:Int),.int .i64 (sz:Int)] (by rfl) rfl (by exact HNW2.out) (by exact HONE.out) (by decide) (by exact HBX.out.2) (by exact HBX.out.1) (by exact Nat.le_trans HBB.out HAL.out.size) _ (by rfl) ?_;intro g cap5 w5 ho5 hg5 hl5 hlt5;have HO:Hid (OwnR lyC 7 142 B w5 (.slice (some ⟨g,0,none⟩) (xs.length+1) cap5) (xs++[⟨kd,pr,fr,ke,fl,sl,sz⟩])∧Chg (fun b=>(Sli.val (⟨ad,cap,xs⟩:Sli Ly)).ownBlock=some b) wc w5∧(∀b,(Value.slice (some ⟨g,0,none⟩) (xs.length+1) cap5).ownBlock=some b→(Sli.val (⟨ad,cap,xs⟩:Sli Ly)).ownBlock=some b∨wc.heap.size≤b)):=⟨by unfold OwnR;rw[List.length_append,List.flatMap_append];exact ho5,(Chg.of_below HAL.out).trans (Chg.of_grown (S:=fun b=>(Sli.val (⟨ad,cap,xs⟩:Sli Ly)).ownBlock=some b) hg5 (fun k q=>q)) (fun _ _ q=>q),fun b hb=>by (simp[Value.ownBlock] at hb;subst hb;rcases hl5 with q | q;exact Or.inl q;exact Or.inr (by rw[q];exact HAL.out.size))⟩;obtain⟨z1,z2⟩:=HFZ.out w5 HO.out.2.1))
   all_goals
    obtain⟨w7,r1,r2⟩:=HP3.out w5 _ HO.out.1 HO.out.2.1 HO.out.2.2
    have HE2:Hid (Went w B tb O most (L++[s]) w7):=r2
    obtain⟨w6,hw6⟩:∃w6,w6=w5.setCell ⟨tb,1,none⟩ (.slice (some ⟨g,0,none⟩) (xs.length+1) cap5):=⟨_,rfl⟩
    have k5:∀a u,wc.cell? a=some u→a.block=w.heap.size→w6.cell? a=some u:=fun a u hu ha=>by
     rw[hw6,World.cell?_setCell_other _ _ _ _ (by intro q;rw[←q] at ha;exact hnb ha)]
     refine HO.out.2.1.cell hu (fun q => ?_)
     have q2:=HRD.out.os a.block
     have q3:=HNO.out a.block (q2.2 (Or.inr (Or.inr q)))
     exact q3 ha
    have x0:=k5 _ _ e0 rfl
    have x1:=k5 _ _ e1 rfl
    have x2:=k5 _ _ e2 rfl
    have x3:=k5 _ _ e3 rfl
    have x4:=k5 _ _ e4 rfl
    have m2:w6.cell? ⟨tb,2,none⟩=some (.map (some mb)):=by
     rw[hw6,World.cell?_setCell_other _ _ _ _ (by simp)]
     exact HO.out.2.1.cell d2 (fun q=>HRD.out.n2 q)
    rw[←hw6] at r1
    rw[←hw6]
    clear hw6 k5 r2 HO z1 z2 HFZ HOW HBB HAL HNW2 HRD HP3 HN HONE HBX hi hz0 hz1 hz2 ho5 hg5 hl5 hlt5 g1 g1' d1 d2 fzd e0 e1 e2 e3 e4 e5 e6
    go_wp2_with fail
    go_region
    all_goals
     go_wp2_with fail
     go_ret2
     exact⟨rfl,HE2.out⟩
 ·have e:=HHIT.out j x hx hsx
  rw[e]
  have HE:=Went.same HT0.out HB.out.drew
  have HE2:=(show Hid _ from HE)
  clear HE HR HB HT0 hsx hx e HPUT HN HHIT HNEW HONE hroom2
  go_enter Tryz.func88,Tryz.ntmps88
  go_upto_region 1 with fail
  rw[←hwb]
  clear hwb
  go_wp2_with fail
  go_region
  all_goals
   go_wp2_with fail
   go_ret2
   exact⟨rfl,HE2.out⟩
structure KeyOk (k:ByteArray)(f:Int):Prop where
 k:k.size≤maxLen
 f1 : -9223372036854775808≤f
 f2:f≤9223372036854775807
theorem pair_pr {L:List Sh}{n:Nat}{l:Ly}{s:Sh}(g2:Pair L n l s):l.pr=s.pr:=by
 rcases g2 with⟨rfl,_⟩ | ⟨q,_,_,_,e,_,_,_,rfl⟩ | ⟨q,_,_,_,e,_,_,rfl⟩
 ·rfl
 ·exact e
 ·exact e
theorem TreeAt.lay {w:World}{B tb:Nat}{O:Nat→Prop}{most:Int}{L:List Sh}{T:List Ly}{v:Value}{mb:Nat}(h:TreeAt w B tb O most L T v mb){j:Nat}{q:Sh}(hq:L[j]?=some q) :
  ∃(b off cap:Nat) (l:Ly),w.cell? ⟨tb,1,none⟩=some (.slice (some ⟨b,off,none⟩) T.length cap)∧(∀(i:Nat) (u:Value),(lyC l)[i]?=some u→w.cell? ⟨b,off+j*7+i,none⟩=some u)∧l.wf∧l.pr=q.pr∧l.sz=q.ks.length∧j<T.length∧(T.length:Int)≤9223372036854775807∧T.length=L.length:=by
 obtain⟨⟨ad,cap,xs⟩,rfl,h2,h3,c0,c1,c2⟩:=h.open
 simp only at h2
 subst h2
 obtain⟨l,g1,g2,g3,g4⟩:=h.rel.at' hq
 obtain⟨b,off,e1,hc⟩:=h3.cells (by intro e;simp only at e;rw[e] at g4;simp at g4)
 simp only at e1 c1
 subst e1
 refine⟨b,off,cap,l,c1,fun i u hu=>hc j l g1 i u hu,h.wf l (List.mem_of_getElem? g1),pair_pr g2,g3,g4,?_,h.rel.len⟩
 have h4:=h3.len
 have h5:=h3.cap
 simp only at h4 h5
 unfold maxLen at h5
 omega
theorem root_any (w:World)(B tb:Nat)(O:Nat→Prop)(most:Int)(L:List Sh)(h:Tree w B tb O most L)(p:Int)(hp1:0≤p)(hp2:p≤18446744073709551615)(hroom:most≤top∨L.length+1≤top) :
  Calls Tryz.prog 51 #[.pointer (some ⟨tb,0,none⟩),.int .u64 p] w fun e w'=>e = .returned (.tuple #[.int .i64 (rootD most L p).2.1,.bool (rootD most L p).2.2])∧Went w B tb O most (rootD most L p).1 w':=by
 have kc:Calls Tryz.prog 88 #[.pointer (some ⟨tb,0,none⟩),.agg #[.int .i64 0,.int .u64 p,.int .i64 0,.string ⟨#[]⟩,.int .i64 0,.int .i64 0,.int .i64 0]] w fun e w'=>e = .returned (.tuple #[.int .i64 (layD most L ⟨p,[],[],[]⟩).2.1,.bool (layD most L ⟨p,[],[],[]⟩).2.2])∧Went w B tb O most (layD most L ⟨p,[],[],[]⟩).1 w' :=
  take_any w B tb O most L h ⟨0,p,0,ByteArray.empty,0,0,0⟩ ⟨p,[],[],[]⟩ ⟨by simp,hp1,hp2,by simp,by show(0:Nat)≤_;exact Nat.zero_le _,by show(-9223372036854775808:Int)≤0;decide,by show(0:Int)≤_;decide,by simp,by simp⟩ (Or.inl ⟨rfl,rfl⟩) hroom
 unfold rootD
 generalize layD most L ⟨p,[],[],[]⟩=r at *
 obtain⟨L',n,ok⟩:=r
 clear h hroom
 go_enter Tryz.func51,Tryz.ntmps51
 go_wp2_with fail
 refine kc.mono ?_
 rintro e w2 ⟨rfl,hw⟩
 have HW:=(show Hid _ from hw)
 clear kc hw
 go_wp2_with fail
 go_ret2
 exact⟨rfl,HW.out⟩
theorem lay_any (w:World)(B tb:Nat)(O:Nat→Prop)(most:Int)(L:List Sh)(h:Tree w B tb O most L)(j:Nat)(q:Sh)(hq:L[j]?=some q)(k:ByteArray)(f:Int)(hk:KeyOk k f)(hn:idx q.ks k=none)(hroom:most≤top∨L.length+1≤top) :
  Calls Tryz.prog 118 #[.pointer (some ⟨tb,0,none⟩),.int .i64 (j:Int),.string k,.int .i64 f] w fun e w'=>e = .returned (.tuple #[.int .i64 (layD most L (grow q k f)).2.1,.bool (layD most L (grow q k f)).2.2])∧Went w B tb O most (layD most L (grow q k f)).1 w':=by
 have HT:Hid (Tree w B tb O most L):=h
 obtain⟨T,v,mb,h⟩:=h
 have hcap:=h.cap
 obtain⟨b,off,cap,l,c1,hc,hw,hpr,hsz,hj,hlim,hlen⟩:=h.lay hq
 have hfin:=h.rel.fin hq
 have hql:=hfin.kl
 have KC:Hid (∀w1,Below w.heap.size w w1→Calls Tryz.prog 88 #[.pointer (some ⟨tb,0,none⟩),.agg #[.int .i64 1,.int .u64 q.pr,.int .i64 (j:Int),.string k,.int .i64 f,.int .i64 (q.ks.length:Int),.int .i64 ((q.ks.length+1:Nat):Int)]] w1 fun e w'=>e = .returned (.tuple #[.int .i64 (layD most L (grow q k f)).2.1,.bool (layD most L (grow q k f)).2.2])∧Went w B tb O most (layD most L (grow q k f)).1 w'):=fun w1 hb=>by
  have k1:=take_any w1 B tb O most L (HT.out.below hb) ⟨1,q.pr,j,k,f,q.ks.length,q.ks.length+1⟩ (grow q k f) ⟨by simp,by rw[←hpr];exact hw.pr1,by rw[←hpr];exact hw.pr2,by simp only;unfold top at hcap;omega,hk.k,hk.f1,hk.f2,by simp only;unfold top at hcap;omega,by simp only;unfold top at hcap;omega⟩ (Or.inr (Or.inl ⟨q,by simp only;omega,hq,rfl,rfl,rfl,rfl,hn,rfl⟩)) hroom
  refine k1.mono ?_
  rintro e w2 ⟨rfl,O',g1,g2,g3⟩
  refine⟨rfl,O',g1,(Chg.of_below hb).trans g2 (fun _ _ q=>q),fun b q=>(g3 b q).imp id (fun q=>Nat.le_trans hb.size q)⟩
 have d0:=hc 0 _ rfl
 have d1:=hc 1 _ rfl
 have d2:=hc 2 _ rfl
 have d3:=hc 3 _ rfl
 have d4:=hc 4 _ rfl
 have d5:=hc 5 _ rfl
 have d6:=hc 6 _ rfl
 rw[Nat.add_zero] at d0
 rw[hpr] at d1
 rw[hsz] at d6
 have hks:(q.ks.length:Int)≤1700000000000:=by unfold top at hcap;omega
 have hjj:(j:Int)<T.length:=by omega
 have HB2:Hid (∀o1 o2,Below w.heap.size w ((w.alloc o1).alloc o2)):=fun o1 o2=>below_new (below_new (Below.refl _ _) (Nat.le_refl _) _) (by rw[size_new];omega) _
 generalize layD most L (grow q k f)=r at *
 obtain⟨L',n,ok⟩:=r
 simp only at KC
 obtain⟨P,ks,fs,st⟩:=q
 simp only at *
 generalize ks.length=K at *
 clear h hc hw hpr hsz hn hk hq hroom hfin hcap
 go_enter Tryz.func118,Tryz.ntmps118
 go_wp2_with fail
 refine(KC.out _ ?_).mono ?_
 ·exact HB2.out _ _
 rintro e w2 ⟨rfl,hw⟩
 have HW:=(show Hid _ from hw)
 clear KC hw
 go_wp2_with fail
 go_ret2
 exact⟨rfl,HW.out⟩
theorem find_none {L:List Sh}{n:Int}{k:ByteArray}(h:shOf L n=none):findR L n k=none:=by unfold findR;rw[h];rfl
theorem find_of {T:List Ly}{L:List Sh}(h:Rel T L){j:Nat}{q:Sh}(hq:L[j]?=some q)(k:ByteArray) :
  (idx q.ks k=none∧findR L j k=none)∨∃i f,idx q.ks k=some i∧q.fs[i]?=some f∧findR L j k=some (i,f):=by
 have hs:shOf L (j:Int)=some q:=by unfold shOf;rw[if_pos (by omega),Int.toNat_natCast];exact hq
 unfold findR
 rw[hs]
 simp only[Option.bind_some]
 cases e:idx q.ks k with
 | none=>exact Or.inl ⟨rfl,rfl⟩
 | some i =>
   have hl:i<q.fs.length:=by rw[(h.fin hq).fl];exact idx_lt e
   exact Or.inr ⟨i,q.fs[i],rfl,List.getElem?_eq_getElem hl,by simp[List.getElem?_eq_getElem hl]⟩
theorem Went.behind {w w1 w2:World}{B tb:Nat}{O:Nat→Prop}{most:Int}{L:List Sh}(hb:Below w.heap.size w w1)(h:Went w1 B tb O most L w2):Went w B tb O most L w2:=by
 obtain⟨O',g1,g2,g3⟩:=h
 exact⟨O',g1,(Chg.of_below hb).trans g2 (fun _ _ q=>q),fun b q=>(g3 b q).imp id (fun q=>Nat.le_trans hb.size q)⟩
theorem add_any (w:World)(B tb:Nat)(O:Nat→Prop)(most:Int)(L:List Sh)(h:Tree w B tb O most L)(n:Int)(k:ByteArray)(f:Int)(hk:KeyOk k f)(hroom:most≤top∨L.length+1≤top) :
  Calls Tryz.prog 130 #[.pointer (some ⟨tb,0,none⟩),.int .i64 n,.string k,.int .i64 f] w fun e w'=>e = .returned (.tuple #[.int .i64 (addD most L n k f).2.1,.bool (addD most L n k f).2.2])∧Went w B tb O most (addD most L n k f).1 w':=by
 have kf:=find_any w B tb O most L h n k
 have HT:Hid (Tree w B tb O most L):=h
 have KT:Hid (∀w1,Below w.heap.size w w1→Calls Tryz.prog 116 #[.pointer (some ⟨tb,0,none⟩),.int .i64 n] w1 fun e w'=>e = .returned (.bool (thereB L n))∧w'=w1):=fun w1 hb=>there_any w1 B tb O most L (HT.out.below hb) n
 cases ht:thereB L n with
 | false =>
   rw[ht] at KT
   have hs:=there_not ht
   rw[find_none hs] at kf
   have e0:addD most L n k f=(L,0,false):=by unfold addD;rw[hs]
   rw[e0]
   unfold slotI flagI at kf
   simp only[Option.isSome_none] at kf
   clear h e0 hs ht hroom hk
   go_enter Tryz.func130,Tryz.ntmps130
   go_wp2_with fail
   refine kf.mono ?_
   rintro e w2 ⟨rfl,hb⟩
   have HW:Hid (Went w B tb O most L w2):=Went.same HT.out hb
   have kt:=KT.out w2 hb
   clear kf KT hb HT
   go_wp2_with fail
   refine kt.mono ?_
   rintro e w3 ⟨rfl,rfl⟩
   clear kt
   go_wp2_with fail
   go_ret2
   exact⟨rfl,HW.out⟩
 | true =>
   rw[ht] at KT
   obtain⟨j,s,rfl,hs,hs2,hj⟩:=there_of ht
   obtain⟨T,v,mb,h⟩:=h
   rcases find_of h.rel hs k with⟨i1,i2⟩ | ⟨i,fl,i1,i2,i3⟩
   ·rw[i2] at kf
    have e0:addD most L j k f=layD most L (grow s k f):=by unfold addD;rw[hs2];simp only;rw[i1]
    rw[e0]
    unfold slotI flagI at kf
    simp only[Option.isSome_none] at kf
    have KL:Hid (∀w1,Below w.heap.size w w1→Calls Tryz.prog 118 #[.pointer (some ⟨tb,0,none⟩),.int .i64 (j:Int),.string k,.int .i64 f] w1 fun e w'=>e = .returned (.tuple #[.int .i64 (layD most L (grow s k f)).2.1,.bool (layD most L (grow s k f)).2.2])∧Went w B tb O most (layD most L (grow s k f)).1 w'):=fun w1 hb=>(lay_any w1 B tb O most L (HT.out.below hb) j s hs k f hk i1 hroom).mono (by
     rintro e w2 ⟨rfl,g⟩
     exact⟨rfl,g.behind hb⟩)
    generalize layD most L (grow s k f)=r at *
    obtain⟨L',n,ok⟩:=r
    simp only at KL
    clear h e0 hs hs2 ht hroom hk i1 i2
    go_enter Tryz.func130,Tryz.ntmps130
    go_wp2_with fail
    refine kf.mono ?_
    rintro e w2 ⟨rfl,hb⟩
    have kt:=KT.out w2 hb
    have kl:=KL.out w2 hb
    clear kf KT hb HT KL
    go_wp2_with fail
    refine kt.mono ?_
    rintro e w3 ⟨rfl,rfl⟩
    clear kt
    go_wp2_with fail
    refine kl.mono ?_
    rintro e w4 ⟨rfl,hw⟩
    have HW:=(show Hid _ from hw)
    clear kl hw
    go_wp2_with fail
    go_ret2
    exact⟨rfl,HW.out⟩
   ·rw[i3] at kf
    have e0:addD most L j k f=(L,0,false):=by unfold addD;rw[hs2];simp only;rw[i1]
    rw[e0]
    unfold slotI flagI at kf
    simp only[Option.isSome_some] at kf
    clear h e0 hs hs2 ht hroom hk i1 i2 i3
    go_enter Tryz.func130,Tryz.ntmps130
    go_wp2_with fail
    refine kf.mono ?_
    rintro e w2 ⟨rfl,hb⟩
    have HW:Hid (Went w B tb O most L w2):=Went.same HT.out hb
    clear kf KT hb HT
    go_wp2_with fail
    go_ret2
    exact⟨rfl,HW.out⟩
theorem change_any (w:World)(B tb:Nat)(O:Nat→Prop)(most:Int)(L:List Sh)(h:Tree w B tb O most L)(n:Int)(k:ByteArray)(f:Int)(hk:KeyOk k f)(hroom:most≤top∨L.length+1≤top) :
  Calls Tryz.prog 127 #[.pointer (some ⟨tb,0,none⟩),.int .i64 n,.string k,.int .i64 f] w fun e w'=>e = .returned (.tuple #[.int .i64 (changeD most L n k f).2.1,.bool (changeD most L n k f).2.2])∧Went w B tb O most (changeD most L n k f).1 w':=by
 have kf:=find_any w B tb O most L h n k
 have HT:Hid (Tree w B tb O most L):=h
 by_cases hno:findR L n k=none
 ·have e0:changeD most L n k f=(L,0,false):=by
   unfold changeD
   cases ht:thereB L n with
   | false=>rw[there_not ht]
   | true =>
     obtain⟨j,s,rfl,hs,hs2,hj⟩:=there_of ht
     obtain⟨T,v,mb,h⟩:=h
     rcases find_of h.rel hs k with⟨i1,i2⟩ | ⟨i,fl,i1,i2,i3⟩
     ·rw[hs2];simp only;rw[i1]
     ·rw[i3] at hno;cases hno
  rw[hno] at kf
  rw[e0]
  unfold slotI flagI at kf
  simp only[Option.isSome_none] at kf
  clear h e0 hno hroom hk
  go_enter Tryz.func127,Tryz.ntmps127
  go_wp2_with fail
  refine kf.mono ?_
  rintro e w2 ⟨rfl,hb⟩
  have HW:Hid (Went w B tb O most L w2):=Went.same HT.out hb
  clear kf hb HT
  go_wp2_with fail
  go_ret2
  exact⟨rfl,HW.out⟩
 ·have ht:thereB L n=true:=by
   cases ht:thereB L n with
   | true=>rfl
   | false=>exact absurd (find_none (there_not ht)) hno
  obtain⟨j,s,rfl,hs,hs2,hj⟩:=there_of ht
  obtain⟨T,v,mb,h⟩:=h
  rcases find_of h.rel hs k with⟨i1,i2⟩ | ⟨i,fl,i1,i2,i3⟩
  ·exact absurd i2 hno
  rw[i3] at kf
  unfold slotI flagI at kf
  simp only[Option.isSome_some] at kf
  by_cases hf:fl=f
  ·subst hf
   have e0:changeD most L j k fl=(L,(j:Int),true):=by unfold changeD;rw[hs2];simp only;rw[i1];simp only;rw[if_pos i2]
   rw[e0]
   have heq:(fl == fl)=true:=by simp
   clear h e0 hs hs2 ht hroom hk i1 i2 i3 hno
   go_enter Tryz.func127,Tryz.ntmps127
   go_wp2_with fail
   refine kf.mono ?_
   rintro e w2 ⟨rfl,hb⟩
   have HW:Hid (Went w B tb O most L w2):=Went.same HT.out hb
   clear kf hb HT
   go_wp2_with fail
   go_ret2
   exact⟨rfl,HW.out⟩
  ·have e0:changeD most L j k f=layD most L (chg s i k f):=by unfold changeD;rw[hs2];simp only;rw[i1];simp only;rw[if_neg (fun q=>hf (Option.some.inj (i2.symm.trans q)))]
   rw[e0]
   have heq:(fl == f)=false:=by simpa using hf
   have hcap:=h.cap
   obtain⟨b,off,cap,l,c1,hc,hw,hpr,hsz,hj2,hlim,hlen⟩:=h.lay hs
   have hfin:=h.rel.fin hs
   have hql:=hfin.kl
   have hil:=idx_lt i1
   have KC:Hid (∀w1,Below w.heap.size w w1→Calls Tryz.prog 88 #[.pointer (some ⟨tb,0,none⟩),.agg #[.int .i64 2,.int .u64 s.pr,.int .i64 (j:Int),.string k,.int .i64 f,.int .i64 (i:Int),.int .i64 (s.ks.length:Int)]] w1 fun e w'=>e = .returned (.tuple #[.int .i64 (layD most L (chg s i k f)).2.1,.bool (layD most L (chg s i k f)).2.2])∧Went w B tb O most (layD most L (chg s i k f)).1 w'):=fun w1 hb=>by
    have k1:=take_any w1 B tb O most L (HT.out.below hb) ⟨2,s.pr,j,k,f,i,s.ks.length⟩ (chg s i k f) ⟨by simp,by rw[←hpr];exact hw.pr1,by rw[←hpr];exact hw.pr2,by simp only;unfold top at hcap;omega,hk.k,hk.f1,hk.f2,by simp only;unfold top at hcap;omega,by simp only;unfold top at hcap;omega⟩ (Or.inr (Or.inr ⟨s,by simp only;omega,hs,rfl,rfl,i1,rfl,rfl⟩)) hroom
    refine k1.mono ?_
    rintro e w2 ⟨rfl,g⟩
    exact⟨rfl,g.behind hb⟩
   have HCC:Hid (∀w1,Below w.heap.size w w1→w1.cell? ⟨tb,1,none⟩=some (.slice (some ⟨b,off,none⟩) T.length cap)∧(∀(i:Nat) (u:Value),(lyC l)[i]?=some u→w1.cell? ⟨b,off+j*7+i,none⟩=some u)):=fun w1 hb=>⟨cells_below hb _ _ c1,fun i u hu=>cells_below hb _ _ (hc i u hu)⟩
   have hks:(s.ks.length:Int)≤1700000000000:=by unfold top at hcap;omega
   have hjj:(j:Int)<T.length:=by omega
   have HB2:Hid (∀w1 o1 o2,Below w.heap.size w w1→Below w.heap.size w ((w1.alloc o1).alloc o2)):=fun w1 o1 o2 hb=>below_new (below_new hb hb.size _) (by rw[size_new];have:=hb.size;omega) _
   have HPS:Hid (l.pr=s.pr∧l.sz=s.ks.length):=⟨hpr,hsz⟩
   generalize layD most L (chg s i k f)=r at *
   obtain⟨L',n,ok⟩:=r
   simp only at KC
   clear h hc hw hpr hsz hk hs hs2 hroom hfin hcap i1 i2 i3 hno ht e0 c1 hf hlen
   go_enter Tryz.func127,Tryz.ntmps127
   go_wp2_with fail
   refine kf.mono ?_
   rintro e w2 ⟨rfl,hb⟩
   have HBL:Hid (Below w.heap.size w w2):=hb
   obtain⟨c1,hc⟩:=HCC.out w2 hb
   have d0:=hc 0 _ rfl
   have d1:=hc 1 _ rfl
   have d2:=hc 2 _ rfl
   have d3:=hc 3 _ rfl
   have d4:=hc 4 _ rfl
   have d5:=hc 5 _ rfl
   have d6:=hc 6 _ rfl
   rw[Nat.add_zero] at d0
   rw[HPS.out.1] at d1
   rw[HPS.out.2] at d6
   clear kf hb HT hc HCC HPS
   go_wp2_with fail
   refine(KC.out _ ?_).mono ?_
   ·exact HB2.out _ _ _ HBL.out
   rintro e w4 ⟨rfl,hw⟩
   have HW:=(show Hid _ from hw)
   clear KC hw
   go_wp2_with fail
   go_ret2
   exact⟨rfl,HW.out⟩
end Go.Proofs.YtahhionlbfhinabGreatDoor.Sp
