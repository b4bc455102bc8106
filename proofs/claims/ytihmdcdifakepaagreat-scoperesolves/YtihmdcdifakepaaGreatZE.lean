/- ZE -/
import Derived.Test.YtihmdcdifakepaaGreatB10
import Derived.Deep.RegionHeld
import Derived.Deep.RegionHeld3
import Derived.Deep.RegionHeldLaw
set_option linter.unusedVariables false
set_option linter.unusedSimpArgs false
set_option maxRecDepth 100000
set_option maxHeartbeats 40000000
namespace Go.Proofs.YtihmdcdifakepaaGreat.Rv.Rx
open Go.RowKit Go.Proofs.YtihmdcdifakepaaGreat.Sc Go.Proofs.YtihmdcdifakepaaGreat.Rz
theorem str_eqD (a b:ByteArray):(a.toList == b.toList)=decide (a=b):=by
 by_cases c:a=b
 ·subst c;simp
 ·rw[decide_eq_false c]
  have:a.toList≠b.toList:=fun q=>c (ByteArray.ext (Array.toList_inj.mp (by rw[←ByteArray.toList_eq,←ByteArray.toList_eq];exact q)))
  simpa using this
theorem declare_any (w:World)(B wb:Nat)(O:Nat→Prop)(s:Rz.RS)(c a:Int)(v6:Value)(h:RMem w B wb O s c a v6)(hb:cr s≤100000000)(hbs:1≤s.blocks.length)(nm:ByteArray)(hs:nm.size≤maxLen)(pl kd:Int) :
  Calls Tryz.prog 19 #[.pointer (some ⟨wb,0,none⟩),.string nm,.int .i64 pl,.int .i64 kd] w (Tl w B wb O v6 2 (declP nm pl kd s) s c a):=by
 have c7:=h.box.2.2.2.1
 by_cases hc:¬c=0
 ·have hc':(c == 0)=false:=by simpa using hc
  have HE:Hid (Tl w B wb O v6 2 (declP nm pl kd s) s c a (.returned (.tuple #[])) w):=⟨rfl,s,c,a,(Told.idle hc).mono (by omega),RWent.same h (Below.refl _ _)⟩
  clear h hb hbs hs
  go_enter Tryz.func19,Tryz.ntmps19
  go_wp2_with fail
  go_end0
  exact HE.out
 have hc:=Decidable.not_not.1 hc
 subst hc
 obtain⟨b0,bs,hbl⟩:∃b0 bs,s.blocks=b0 :: bs:=by
  cases q:s.blocks with
  | nil=>rw[q] at hbs;simp at hbs
  | cons x y=>exact⟨x,y,rfl⟩
 have HM:Hid (RMem w B wb O s 0 a v6):=h
 obtain⟨tg,M,hA,hgd,rfl,hO⟩:=h
 obtain⟨ms0,m,g,cap,ma,mc,hms,hml,hv3,l1,l2,hg5,hm,k1,k2,ho,ht,d0,fz,hne⟩:=hA.last hbl
 have c3:=hA.box.2.2.2.1
 rw[hv3] at c3
 have HX:Hid (∀(k:Nat) (y:ByteArray×Nat),b0.reverse[k]?=some y→∃q,ma=some ⟨q,0,none⟩∧w.cell? ⟨q,k*2,none⟩=some (.string y.1)):=fun k y hy=>by
  obtain⟨q,hq⟩:=hne (by intro e;rw[e] at hy;simp at hy)
  refine⟨q,hq,?_⟩
  have ho':=ho
  rw[hm,hq] at ho'
  obtain⟨_,_,_,_,_,r6,r7⟩:=OwnR.read rxNm.len ho'
  exact r6 k y hy 0 _ rfl
 have HF:Hid (∀(e:Int) (W:World),Below w.heap.size w W→Calls Tryz.prog 34 #[.pointer (some ⟨wb,0,none⟩),.int .i64 pl,.int .i64 e] W fun r w'=>r = .returned (.tuple #[])∧RWent w B wb O s e pl M.v6 w'):=fun e W hW=>(fail_any W B wb O s a M.v6 (HM.out.below hW) pl e).mono fun r w' q=>⟨q.1,q.2.behind hW⟩
 have d0':w.cell? ⟨g,ms0.length,none⟩=some (.slice ma b0.length mc):=by rw[d0,hm];rfl
 have hany:(b0.reverse.any (fun e=>decide (e.1=nm)))=b0.any (fun e=>decide (e.1=nm)):=by rw[List.any_reverse]
 have hhd:s.blocks.headD []=b0:=by rw[hbl];rfl
 have HBAD:Hid (b0.reverse.any (fun e=>decide (e.1=nm))=true→∀w',RWent w B wb O s 71 pl M.v6 w'→Tl w B wb O M.v6 2 (declP nm pl kd s) s 0 a (.returned (.tuple #[])) w'):=fun q w' hw=>⟨rfl,s,71,pl,⟨Lk.refl s,by omega,fun e=>absurd rfl e,fun _=>by unfold declP Said;rw[hhd,←hany,if_pos q];exact⟨rfl,rfl,by decide⟩⟩,hw⟩
 have hli:(ms0.length:Int)+1≤9223372036854775807:=by unfold maxLen at l2;omega
 have hwk:IntKind.i64.wrap ((ms0.length:Int)+1 - 1)=(ms0.length:Int):=by rw[IntKind.wrap_i64];omega
 have hlt1:(ms0.length:Int)<(ms0.length:Int)+1:=by omega
 have hml0:(0:Int)≤(ms0.length:Int):=by omega
 have hl0:(b0.length:Int)≤9223372036854775806:=by have:=hgd.few b0 (by rw[hbl];exact List.mem_cons_self ..);unfold Rv.cr at hb;omega
 have HBAD2:Hid (b0.reverse.any (fun e=>decide (e.1=nm))=false→200≤varsAt s→∀w',RWent w B wb O s 72 pl M.v6 w'→Tl w B wb O M.v6 2 (declP nm pl kd s) s 0 a (.returned (.tuple #[])) w'):=fun q q2 w' hw=>⟨rfl,s,72,pl,⟨Lk.refl s,by omega,fun e=>absurd rfl e,fun _=>by unfold declP Said;rw[hhd,←hany,q,if_neg (by decide),if_pos q2];exact⟨rfl,rfl,by decide⟩⟩,hw⟩
 have HGO:Hid (b0.reverse.any (fun e=>decide (e.1=nm))=false→¬200≤varsAt s→∀a' w',RWent w B wb O (putVarP nm pl kd (varsAt s) (bumpP s)) 0 a' M.v6 w'→Tl w B wb O M.v6 2 (declP nm pl kd s) s 0 a (.returned (.tuple #[])) w'):=fun q q2 a' w' hw=>by
  have hd:declP nm pl kd s = .ok (putVarP nm pl kd (varsAt s) (bumpP s)):=by unfold declP;rw[hhd,←hany,q,if_neg (by decide),if_neg q2]
  have hcr:=cr_decl nm pl kd s _ hd
  refine⟨rfl,putVarP nm pl kd (varsAt s) (bumpP s),0,a',⟨⟨?_,rfl,rfl,rfl,?_⟩,hcr,fun e=>absurd rfl e,fun _=>by rw[hd];exact⟨rfl,rfl⟩⟩,hw⟩
  ·unfold putVarP bumpP;simp only[hbl];rfl
  ·unfold putVarP bumpP;simp
 have HMA:Hid (At w B wb tg s 0 a M∧GdD s∧∀b,O b↔tg b≠0):=⟨hA,hgd,hO⟩
 have HLAST:Hid (M.bs=ms0++[m]∧ms0.length=bs.length∧M.v3 = .slice (some ⟨g,0,none⟩) (ms0.length+1) cap∧m=⟨ma,b0.length,mc⟩∧(∀b,m.val.ownBlock=some b→tg b=ms0.length+7)∧OwnR nmC 2 86 B w m.val b0.reverse∧s.blocks=b0 :: bs):=⟨hms,hml,hv3,hm,ht,ho,hbl⟩
 obtain⟨g0,cap0,hv0,l3,l4,hg2,d2,fz2,_,_⟩:=hA.bump hgd.fnl
 have c0:=hA.box.1
 rw[hv0] at c0
 have c4:=hA.box.2.2.2.2.1
 have c1:=hA.box.2.1
 have HV0:Hid (M.v0 = .slice (some ⟨g0,0,none⟩) s.scopes.length cap0):=hv0
 have hfn:(s.fn:Int)<s.scopes.length:=by have:=hgd.fnl;omega
 have hfn0:(0:Int)≤(s.fn:Int):=by omega
 have hsl:(s.scopes.length:Int)≤9223372036854775807:=by unfold maxLen at l4;omega
 have HCR:Hid (s.vars.length≤100000000):=by show _≤_;unfold Rv.cr at hb;omega
 have k7o:Hid (s.blocks=b0 :: bs):=hbl
 have HSZN:Hid (nm.size≤maxLen):=hs
 generalize hva:varsAt s=va at *
 clear hA hgd hO hms hml hv3 l1 l2 k1 k2 ho ht d0 fz hne hm hhd hany hbl hb hbs hv0 l3 l4 HM
 go_enter Tryz.func19,Tryz.ntmps19
 go_wp2_with fail
 go_loopw [9] (fun i wr=>∃k:Nat,(k≤b0.length∧Hid ((b0.reverse.take k).any (fun e=>decide (e.1=nm))=false)∧w=wr)∧i = .int .i64 (k:Int)) (fun i wr=>b0.length - (intOf i).toNat)
 case atStart=>exact⟨0,⟨Nat.zero_le _,rfl,rfl⟩,rfl⟩
 case round =>
  obtain⟨k,⟨ple,HR,rfl⟩,rfl⟩:=hrel
  rcases Nat.lt_or_ge k b0.length with c | c
  ·have hil:(k:Int)<b0.length:=by omega
   obtain⟨y,hy⟩:∃y,b0.reverse[k]?=some y:=⟨_,List.getElem?_eq_getElem (by rw[List.length_reverse];exact c)⟩
   obtain⟨q,hq,x0⟩:=HX.out k y hy
   have HY:Hid (b0.reverse[k]?=some y):=hy
   clear hy HX HLAST HMA HGO HBAD2
   subst hq
   cases t:(y.1.toList == nm.toList)
   ·have HN:Hid ((b0.reverse.take (k+1)).any (fun e=>decide (e.1=nm))=false):=by
     show _=_
     rw[List.take_add_one,HY.out,List.any_append,HR.out]
     rw[str_eqD] at t
     simpa using t
    clear HF HBAD HR HY
    go_wp2_with fail
    refine⟨⟨k+1,⟨c,HN,trivial⟩,by go_num⟩,?_⟩
    simp[intOf]
    omega
   ·have HN:Hid (b0.reverse.any (fun e=>decide (e.1=nm))=true):=by
     show _=_
     rw[List.any_eq_true]
     rw[str_eqD] at t
     exact⟨y,List.mem_of_getElem? HY.out,t⟩
    have kf:=HF.out 71 w (Below.refl _ _)
    clear HF HR HY
    go_wp2_with fail
    refine kf.mono ?_
    rintro e w1 ⟨rfl,hw⟩
    have HE:Hid (Tl w B wb O M.v6 2 (declP nm pl kd s) s 0 a (.returned (.tuple #[])) w1):=HBAD.out HN.out w1 hw
    clear kf hw HBAD
    go_wp2_with fail
    go_end0
    exact HE.out
  ·have hil:¬(k:Int)<b0.length:=by omega
   have HN:Hid (b0.reverse.any (fun e=>decide (e.1=nm))=false):=by
    have:=HR.out
    rw[List.take_of_length_le (by rw[List.length_reverse];exact c)] at this
    exact this
   clear HX HBAD HR c
   by_cases cv:200≤va
   ·have cv':(200:Int)≤(va:Int):=by omega
    have HE:Hid (∀w',RWent w B wb O s 72 pl M.v6 w'→Tl w B wb O M.v6 2 (declP nm pl kd s) s 0 a (.returned (.tuple #[])) w'):=HBAD2.out HN.out cv
    clear HGO HMA HLAST HBAD2 HN cv
    go_wp2_with fail
    go_quiet (fail)
    go_wp2_with fail
    refine(HF.out 72 (w.drewN nq) (Go.below_drewN (Below.refl _ _) nq)).mono ?_
    rintro e w1 ⟨rfl,hw⟩
    have HE2:Hid (Tl w B wb O M.v6 2 (declP nm pl kd s) s 0 a (.returned (.tuple #[])) w1):=HE.out w1 hw
    clear hw HE HF
    go_wp2_with fail
    go_end0
    exact HE2.out
   ·have cv':decide ((200:Int)≤(va:Int))=false:=by simp;omega
    have HV:Hid (¬200≤va):=cv
    clear HBAD2 HF cv
    go_wp2_with fail
    go_quiet (fail)
    obtain⟨wq,hwq⟩:∃wq,wq=w.drewN nq:=⟨_,rfl⟩
    have hbq:Below w.heap.size w wq:=by rw[hwq];exact Go.below_drewN (Below.refl _ _) nq
    rw[←hwq]
    have HBQ:Hid (Below w.heap.size w wq):=hbq
    have q0:=Sc.cells_below hbq _ _ c0
    have q1:=Sc.cells_below hbq _ _ c1
    have q3:=Sc.cells_below hbq _ _ c3
    have q4:=Sc.cells_below hbq _ _ c4
    have q5:=Sc.cells_below hbq _ _ d0'
    have q2:=Sc.cells_below hbq _ _ d2
    clear hwq hbq c0 c1 c3 c4 d0' d2 fz2
    go_upto_region 9 with fail
    have HS1:Hid (wq.drew.cell? ⟨wb,0,none⟩=some (.slice (some ⟨g0,0,none⟩) s.scopes.length cap0)∧wq.drew.cell? ⟨wb,4,none⟩=some (.int .i64 (s.fn:Int))∧wq.drew.cell? ⟨g0,s.fn*4+3,none⟩=some (.int .i64 (va:Int))):=⟨Sc.cells_below ((Below.refl _ _).drew) _ _ q0,Sc.cells_below ((Below.refl _ _).drew) _ _ q4,Sc.cells_below ((Below.refl _ _).drew) _ _ q2⟩
    have HAN:Hid (∀o,Below wq.heap.size wq (wq.alloc o).drew):=fun o=>((Below.refl _ _).alloc (Nat.le_refl _) _).drew
    have HS2:Hid (∀o,(wq.alloc o).drew.cell? ⟨wb,0,none⟩=some (.slice (some ⟨g0,0,none⟩) s.scopes.length cap0)∧(wq.alloc o).drew.cell? ⟨wb,4,none⟩=some (.int .i64 (s.fn:Int))∧(wq.alloc o).drew.cell? ⟨g0,s.fn*4+3,none⟩=some (.int .i64 (va:Int))):=fun o=>⟨Sc.cells_below (HAN.out o) _ _ q0,Sc.cells_below (HAN.out o) _ _ q4,Sc.cells_below (HAN.out o) _ _ q2⟩
    go_region_held (fun W=>W.cell? ⟨wb,0,none⟩=some (.slice (some ⟨g0,0,none⟩) s.scopes.length cap0)∧W.cell? ⟨wb,4,none⟩=some (.int .i64 (s.fn:Int))∧W.cell? ⟨g0,s.fn*4+3,none⟩=some (.int .i64 (va:Int))) (first | exact HS1.out | exact HS2.out _) (fail)
    obtain⟨w9,hw9⟩:∃w9,w9=(wq.alloc (.cells #[.string nm,.int .i64 pl,.int .i64 kd,.int .i64 (s.fn:Int),.int .i64 (va:Int),.bool false] 61)).drew:=⟨_,rfl⟩
    have hbq9:Below wq.heap.size wq w9:=by rw[hw9];exact HAN.out _
    have htb:w9.heap[wq.heap.size]?=some (.cells #[.string nm,.int .i64 pl,.int .i64 kd,.int .i64 (s.fn:Int),.int .i64 (va:Int),.bool false] 61 (0,0)):=by rw[hw9];exact at_new wq _
    rw[←hw9]
    have hb9:Below w.heap.size w w9:=HBQ.out.trans (hbq9.mono HBQ.out.size)
    have HTB:Hid (w9.heap[wq.heap.size]?=some (.cells #[.string nm,.int .i64 pl,.int .i64 kd,.int .i64 (s.fn:Int),.int .i64 (va:Int),.bool false] 61 (0,0))∧Below w.heap.size w w9∧w.heap.size≤wq.heap.size):=⟨htb,hb9,HBQ.out.size⟩
    obtain⟨tb,htbe⟩:∃tb,tb=wq.heap.size:=⟨_,rfl⟩
    rw[←htbe] at HTB ⊢
    have hA9:=HMA.out.1.below hb9
    have HA9:Hid (At w9 B wb tg s 0 a M):=hA9
    obtain⟨k1,k2,k3,k4,k5,k6,k7⟩:=HLAST.out
    have p3:=Sc.cells_below hbq9 _ _ q3
    have p1:=Sc.cells_below hbq9 _ _ q1
    have p5:=Sc.cells_below hbq9 _ _ q5
    have r3:RowIn vrC 6 61 B w9 (fun b=>tg b=3) M.v1 s.vars:=hA9.prt 3
    obtain⟨ad1,cap1,hv1,j1,j2,_⟩:=own_slice r3.1
    rw[hv1] at p1
    have HV1:Hid (M.v1 = .slice ad1 s.vars.length cap1):=hv1
    rw[k4] at k6 k5
    have HAL:Hid (Below w9.heap.size w9 (w9.drew.alloc (.cells #[.string nm,.int .i64 (s.vars.length:Int)] 86))):=((Below.refl w9.heap.size w9).drew).alloc (Nat.le_refl _) _
    have HOW:Hid (OwnR nmC 2 86 B (w9.drew.alloc (.cells #[.string nm,.int .i64 (s.vars.length:Int)] 86)) (.slice ma b0.length mc) b0.reverse):=(k6.below hb9).below HAL.out
    have HBX:Hid (((b0.reverse.length+1)+(b0.reverse.length+1) / 4+192)*24≤281474976710656∧b0.reverse.length+1≤maxLen):=by
     have h1:=HMA.out.2.1.few b0 (by rw[k7];exact List.mem_cons_self ..)
     have h2:=HCR.out
     rw[List.length_reverse]
     exact⟨by omega,by unfold maxLen;omega⟩
    have HBB:Hid (B≤w9.heap.size):=Nat.le_trans hA9.B0.2.2 (Nat.le_of_lt hA9.B0.2.1)
    have HFZ:Hid (∀w5,Chg (fun b=>(Value.slice ma b0.length mc).ownBlock=some b) w9 w5→w5.cell? ⟨wb,3,none⟩=some (.slice (some ⟨g,0,none⟩) (ms0.length+1) cap)∧w5.cell? ⟨g,ms0.length,none⟩=some (.slice ma b0.length mc)∧w5.frozen? ⟨g,ms0.length,none⟩=false∧w5.cell? ⟨wb,1,none⟩=some (.slice ad1 s.vars.length cap1)):=fun w5 h5=>by
     have hB:=HA9.out.B0
     have hrs:¬(Value.slice ma b0.length mc).ownBlock=some wb:=fun q=>by have:=k5 wb q;omega
     have hrg:¬(Value.slice ma b0.length mc).ownBlock=some g:=fun q=>by have:=k5 g q;omega
     refine⟨h5.cell p3 hrs,h5.cell p5 hrg,?_,h5.cell p1 hrs⟩
     rw[World.frozen?_of_block (w:=w9) (h5.block g (HA9.out.lt g (by omega)).2 hrg)]
     obtain⟨ms0',m',g',cap',ma',mc',_,_,e3,_,_,_,_,_,_,_,_,_,fz',_⟩:=HA9.out.last k7
     rw[k3] at e3
     injection e3 with e3 _ _
     injection e3 with e3
     injection e3 with e3 _ _
     rw[e3]
     exact fz' _
    have g1:(w9.alloc (.cells #[.string nm,.int .i64 (s.vars.length:Int)] 86)).cell? ⟨wb,3,none⟩=some (.slice (some ⟨g,0,none⟩) (ms0.length+1) cap):=Sc.cells_below ((Below.refl w9.heap.size w9).alloc (Nat.le_refl _) _) _ _ p3
    have g2:(w9.alloc (.cells #[.string nm,.int .i64 (s.vars.length:Int)] 86)).cell? ⟨g,ms0.length,none⟩=some (.slice ma b0.length mc):=Sc.cells_below ((Below.refl w9.heap.size w9).alloc (Nat.le_refl _) _) _ _ p5
    have g3:(w9.alloc (.cells #[.string nm,.int .i64 (s.vars.length:Int)] 86)).cell? ⟨wb,1,none⟩=some (.slice ad1 s.vars.length cap1):=Sc.cells_below ((Below.refl w9.heap.size w9).alloc (Nat.le_refl _) _) _ _ p1
    have hrl:b0.reverse.length=b0.length:=List.length_reverse
    have HSA:Hid (∀W,Below w9.heap.size w9 W→W.cell? ⟨wb,3,none⟩=some (.slice (some ⟨g,0,none⟩) (ms0.length+1) cap)∧W.cell? ⟨wb,1,none⟩=some (.slice ad1 s.vars.length cap1)):=fun W hW=>⟨Sc.cells_below hW _ _ p3,Sc.cells_below hW _ _ p1⟩
    have HSD:Hid (Below w9.heap.size w9 w9.drew):=(Below.refl _ _).drew
    have HSO:Hid (∀o,Below w9.heap.size w9 (w9.alloc o).drew):=fun o=>((Below.refl _ _).alloc (Nat.le_refl _) _).drew
    clear hw9 hbq9 htb hb9 htbe hA9 HS1 HS2 HAN q0 q1 q2 q3 q4 q5 r3 hv1 j1 j2 k1 k2 k3 k4 k5 k6 k7 HBQ
    go_wp2_with fail
    have HSN:Hid (∀o,(fun W:World=>W.cell? ⟨wb,3,none⟩=some (.slice (some ⟨g,0,none⟩) (ms0.length+1) cap)∧W.cell? ⟨wb,1,none⟩=some (.slice ad1 s.vars.length cap1)∧W.cell? ⟨g,ms0.length,none⟩=some (.slice ma b0.length mc)) (w9.drew.alloc o)):=fun o=>⟨Sc.cells_below (HSO.out o) _ _ p3,Sc.cells_below (HSO.out o) _ _ p1,Sc.cells_below (HSO.out o) _ _ p5⟩
    have hS:(fun W:World=>W.cell? ⟨wb,3,none⟩=some (.slice (some ⟨g,0,none⟩) (ms0.length+1) cap)∧W.cell? ⟨wb,1,none⟩=some (.slice ad1 s.vars.length cap1)∧W.cell? ⟨g,ms0.length,none⟩=some (.slice ma b0.length mc)) w9.drew:=⟨Sc.cells_below HSD.out _ _ p3,Sc.cells_below HSD.out _ _ p1,Sc.cells_below HSD.out _ _ p5⟩
    refine region_E (S:=(fun W:World=>W.cell? ⟨wb,3,none⟩=some (.slice (some ⟨g,0,none⟩) (ms0.length+1) cap)∧W.cell? ⟨wb,1,none⟩=some (.slice ad1 s.vars.length cap1)∧W.cell? ⟨g,ms0.length,none⟩=some (.slice ma b0.length mc))) (s:=23) (by kernel_rfl) ?_
    clear g1 g2 g3 p1 p3 p5
    refine anyE_take (i:=0) (v := ?_) rfl (by kernel_rfl) (by kernel_rfl) (by kernel_rfl) (by kernel_rfl) (fun _ _ _ h=>h) (Or.inl ⟨by rfl,?_⟩) hS ?_
    rotate_left
    ·intro W hSW
     obtain⟨s1,s2,s3⟩:=hSW
     go_simp
     all_goals (with_reducible rfl)
    simp only[Act.put]
    refine anyE_take (i:=1) (v := ?_) rfl (by kernel_rfl) (by kernel_rfl) (by kernel_rfl) (by kernel_rfl) (fun _ _ _ h=>h) (Or.inl ⟨by rfl,?_⟩) hS ?_
    rotate_left
    ·intro W hSW
     obtain⟨s1,s2,s3⟩:=hSW
     go_simp
     all_goals (with_reducible rfl)
    simp only[Act.put]
    refine anyE_take (i:=2) (v := ?_) rfl (by kernel_rfl) (by kernel_rfl) (by kernel_rfl) (by kernel_rfl) (fun _ _ _ h=>h) (Or.inl ⟨by rfl,?_⟩) hS ?_
    rotate_left
    ·intro W hSW
     obtain⟨s1,s2,s3⟩:=hSW
     go_simp
     all_goals (with_reducible rfl)
    simp only[Act.put]
    refine anyE_take (i:=3) (v := ?_) rfl (by kernel_rfl) (by kernel_rfl) (by kernel_rfl) (by kernel_rfl) (fun _ _ _ h=>h) (Or.inl ⟨by rfl,?_⟩) hS ?_
    rotate_left
    ·intro W hSW
     obtain⟨s1,s2,s3⟩:=hSW
     go_simp
     all_goals (with_reducible rfl)
    simp only[Act.put]
    refine anyE_take (i:=4) (v := ?_) rfl (by kernel_rfl) (by kernel_rfl) (by kernel_rfl) (by kernel_rfl) (fun _ _ _ h=>h) (Or.inl ⟨by rfl,?_⟩) hS ?_
    rotate_left
    ·intro W hSW
     obtain⟨s1,s2,s3⟩:=hSW
     go_simp
     all_goals (with_reducible rfl)
    simp only[Act.put]
    refine anyE_take (i:=5) (v := ?_) rfl (by kernel_rfl) (by kernel_rfl) (by kernel_rfl) (by kernel_rfl) (fun _ _ _ h=>h) (Or.inl ⟨by rfl,?_⟩) hS ?_
    rotate_left
    ·intro W hSW
     obtain⟨s1,s2,s3⟩:=hSW
     go_simp
     all_goals (with_reducible rfl)
    simp only[Act.put]
    refine anyE_take (i:=6) (v := ?_) rfl (by kernel_rfl) (by kernel_rfl) (by kernel_rfl) (by kernel_rfl) (fun _ _ _ h=>h) (Or.inl ⟨by rfl,?_⟩) hS ?_
    rotate_left
    ·intro W hSW
     obtain⟨s1,s2,s3⟩:=hSW
     go_simp
     all_goals (with_reducible rfl)
    simp only[Act.put]
    refine anyE_take (i:=7) (v := ?_) rfl (by kernel_rfl) (by kernel_rfl) (by kernel_rfl) (by kernel_rfl) (fun _ _ _ h=>h) (Or.inl ⟨by rfl,?_⟩) hS ?_
    rotate_left
    ·intro W hSW
     obtain⟨s1,s2,s3⟩:=hSW
     go_simp
     all_goals (with_reducible rfl)
    simp only[Act.put]
    refine anyE_take (i:=8) (v := ?_) rfl (by kernel_rfl) (by kernel_rfl) (by kernel_rfl) (by kernel_rfl) (fun _ _ _ h=>h) (Or.inl ⟨by rfl,?_⟩) hS ?_
    rotate_left
    ·intro W hSW
     obtain⟨s1,s2,s3⟩:=hSW
     go_simp
     all_goals (with_reducible rfl)
    simp only[Act.put]
    refine anyE_take (i:=9) (v := ?_) rfl (by kernel_rfl) (by kernel_rfl) (by kernel_rfl) (by kernel_rfl) (fun _ _ _ h=>h) (Or.inl ⟨by rfl,?_⟩) hS ?_
    rotate_left
    ·intro W hSW
     obtain⟨s1,s2,s3⟩:=hSW
     go_simp
     all_goals (with_reducible rfl)
    simp only[Act.put]
    refine anyE_take (i:=10) (v := ?_) rfl (by kernel_rfl) (by kernel_rfl) (by kernel_rfl) (by kernel_rfl) (fun _ _ _ h=>h) (Or.inl ⟨by rfl,?_⟩) hS ?_
    rotate_left
    ·intro W hSW
     obtain⟨s1,s2,s3⟩:=hSW
     go_simp
     all_goals (with_reducible rfl)
    simp only[Act.put]
    refine anyE_take (i:=11) (v := ?_) rfl (by kernel_rfl) (by kernel_rfl) (by kernel_rfl) (by kernel_rfl) (fun _ _ _ h=>h) (Or.inl ⟨by rfl,?_⟩) hS ?_
    rotate_left
    ·intro W hSW
     obtain⟨s1,s2,s3⟩:=hSW
     go_simp
     all_goals (with_reducible rfl)
    simp only[Act.put]
    refine anyE_take (i:=12) (v := ?_) rfl (by kernel_rfl) (by kernel_rfl) (by kernel_rfl) (by kernel_rfl) (fun _ _ _ h=>h) (Or.inl ⟨by rfl,?_⟩) hS ?_
    rotate_left
    ·intro W hSW
     obtain⟨s1,s2,s3⟩:=hSW
     go_simp
     all_goals (with_reducible rfl)
    simp only[Act.put]
    refine anyE_take (i:=13) (v := ?_) rfl (by kernel_rfl) (by kernel_rfl) (by kernel_rfl) (by kernel_rfl) (fun _ _ _ h=>h) (Or.inl ⟨by rfl,?_⟩) hS ?_
    rotate_left
    ·intro W hSW
     obtain⟨s1,s2,s3⟩:=hSW
     go_simp
     all_goals (with_reducible rfl)
    simp only[Act.put]
    refine anyE_take (i:=14) (v := ?_) rfl (by kernel_rfl) (by kernel_rfl) (by kernel_rfl) (by kernel_rfl) (fun _ _ _ h=>h) (Or.inl ⟨by rfl,?_⟩) hS ?_
    rotate_left
    ·intro W hSW
     obtain⟨s1,s2,s3⟩:=hSW
     go_simp
     all_goals (with_reducible rfl)
    simp only[Act.put]
    refine anyE_take (i:=15) (v := ?_) rfl (by kernel_rfl) (by kernel_rfl) (by kernel_rfl) (by kernel_rfl) (fun _ _ _ h=>h) (Or.inl ⟨by rfl,?_⟩) hS ?_
    rotate_left
    ·intro W hSW
     obtain⟨s1,s2,s3⟩:=hSW
     go_simp
     all_goals (with_reducible rfl)
    simp only[Act.put]
    refine anyE_take (i:=16) (v := ?_) rfl (by kernel_rfl) (by kernel_rfl) (by kernel_rfl) (by kernel_rfl) (fun _ _ _ h=>h) (Or.inl ⟨by rfl,?_⟩) hS ?_
    rotate_left
    ·intro W hSW
     obtain⟨s1,s2,s3⟩:=hSW
     go_simp
     all_goals (with_reducible rfl)
    simp only[Act.put]
    refine anyE_take (i:=17) (v := ?_) rfl (by kernel_rfl) (by kernel_rfl) (by kernel_rfl) (by kernel_rfl) (fun _ _ _ h=>h) (Or.inl ⟨by rfl,?_⟩) hS ?_
    rotate_left
    ·intro W hSW
     obtain⟨s1,s2,s3⟩:=hSW
     go_simp
     all_goals (with_reducible rfl)
    simp only[Act.put]
    refine anyE_take (i:=18) (v := ?_) rfl (by kernel_rfl) (by kernel_rfl) (by kernel_rfl) (by kernel_rfl) (fun _ _ _ h=>h) (Or.inl ⟨by rfl,?_⟩) hS ?_
    rotate_left
    ·intro W hSW
     obtain⟨s1,s2,s3⟩:=hSW
     go_simp
     all_goals (with_reducible rfl)
    simp only[Act.put]
    refine anyE_take (i:=19) (v := ?_) rfl (by kernel_rfl) (by kernel_rfl) (by kernel_rfl) (by kernel_rfl) (fun _ _ _ h=>h) (Or.inl ⟨by rfl,?_⟩) hS ?_
    rotate_left
    ·intro W hSW
     obtain⟨s1,s2,s3⟩:=hSW
     go_simp
     all_goals (with_reducible rfl)
    simp only[Act.put]
    refine anyE_only (i:=20) (by kernel_rfl) (op_step rfl (fun K hK => ?_))
    go_simp
    refine hK.out _ _ ⟨fun _=>HSN.out _,?_⟩
    clear hK K hS
    have hS:=HSN.out (.cells #[.string nm,.int .i64 (s.vars.length:Int)] 86)
    refine anyE_only (i:=21) (by kernel_rfl) (op_step rfl (fun K hK => ?_))
    refine step_row rxNm (by rfl) _ _ (by rfl) B (.slice ma b0.length mc) b0.reverse (by rfl) (by exact HOW.out) w9.heap.size (nm,s.vars.length) #[.string nm,.int .i64 (s.vars.length:Int)] 86 (by rfl) (by exact at_new _ _) (by rfl) (by exact HBX.out.2) (by exact HBX.out.1) (by exact Nat.le_trans HBB.out HAL.out.size) ?_
    intro g5 cap5 w5 ho5 hg5 hl5
    have HO:Hid (OwnR nmC 2 86 B w5 (.slice (some ⟨g5,0,none⟩) (b0.reverse.length+1) cap5) (b0.reverse++[(nm,s.vars.length)])∧Chg (fun b=>(Value.slice ma b0.length mc).ownBlock=some b) w9 w5∧((Value.slice ma b0.length mc).ownBlock=some g5∨w9.heap.size≤g5)):=⟨ho5,(Chg.of_below HAL.out).trans (Chg.of_grown (S:=fun b=>(Value.slice ma b0.length mc).ownBlock=some b) hg5 (fun k q=>q)) (fun _ _ q=>q),hl5.imp id (fun q=>by rw[q];exact HAL.out.size)⟩
    obtain⟨z1,z2,z3,z4⟩:=HFZ.out w5 HO.out.2.1
    clear ho5 hg5 hl5 hS
    refine hK.out _ _ ⟨fun _=>⟨z1,z4,z2⟩,?_⟩
    clear hK K
    refine anyE_only (i:=22) (by kernel_rfl) (op_step rfl (fun K hK => ?_))
    go_simp
    refine hK.out _ _ ⟨fun _=>⟨z1,z4,z2⟩,?_⟩
    clear hK K
    refine anyE_only (i:=23) (by kernel_rfl) (op_step rfl (fun K hK => ?_))
    go_simp
    refine hK.out _ _ ⟨fun e=>absurd rfl e,?_⟩
    refine anyE_done (by kernel_rfl) ?_ _
    clear hK K
    obtain⟨k1,k2,k3,k4,k5,k6,k7⟩:=HLAST.out
    obtain⟨wA,hwA⟩:∃wA,wA=w5.setCell ⟨g,ms0.length,none⟩ (.slice (some ⟨g5,0,none⟩) (b0.length+1) cap5):=⟨_,rfl⟩
    have hnm:=HA9.out.name (e:=(nm,s.vars.length)) (m':=(⟨some ⟨g5,0,none⟩,b0.length+1,cap5⟩:SV)) (w5:=w5) k7 k1 k2 k3 (by rw[k4];exact HO.out.2.1) k5 (by have:=HO.out.1;rw[hrl] at this;exact this) (fun b q=>by
     have q:g5=b:=by simpa [SV.val,Value.ownBlock] using q
     rw[←q,k4]
     exact HO.out.2.2)
    have hwA2:w5.setCell ⟨g,ms0.length,none⟩ (⟨some ⟨g5,0,none⟩,b0.length+1,cap5⟩:SV).val=wA:=hwA.symm
    rw[hwA2] at hnm
    rw[←hwA]
    obtain⟨tA,htA⟩:∃tA,tA=rtg tg w9.heap.size w5.heap.size (ms0.length+7):=⟨_,rfl⟩
    rw[←htA] at hnm
    have htb0:tg tb=0:=by
     rcases Nat.eq_zero_or_pos (tg tb) with q | q
     ·exact q
     ·have:=(HMA.out.1.lt tb (by omega)).2
      have:=HTB.out.2.2
      omega
    have htb9:tb<w9.heap.size:=(Array.getElem?_eq_some_iff.1 HTB.out.1).1
    have htAb:tA tb=0:=by rw[htA,rtg_old htb9];exact htb0
    have HST:Hid (Stp w tg wA tA):=(Stp.below HTB.out.2.1).trans (by rw[htA];exact Stp.rtg hnm.2 (fun b q=>by omega))
    have htbA:wA.heap[tb]?=some (.cells #[.string nm,.int .i64 pl,.int .i64 kd,.int .i64 (s.fn:Int),.int .i64 (va:Int),.bool false] 61 (0,0)):=(hnm.2.block tb htb9 (by omega)).trans HTB.out.1
    have HNA:Hid (At wA B wb tA { s with blocks:=((nm,s.vars.length) :: b0) :: bs } 0 a { M with bs:=ms0++[(⟨some ⟨g5,0,none⟩,b0.length+1,cap5⟩:SV)] }):=hnm.1
    have HTA:Hid (wA.heap[tb]?=some (.cells #[.string nm,.int .i64 pl,.int .i64 kd,.int .i64 (s.fn:Int),.int .i64 (va:Int),.bool false] 61 (0,0))∧tA tb=0):=⟨htbA,htAb⟩
    have a1:wA.cell? ⟨wb,1,none⟩=some (.slice ad1 s.vars.length cap1):=by have:=hnm.1.box.2.1;rw[show({ M with bs:=ms0++[(⟨some ⟨g5,0,none⟩,b0.length+1,cap5⟩:SV)] }:DV).v1=M.v1 from rfl,HV1.out] at this;exact this
    have r3:RowIn vrC 6 61 B wA (fun b=>tA b=3) M.v1 s.vars:=hnm.1.prt 3
    rw[HV1.out] at r3
    have hfz1:=hnm.1.box.2.2.2.2.2.2.2.2.2 1
    have hwbl:=hnm.1.B0
    have HBOX:Hid (∀W:World,W.heap[wb]?=wA.heap[wb]?→W.heap[tb]?=wA.heap[tb]?→W.cell? ⟨wb,1,none⟩=some (.slice ad1 s.vars.length cap1)∧W.cell? ⟨tb,0,none⟩=some (.string nm)∧W.cell? ⟨tb,1,none⟩=some (.int .i64 pl)∧W.cell? ⟨tb,2,none⟩=some (.int .i64 kd)∧W.cell? ⟨tb,3,none⟩=some (.int .i64 (s.fn:Int))∧W.cell? ⟨tb,4,none⟩=some (.int .i64 (va:Int))∧W.cell? ⟨tb,5,none⟩=some (.bool false)):=fun W q1 q2=>by
     refine⟨by rw[World.cell?_of_block (w:=wA) q1];exact a1,?_,?_,?_,?_,?_,?_⟩ <;> (rw[cell_of_row W tb _ _ 61 (0,0) (q2.trans htbA)];rfl)
    have HLD:Hid (Below wA.heap.size wA wA.drew):=(Below.refl _ _).drew
    have HLO:Hid (∀o,Below wA.heap.size wA (wA.drew.alloc o)):=fun o=>((Below.refl wA.heap.size wA).drew).alloc (Nat.le_refl _) _
    have htbl:tb<wA.heap.size:=(Array.getElem?_eq_some_iff.1 htbA).1
    have HLW:Hid (∀W:World,Below wA.heap.size wA W→W.heap[wb]?=wA.heap[wb]?∧W.heap[tb]?=wA.heap[tb]?):=fun W q=>⟨q.block wb hwbl.2.1,q.block tb htbl⟩
    have HAL2:Hid (Below wA.heap.size wA (wA.drew.alloc (.cells #[.string nm,.int .i64 pl,.int .i64 kd,.int .i64 (s.fn:Int),.int .i64 (va:Int),.bool false] 61))):=HLO.out _
    have HOW2:Hid (OwnR vrC 6 61 B (wA.drew.alloc (.cells #[.string nm,.int .i64 pl,.int .i64 kd,.int .i64 (s.fn:Int),.int .i64 (va:Int),.bool false] 61)) (.slice ad1 s.vars.length cap1) s.vars):=r3.1.below HAL2.out
    have HBX2:Hid (((s.vars.length+1)+(s.vars.length+1) / 4+192)*56≤281474976710656∧s.vars.length+1≤maxLen):=by have:=HCR.out;exact⟨by omega,by unfold maxLen;omega⟩
    have HBB2:Hid (B≤wA.heap.size):=by show B≤_;omega
    have HFZ2:Hid (∀w6:World,Chg (fun b=>(Value.slice ad1 s.vars.length cap1).ownBlock=some b) wA w6→(w6.heap[wb]?=wA.heap[wb]?∧w6.heap[tb]?=wA.heap[tb]?)∧w6.frozen? ⟨wb,1,none⟩=false):=fun w6 h6=>by
     have e1:¬(Value.slice ad1 s.vars.length cap1).ownBlock=some wb:=fun q=>by have:=r3.2 wb q;omega
     have e2:¬(Value.slice ad1 s.vars.length cap1).ownBlock=some tb:=fun q=>by have:=r3.2 tb q;omega
     exact⟨⟨h6.block wb hwbl.2.1 e1,h6.block tb htbl e2⟩,by rw[World.frozen?_of_block (w:=wA) (h6.block wb hwbl.2.1 e1)];exact hfz1⟩
    clear hwA hwA2 hnm htA htb0 htb9 htAb htbA a1 r3 hfz1 hwbl htbl k1 k2 k3 k4 k5 k6 k7 z1 z2 z3 z4 HSA HSD HSO HSN HFZ HOW HAL HBX HBB HO hrl
    go_wp2_with fail
    have hS:(fun W:World=>W.cell? ⟨wb,1,none⟩=some (.slice ad1 s.vars.length cap1)∧W.cell? ⟨tb,0,none⟩=some (.string nm)∧W.cell? ⟨tb,1,none⟩=some (.int .i64 pl)∧W.cell? ⟨tb,2,none⟩=some (.int .i64 kd)∧W.cell? ⟨tb,3,none⟩=some (.int .i64 (s.fn:Int))∧W.cell? ⟨tb,4,none⟩=some (.int .i64 (va:Int))∧W.cell? ⟨tb,5,none⟩=some (.bool false)) wA.drew:=HBOX.out _ (HLW.out _ HLD.out).1 (HLW.out _ HLD.out).2
    refine region_E (S:=(fun W:World=>W.cell? ⟨wb,1,none⟩=some (.slice ad1 s.vars.length cap1)∧W.cell? ⟨tb,0,none⟩=some (.string nm)∧W.cell? ⟨tb,1,none⟩=some (.int .i64 pl)∧W.cell? ⟨tb,2,none⟩=some (.int .i64 kd)∧W.cell? ⟨tb,3,none⟩=some (.int .i64 (s.fn:Int))∧W.cell? ⟨tb,4,none⟩=some (.int .i64 (va:Int))∧W.cell? ⟨tb,5,none⟩=some (.bool false))) (s:=12) (by kernel_rfl) ?_
    refine anyE_take (i:=0) (v := ?_) rfl (by kernel_rfl) (by kernel_rfl) (by kernel_rfl) (by kernel_rfl) (fun _ _ _ h=>h) (Or.inl ⟨by rfl,?_⟩) hS ?_
    rotate_left
    ·intro W hSW
     obtain⟨s1,s2,s3,s4,s5,s6,s7⟩:=hSW
     go_simp
     all_goals (with_reducible rfl)
    simp only[Act.put]
    refine anyE_take (i:=1) (v := ?_) rfl (by kernel_rfl) (by kernel_rfl) (by kernel_rfl) (by kernel_rfl) (fun _ _ _ h=>h) (Or.inl ⟨by rfl,?_⟩) hS ?_
    rotate_left
    ·intro W hSW
     obtain⟨s1,s2,s3,s4,s5,s6,s7⟩:=hSW
     go_simp
     all_goals (with_reducible rfl)
    simp only[Act.put]
    refine anyE_take (i:=2) (v := ?_) rfl (by kernel_rfl) (by kernel_rfl) (by kernel_rfl) (by kernel_rfl) (fun _ _ _ h=>h) (Or.inl ⟨by rfl,?_⟩) hS ?_
    rotate_left
    ·intro W hSW
     obtain⟨s1,s2,s3,s4,s5,s6,s7⟩:=hSW
     go_simp
     all_goals (with_reducible rfl)
    simp only[Act.put]
    refine anyE_take (i:=3) (v := ?_) rfl (by kernel_rfl) (by kernel_rfl) (by kernel_rfl) (by kernel_rfl) (fun _ _ _ h=>h) (Or.inl ⟨by rfl,?_⟩) hS ?_
    rotate_left
    ·intro W hSW
     obtain⟨s1,s2,s3,s4,s5,s6,s7⟩:=hSW
     go_simp
     all_goals (with_reducible rfl)
    simp only[Act.put]
    refine anyE_take (i:=4) (v := ?_) rfl (by kernel_rfl) (by kernel_rfl) (by kernel_rfl) (by kernel_rfl) (fun _ _ _ h=>h) (Or.inl ⟨by rfl,?_⟩) hS ?_
    rotate_left
    ·intro W hSW
     obtain⟨s1,s2,s3,s4,s5,s6,s7⟩:=hSW
     go_simp
     all_goals (with_reducible rfl)
    simp only[Act.put]
    refine anyE_take (i:=5) (v := ?_) rfl (by kernel_rfl) (by kernel_rfl) (by kernel_rfl) (by kernel_rfl) (fun _ _ _ h=>h) (Or.inl ⟨by rfl,?_⟩) hS ?_
    rotate_left
    ·intro W hSW
     obtain⟨s1,s2,s3,s4,s5,s6,s7⟩:=hSW
     go_simp
     all_goals (with_reducible rfl)
    simp only[Act.put]
    refine anyE_take (i:=6) (v := ?_) rfl (by kernel_rfl) (by kernel_rfl) (by kernel_rfl) (by kernel_rfl) (fun _ _ _ h=>h) (Or.inl ⟨by rfl,?_⟩) hS ?_
    rotate_left
    ·intro W hSW
     obtain⟨s1,s2,s3,s4,s5,s6,s7⟩:=hSW
     go_simp
     all_goals (with_reducible rfl)
    simp only[Act.put]
    refine anyE_only (i:=7) (by kernel_rfl) (op_step rfl (fun K hK => ?_))
    go_simp
    refine hK.out _ _ ⟨fun _=>HBOX.out _ (HLW.out _ (HLO.out _)).1 (HLW.out _ (HLO.out _)).2,?_⟩
    clear hK K hS
    have hS:=HBOX.out (wA.drew.alloc (.cells #[.string nm,.int .i64 pl,.int .i64 kd,.int .i64 (s.fn:Int),.int .i64 (va:Int),.bool false] 61)) (HLW.out _ (HLO.out _)).1 (HLW.out _ (HLO.out _)).2
    refine anyE_only (i:=8) (by kernel_rfl) (op_step rfl (fun K hK => ?_))
    refine step_row rxVr (by rfl) _ _ (by rfl) B (.slice ad1 s.vars.length cap1) s.vars (by rfl) (by exact HOW2.out) wA.heap.size ⟨nm,pl,kd,s.fn,va,false⟩ #[.string nm,.int .i64 pl,.int .i64 kd,.int .i64 (s.fn:Int),.int .i64 (va:Int),.bool false] 61 (by rfl) (by exact at_new _ _) (by rfl) (by exact HBX2.out.2) (by exact HBX2.out.1) (by exact Nat.le_trans HBB2.out HAL2.out.size) ?_
    intro g6 cap6 w6 ho6 hg6 hl6
    have HO6:Hid (OwnR vrC 6 61 B w6 (.slice (some ⟨g6,0,none⟩) (s.vars.length+1) cap6) (s.vars++[⟨nm,pl,kd,s.fn,va,false⟩])∧Chg (fun b=>(Value.slice ad1 s.vars.length cap1).ownBlock=some b) wA w6∧((Value.slice ad1 s.vars.length cap1).ownBlock=some g6∨wA.heap.size≤g6)):=⟨ho6,(Chg.of_below HAL2.out).trans (Chg.of_grown (S:=fun b=>(Value.slice ad1 s.vars.length cap1).ownBlock=some b) hg6 (fun k q=>q)) (fun _ _ q=>q),hl6.imp id (fun q=>by rw[q];exact HAL2.out.size)⟩
    obtain⟨⟨z1,z2⟩,z3⟩:=HFZ2.out w6 HO6.out.2.1
    clear ho6 hg6 hl6 hS
    have hS:=HBOX.out w6 z1 z2
    clear z1 z2
    refine hK.out _ _ ⟨fun _=>hS,?_⟩
    clear hK K
    refine anyE_only (i:=9) (by kernel_rfl) (op_step rfl (fun K hK => ?_))
    go_simp
    refine hK.out _ _ ⟨fun _=>hS,?_⟩
    clear hK K
    refine anyE_only (i:=10) (by kernel_rfl) (op_step rfl (fun K hK => ?_))
    go_simp
    refine hK.out _ _ ⟨fun _=>hS,?_⟩
    clear hK K
    refine anyE_only (i:=11) (by kernel_rfl) (op_step rfl (fun K hK => ?_))
    go_simp
    refine hK.out _ _ ⟨fun _=>hS,?_⟩
    clear hK K
    refine anyE_only (i:=12) (by kernel_rfl) (op_step rfl (fun K hK => ?_))
    obtain⟨s1,s2,s3,s4,s5,s6,s7⟩:=hS
    go_simp
    refine hK.out _ _ ⟨fun e=>absurd rfl e,?_⟩
    refine anyE_done (by kernel_rfl) ?_ _
    clear hK K
    obtain⟨wC,hwC⟩:∃wC,wC=w6.setCell ⟨wb,1,none⟩ (.slice (some ⟨g6,0,none⟩) (s.vars.length+1) cap6):=⟨_,rfl⟩
    have hr1:=HNA.out.row1 (w5:=w6) (v' := .slice (some ⟨g6,0,none⟩) (s.vars.length+1) cap6) (xs':=s.vars++[⟨nm,pl,kd,s.fn,va,false⟩]) (by rw[show({ M with bs:=ms0++[(⟨some ⟨g5,0,none⟩,b0.length+1,cap5⟩:SV)] }:DV).v1=M.v1 from rfl,HV1.out];exact HO6.out.2.1) HO6.out.1 (fun b q=>by
     have q:g6=b:=by simpa [Value.ownBlock] using q
     rw[←q,show({ M with bs:=ms0++[(⟨some ⟨g5,0,none⟩,b0.length+1,cap5⟩:SV)] }:DV).v1=M.v1 from rfl,HV1.out]
     exact HO6.out.2.2)
    rw[←hwC] at hr1 ⊢
    obtain⟨tC,htC⟩:∃tC,tC=rtg tA wA.heap.size w6.heap.size 3:=⟨_,rfl⟩
    rw[←htC] at hr1
    have htblA:tb<wA.heap.size:=(Array.getElem?_eq_some_iff.1 HTA.out.1).1
    have htA0:=HTA.out.2
    have htCb:tC tb=0:=by rw[htC,rtg_old htblA];exact htA0
    have htbC:wC.heap[tb]?=some (.cells #[.string nm,.int .i64 pl,.int .i64 kd,.int .i64 (s.fn:Int),.int .i64 (va:Int),.bool false] 61 (0,0)):=(hr1.2.block tb htblA (by omega)).trans HTA.out.1
    have HAC:Hid (At wC B wb tC { s with blocks:=((nm,s.vars.length) :: b0) :: bs,vars:=s.vars++[⟨nm,pl,kd,s.fn,va,false⟩] } 0 a { M with bs:=ms0++[(⟨some ⟨g5,0,none⟩,b0.length+1,cap5⟩:SV)],v1 := .slice (some ⟨g6,0,none⟩) (s.vars.length+1) cap6 }):=hr1.1
    have HSC:Hid (Stp w tg wC tC):=HST.out.trans (by rw[htC];exact Stp.rtg hr1.2 (fun b q=>by omega))
    obtain⟨g7,cap7,hv7,l7,l8,hg7,d7,f7,hb7,hc7⟩:=hr1.1.bump (by exact HMA.out.2.1.fnl)
    have e7:g7=g0:=by
     have hv7:M.v0=_:=hv7
     rw[HV0.out] at hv7
     injection hv7 with e _ _
     injection e with e
     injection e with e
     exact e.symm
    subst e7
    have hvs:varsAt { s with blocks:=((nm,s.vars.length) :: b0) :: bs,vars:=s.vars++[⟨nm,pl,kd,s.fn,va,false⟩] }=va:=hva
    rw[hvs] at d7 hb7 hc7
    have d7:wC.cell? ⟨g7,s.fn*4+3,none⟩=some (.int .i64 (va:Int)):=d7
    have f7:=f7 (s.fn*4+3)
    have b0':wC.cell? ⟨wb,0,none⟩=some (.slice (some ⟨g7,0,none⟩) s.scopes.length cap0):=by have:=hr1.1.box.1;rw[show({ M with bs:=ms0++[(⟨some ⟨g5,0,none⟩,b0.length+1,cap5⟩:SV)],v1 := .slice (some ⟨g6,0,none⟩) (s.vars.length+1) cap6 }:DV).v0=M.v0 from rfl,HV0.out] at this;exact this
    have b4':wC.cell? ⟨wb,4,none⟩=some (.int .i64 (s.fn:Int)):=hr1.1.box.2.2.2.2.1
    have t4':wC.cell? ⟨tb,4,none⟩=some (.int .i64 (va:Int)):=by rw[cell_of_row wC tb _ _ 61 (0,0) htbC];rfl
    have hne7:¬wb=g7:=fun e=>by have:=hr1.1.B0;rw[e] at this;omega
    obtain⟨tD,htD⟩:∃tD,tD=rtg tC wC.heap.size wC.heap.size 0:=⟨_,rfl⟩
    rw[←htD] at hb7
    have hput:bumpP { s with blocks:=((nm,s.vars.length) :: b0) :: bs,vars:=s.vars++[⟨nm,pl,kd,s.fn,va,false⟩] }=putVarP nm pl kd va (bumpP s):=by unfold bumpP putVarP;rw[k7o.out]
    have hb7:At (wC.setCell ⟨g7,s.fn*4+3,none⟩ (.int .i64 ((va:Int)+1))) B wb tD (bumpP { s with blocks:=((nm,s.vars.length) :: b0) :: bs,vars:=s.vars++[⟨nm,pl,kd,s.fn,va,false⟩] }) 0 a { M with bs:=ms0++[(⟨some ⟨g5,0,none⟩,b0.length+1,cap5⟩:SV)],v1 := .slice (some ⟨g6,0,none⟩) (s.vars.length+1) cap6 }:=hb7
    rw[hput] at hb7
    have hb8:At (wC.setCell ⟨g7,s.fn*4+3,none⟩ (.int .i64 ((va:Int)+1))) B wb tD (putVarP nm pl kd va (bumpP s)) 0 a { M with bs:=ms0++[(⟨some ⟨g5,0,none⟩,b0.length+1,cap5⟩:SV)],v1 := .slice (some ⟨g6,0,none⟩) (s.vars.length+1) cap6 }:=hb7
    have HFIN:Hid (RWent w B wb O (putVarP nm pl kd va (bumpP s)) 0 a M.v6 (wC.setCell ⟨g7,s.fn*4+3,none⟩ (.int .i64 ((va:Int)+1)))):=by
     refine Stp.went (tg':=tD) (HSC.out.trans (by rw[htD];exact Stp.rtg (w':=wC.setCell ⟨g7,s.fn*4+3,none⟩ (.int .i64 ((va:Int)+1))) hc7 (fun b q=>by omega))) HMA.out.2.2 hb8 ?_ rfl
     have hgd:=HMA.out.2.1
     have hk7:=k7o.out
     refine⟨?_,?_,?_,?_,?_⟩
     ·show s.fn<((bumpP s).scopes).length
      unfold bumpP
      simp
      exact hgd.fnl
     ·intro b hb e he
      unfold putVarP bumpP at hb ⊢
      rw[hk7] at hb
      simp only[List.length_append,List.length_singleton] at hb ⊢
      rcases List.mem_cons.1 hb with q | q
      ·rw[q] at he
       rcases List.mem_cons.1 he with q2 | q2
       ·rw[q2];exact Nat.lt_succ_self _
       ·have:=hgd.blk b0 (by rw[hk7];exact List.mem_cons_self ..) e q2;omega
      ·have:=hgd.blk b (by rw[hk7];exact List.mem_cons_of_mem _ q) e he;omega
     ·intro b hb
      unfold putVarP bumpP at hb
      rw[hk7] at hb
      rcases List.mem_cons.1 hb with q | q
      ·have h0:=hgd.wf b0 (by rw[hk7];exact List.mem_cons_self ..)
       rw[q]
       refine⟨?_,fun e he => ?_⟩
       ·rw[List.map_cons,List.nodup_cons]
        refine⟨fun hm => ?_,h0.nd⟩
        obtain⟨x,hx,hx2⟩:=List.mem_map.1 hm
        have hno:=HN.out
        rw[List.any_reverse] at hno
        have:b0.any (fun e=>decide (e.1=nm))=true:=List.any_eq_true.2 ⟨x,hx,by simpa using hx2⟩
        rw[hno] at this
        cases this
       ·rcases List.mem_cons.1 he with q2 | q2
        ·rw[q2];exact HSZN.out
        ·exact h0.sz e q2
      ·exact hgd.wf b (by rw[hk7];exact List.mem_cons_of_mem _ q)
     ·intro b hb
      unfold putVarP bumpP at hb ⊢
      rw[hk7] at hb
      simp only[List.length_append,List.length_singleton] at hb ⊢
      rcases List.mem_cons.1 hb with q | q
      ·have:=hgd.few b0 (by rw[hk7];exact List.mem_cons_self ..)
       rw[q,List.length_cons];omega
      ·have:=hgd.few b (by rw[hk7];exact List.mem_cons_of_mem _ q);omega
     ·show((bumpP s).scopes).length≤200
      unfold bumpP
      simp
      exact hgd.scl
    have HLD3:Hid (Below wC.heap.size wC wC.drew):=(Below.refl _ _).drew
    have hw5:IntKind.i64.wrap ((va:Int)+1)=(va:Int)+1:=by have:=HV.out;rw[IntKind.wrap_i64];omega
    have HE:Hid (Tl w B wb O M.v6 2 (declP nm pl kd s) s 0 a (.returned (.tuple #[])) (wC.drew.setCell ⟨g7,s.fn*4+3,none⟩ (.int .i64 ((va:Int)+1)))):=HGO.out HN.out HV.out a _ HFIN.out.drew
    clear hwC hr1 htC htblA htA0 htCb htbC HAC HSC hv7 l7 l8 hg7 hb7 hb8 hc7 hvs hput HFIN HST HNA HTA HBOX HLD HLO HLW HAL2 HOW2 HBX2 HBB2 HFZ2 HO6 z3 htD
    go_wp2_with fail
    have hS:(fun W:World=>W.cell? ⟨wb,0,none⟩=some (.slice (some ⟨g7,0,none⟩) s.scopes.length cap0)∧W.cell? ⟨wb,4,none⟩=some (.int .i64 (s.fn:Int))∧W.cell? ⟨tb,4,none⟩=some (.int .i64 (va:Int))) wC.drew:=⟨Sc.cells_below HLD3.out _ _ b0',Sc.cells_below HLD3.out _ _ b4',Sc.cells_below HLD3.out _ _ t4'⟩
    refine region_E (S:=(fun W:World=>W.cell? ⟨wb,0,none⟩=some (.slice (some ⟨g7,0,none⟩) s.scopes.length cap0)∧W.cell? ⟨wb,4,none⟩=some (.int .i64 (s.fn:Int))∧W.cell? ⟨tb,4,none⟩=some (.int .i64 (va:Int)))) (s:=14) (by kernel_rfl) ?_
    refine anyE_take (i:=0) (v := ?_) rfl (by kernel_rfl) (by kernel_rfl) (by kernel_rfl) (by kernel_rfl) (fun _ _ _ h=>h) (Or.inl ⟨by rfl,?_⟩) hS ?_
    rotate_left
    ·intro W hSW
     obtain⟨s1,s2,s3⟩:=hSW
     go_simp
     all_goals (with_reducible rfl)
    simp only[Act.put]
    refine anyE_take (i:=1) (v := ?_) rfl (by kernel_rfl) (by kernel_rfl) (by kernel_rfl) (by kernel_rfl) (fun _ _ _ h=>h) (Or.inl ⟨by rfl,?_⟩) hS ?_
    rotate_left
    ·intro W hSW
     obtain⟨s1,s2,s3⟩:=hSW
     go_simp
     all_goals (with_reducible rfl)
    simp only[Act.put]
    refine anyE_take (i:=2) (v := ?_) rfl (by kernel_rfl) (by kernel_rfl) (by kernel_rfl) (by kernel_rfl) (fun _ _ _ h=>h) (Or.inl ⟨by rfl,?_⟩) hS ?_
    rotate_left
    ·intro W hSW
     obtain⟨s1,s2,s3⟩:=hSW
     go_simp
     all_goals (with_reducible rfl)
    simp only[Act.put]
    refine anyE_take (i:=3) (v := ?_) rfl (by kernel_rfl) (by kernel_rfl) (by kernel_rfl) (by kernel_rfl) (fun _ _ _ h=>h) (Or.inl ⟨by rfl,?_⟩) hS ?_
    rotate_left
    ·intro W hSW
     obtain⟨s1,s2,s3⟩:=hSW
     go_simp
     all_goals (with_reducible rfl)
    simp only[Act.put]
    refine anyE_take (i:=4) (v := ?_) rfl (by kernel_rfl) (by kernel_rfl) (by kernel_rfl) (by kernel_rfl) (fun _ _ _ h=>h) (Or.inl ⟨by rfl,?_⟩) hS ?_
    rotate_left
    ·intro W hSW
     obtain⟨s1,s2,s3⟩:=hSW
     go_simp
     all_goals (with_reducible rfl)
    simp only[Act.put]
    refine anyE_take (i:=5) (v := ?_) rfl (by kernel_rfl) (by kernel_rfl) (by kernel_rfl) (by kernel_rfl) (fun _ _ _ h=>h) (Or.inl ⟨by rfl,?_⟩) hS ?_
    rotate_left
    ·intro W hSW
     obtain⟨s1,s2,s3⟩:=hSW
     go_simp
     all_goals (with_reducible rfl)
    simp only[Act.put]
    refine anyE_take (i:=6) (v := ?_) rfl (by kernel_rfl) (by kernel_rfl) (by kernel_rfl) (by kernel_rfl) (fun _ _ _ h=>h) (Or.inl ⟨by rfl,?_⟩) hS ?_
    rotate_left
    ·intro W hSW
     obtain⟨s1,s2,s3⟩:=hSW
     go_simp
     all_goals (with_reducible rfl)
    simp only[Act.put]
    refine anyE_take (i:=7) (v := ?_) rfl (by kernel_rfl) (by kernel_rfl) (by kernel_rfl) (by kernel_rfl) (fun _ _ _ h=>h) (Or.inl ⟨by rfl,?_⟩) hS ?_
    rotate_left
    ·intro W hSW
     obtain⟨s1,s2,s3⟩:=hSW
     go_simp
     all_goals (with_reducible rfl)
    simp only[Act.put]
    refine anyE_take (i:=8) (v := ?_) rfl (by kernel_rfl) (by kernel_rfl) (by kernel_rfl) (by kernel_rfl) (fun _ _ _ h=>h) (Or.inl ⟨by rfl,?_⟩) hS ?_
    rotate_left
    ·intro W hSW
     obtain⟨s1,s2,s3⟩:=hSW
     go_simp
     all_goals (with_reducible rfl)
    simp only[Act.put]
    refine anyE_take (i:=9) (v := ?_) rfl (by kernel_rfl) (by kernel_rfl) (by kernel_rfl) (by kernel_rfl) (fun _ _ _ h=>h) (Or.inl ⟨by rfl,?_⟩) hS ?_
    rotate_left
    ·intro W hSW
     obtain⟨s1,s2,s3⟩:=hSW
     go_simp
     all_goals (with_reducible rfl)
    simp only[Act.put]
    refine anyE_take (i:=10) (v := ?_) rfl (by kernel_rfl) (by kernel_rfl) (by kernel_rfl) (by kernel_rfl) (fun _ _ _ h=>h) (Or.inl ⟨by rfl,?_⟩) hS ?_
    rotate_left
    ·intro W hSW
     obtain⟨s1,s2,s3⟩:=hSW
     go_simp
     all_goals (with_reducible rfl)
    simp only[Act.put]
    refine anyE_take (i:=11) (v := ?_) rfl (by kernel_rfl) (by kernel_rfl) (by kernel_rfl) (by kernel_rfl) (fun _ _ _ h=>h) (Or.inl ⟨by rfl,?_⟩) hS ?_
    rotate_left
    ·intro W hSW
     obtain⟨s1,s2,s3⟩:=hSW
     go_simp
     all_goals (with_reducible rfl)
    simp only[Act.put]
    refine anyE_only (i:=12) (by kernel_rfl) (op_step rfl (fun K hK => ?_))
    go_simp
    refine hK.out _ _ ⟨fun _=>hS,?_⟩
    clear hK K
    refine anyE_only (i:=13) (by kernel_rfl) (op_step rfl (fun K hK => ?_))
    go_simp
    refine hK.out _ _ ⟨fun _=>hS,?_⟩
    clear hK K
    refine anyE_only (i:=14) (by kernel_rfl) (op_step rfl (fun K hK => ?_))
    obtain⟨s1,s2,s3⟩:=hS
    go_simp
    refine hK.out _ _ ⟨fun e=>absurd rfl e,?_⟩
    refine anyE_done (by kernel_rfl) ?_ _
    clear hK K
    go_wp2_with fail
    go_end0
    exact HE.out
end Go.Proofs.YtihmdcdifakepaaGreat.Rv.Rx
