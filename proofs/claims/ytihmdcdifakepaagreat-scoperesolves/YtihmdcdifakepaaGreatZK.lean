/- ZK -/
import Derived.Test.YtihmdcdifakepaaGreatB22
import Derived.Deep.LoopGhost
set_option linter.unusedVariables false
set_option linter.unusedSimpArgs false
set_option maxRecDepth 100000
set_option maxHeartbeats 40000000
namespace Go.Proofs.YtihmdcdifakepaaGreat.Rv.Rx
open Go.RowKit Go.Proofs.YtihmdcdifakepaaGreat.Sc Go.Proofs.YtihmdcdifakepaaGreat.Rz
structure LeAt (W0:World)(w:World)(xb:Nat)(r:Bool)(g:Nat)(wr:World):Prop where
 bel:Below w.heap.size w wr
 at':∃t:Tr g,okD g W0 t∧leadT g t=r∧wr.heap[xb]?=some (.cells #[.int .i64 (ndT g t).kind,.int .i64 (ndT g t).pl,.string (ndT g t).name,.int .u64 (ndT g t).num,.string (ndT g t).op,.slice (atT g t) (nkT g t) (capT g t)] 25 (0,0))
theorem told_label {α:Type}{k:Nat}{f:α→RM}{t:α}{x:Nd}{lead:Bool}{s s2:Rz.RS}{a c2 a2:Int}(hn:(s.labels.any fun e=>decide (e.1=x.name))=false)(h:Told k (f t { s with labels:=s.labels++[(x.name,lead)] }) { s with labels:=s.labels++[(x.name,lead)] } 0 a s2 c2 a2):Told k (labelP f x lead [t] s) s 0 a { s2 with labels:=s.labels } c2 a2:=by
 refine⟨⟨h.lk.blen,h.lk.fn,h.lk.loops,rfl,h.lk.scs⟩,h.cr,fun hc=>absurd rfl hc,fun hc => ?_⟩
 have hg:=h.good hc
 unfold labelP
 rw[hn,if_neg (by decide),each_one]
 cases hf:f t { s with labels:=s.labels++[(x.name,lead)] } with
 | ok s3 =>
   rw[hf] at hg
   obtain⟨e1,e2⟩:=hg
   subst e1
   exact⟨rfl,e2⟩
 | error er =>
   rw[hf] at hg
   exact hg
theorem labelled_any (W0:World)(n:Nat)(hS:StC W0 n)(t:Tr n)(hok:okD n W0 t)(w:World)(wb:Nat)(O:Nat→Prop)(s:Rz.RS)(a:Int)(v6:Value)(h:OnD W0 wb O s 0 a v6 w)(x:Nd)(sl:Sli (Tr n))(hso:sl.ok (encT n) 6 W0)(hsl:sl.xs=[t])(hxn:x.name.size≤maxLen)(hb:cr s+8*szT n t≤lim+2)(hd:dp s+1+4*n≤lim)(hm:1≤s.blocks.length) :
  Calls Tryz.prog 42 #[.pointer (some ⟨wb,0,none⟩),.agg #[.int .i64 x.kind,.int .i64 x.pl,.string x.name,.int .u64 x.num,.string x.op,.slice sl.at' 1 sl.cap]] w (Tl w W0.heap.size wb O v6 (8*szT n t - 2) (labelP (resR bi n).2.1 x (leadT n t) [t] s) s 0 a):=by
 obtain⟨wn,hwn⟩:∃wn,wn=w.alloc (.cells #[.int .i64 x.kind,.int .i64 x.pl,.string x.name,.int .u64 x.num,.string x.op,.slice sl.at' 1 sl.cap] 25):=⟨_,rfl⟩
 have hbl:Below w.heap.size w wn:=by rw[hwn];exact below_new (Below.refl _ _) (Nat.le_refl _) _
 have hX:NdB w.heap.size x (.slice sl.at' 1 sl.cap) wn:=by rw[hwn];exact at_new _ _
 have b1:wn.cell? ⟨w.heap.size,1,none⟩=some (.int .i64 x.pl):=cell_of_row wn _ 1 _ _ (0,0) hX
 have b2:wn.cell? ⟨w.heap.size,2,none⟩=some (.string x.name):=cell_of_row wn _ 2 _ _ (0,0) hX
 have b5:wn.cell? ⟨w.heap.size,5,none⟩=some (.slice sl.at' 1 sl.cap):=cell_of_row wn _ 5 _ _ (0,0) hX
 have hn:=h.below hbl
 have HM:Hid (OnD W0 wb O s 0 a v6 w∧OnD W0 wb O s 0 a v6 wn∧Below w.heap.size w wn∧NdB w.heap.size x (.slice sl.at' 1 sl.cap) wn):=⟨h,hn,hbl,hX⟩
 obtain⟨f,hf⟩:∃f,f=(resR bi n).2.1:=⟨_,rfl⟩
 have hS:CalF W0 n 20 f 1:=by rw[hf];exact hS
 rw[←hf]
 obtain⟨P,hP⟩:∃P,P=Tl w W0.heap.size wb O v6 (8*szT n t - 2) (labelP f x (leadT n t) [t] s) s 0 a:=⟨_,rfl⟩
 rw[←hP]
 have HBAD:Hid ((s.labels.any fun e=>decide (e.1=x.name))=true→∀W,Below wn.heap.size wn W→∀w',RWent W W0.heap.size wb O s 75 x.pl v6 w'→P (.returned (.tuple #[])) w'):=fun q W hW w' hw=>by
  have hl:labelP f x (leadT n t) [t] s = .error (x.pl,75):=by unfold labelP;rw[q,if_pos rfl]
  rw[hP,hl]
  exact⟨rfl,s,75,x.pl,⟨Lk.refl s,by omega,fun e=>absurd rfl e,fun _=>⟨rfl,rfl,by decide⟩⟩,hw.behind (hbl.trans (hW.mono hbl.size))⟩
 have HF:Hid (∀W,Below wn.heap.size wn W→Calls Tryz.prog 34 #[.pointer (some ⟨wb,0,none⟩),.int .i64 x.pl,.int .i64 75] W fun r w'=>r = .returned (.tuple #[])∧RWent W W0.heap.size wb O s 75 x.pl v6 w'):=fun W hW=>fail_any W W0.heap.size wb O s a v6 (hn.mem.below hW) x.pl 75
 obtain⟨tg,M,hA,hgd,hv6,hO⟩:=hn.mem
 have r6:RowIn lbC 2 103 W0.heap.size wn (fun b=>tg b=6) M.v6 s.labels:=hA.prt 6
 rw[hv6] at r6
 obtain⟨ad,cap,hv,l1,l2,hg⟩:=own_slice r6.1
 have c5:=hA.box.2.2.2.2.2.1
 rw[hv6,hv] at c5
 have HV6:Hid (v6 = .slice ad s.labels.length cap∧OwnR lbC 2 103 W0.heap.size wn v6 s.labels):=⟨hv,r6.1⟩
 have HLB:Hid (∀W,Below wn.heap.size wn W→W.cell? ⟨wb,5,none⟩=some (.slice ad s.labels.length cap)∧W.cell? ⟨w.heap.size,1,none⟩=some (.int .i64 x.pl)∧W.cell? ⟨w.heap.size,2,none⟩=some (.string x.name)∧W.cell? ⟨w.heap.size,5,none⟩=some (.slice sl.at' 1 sl.cap)∧∀(i:Nat) (y:ByteArray×Bool),s.labels[i]?=some y→∃q,ad=some ⟨q,0,none⟩∧W.cell? ⟨q,i*2,none⟩=some (.string y.1)):=fun W hW=>⟨Sc.cells_below hW _ _ c5,Sc.cells_below hW _ _ b1,Sc.cells_below hW _ _ b2,Sc.cells_below hW _ _ b5,fun i y hy=>by
  obtain⟨q,hq⟩:=hg (by intro e;rw[e] at hy;simp at hy)
  have h8:=r6.1
  rw[hv,hq] at h8
  obtain⟨_,_,_,_,_,s6,_⟩:=h8.read rxLb.len
  exact⟨q,hq,Sc.cells_below hW _ _ (s6 i y hy 0 _ rfl)⟩⟩
 have hll:(s.labels.length:Int)≤9223372036854775807:=by unfold maxLen at l2;omega
 have HKD:Hid (∀W,Below W0.heap.size W0 W→∃b off,sl.at'=some ⟨b,off,none⟩∧W.cell? ⟨b,off,none⟩=some (.int .i64 (ndT n t).kind)∧W.cell? ⟨b,off+1,none⟩=some (.int .i64 (ndT n t).pl)∧W.cell? ⟨b,off+2,none⟩=some (.string (ndT n t).name)∧W.cell? ⟨b,off+3,none⟩=some (.int .u64 (ndT n t).num)∧W.cell? ⟨b,off+4,none⟩=some (.string (ndT n t).op)∧W.cell? ⟨b,off+5,none⟩=some (.slice (atT n t) (nkT n t) (capT n t))):=fun W hW=>by
  have hk:=hso.kept (Sc.cells_below hW)
  obtain⟨y,b,off,k1,k2,x0,x1,x2,x3,x4,x5⟩:=kid_at hk (k:=0) (by rw[hsl];simp)
  rw[hsl] at k2
  cases k2
  simp only[Nat.zero_mul,Nat.add_zero] at x0 x1 x2 x3 x4 x5
  exact⟨b,off,k1,x0,x1,x2,x3,x4,x5⟩
 have HLE:Hid (∀W xb,Below wn.heap.size wn W→W.heap[xb]?=some (.cells #[.int .i64 (ndT n t).kind,.int .i64 (ndT n t).pl,.string (ndT n t).name,.int .u64 (ndT n t).num,.string (ndT n t).op,.slice (atT n t) (nkT n t) (capT n t)] 25 (0,0))→LeAt W0 wn xb (leadT n t) n W):=fun W xb hW hx=>⟨hW,t,hok,rfl,hx⟩
 have HS:Hid (∀(w1:World) (O1:Nat→Prop) (v1:Value),OnD W0 wb O1 { s with labels:=s.labels++[(x.name,leadT n t)] } 0 a v1 w1→Calls Tryz.prog 20 #[.pointer (some ⟨wb,0,none⟩),valT n t] w1 (Tl w1 W0.heap.size wb O1 v1 (8*szT n t - 2) (f t { s with labels:=s.labels++[(x.name,leadT n t)] }) { s with labels:=s.labels++[(x.name,leadT n t)] } 0 a)):=fun w1 O1 v1 o1=>hS t hok w1 wb O1 { s with labels:=s.labels++[(x.name,leadT n t)] } 0 a v1 o1 hb (by unfold dp at *;simp only[List.length_append,List.length_singleton];omega) hm
 have HBG:Hid (s.labels.length≤1000000000):=by show _≤_;unfold dp lim at hd;omega
 have HNM:Hid (Below W0.heap.size W0 wn):=hn.bel
 have HP:Hid (P=Tl w W0.heap.size wb O v6 (8*szT n t - 2) (labelP f x (leadT n t) [t] s) s 0 a):=hP
 have HFR:Hid (wn.frozen? ⟨wb,5,none⟩=false∧wb<wn.heap.size):=⟨hn.mem.box.2.2.2.2.2 5,hn.mem.at0.2⟩
 clear hP
 clear h hX hbl hA hgd hO r6 hv hv6 l1 l2 hg hb hd hm hso hsl hok hS hf hn b1 b2 b5
 go_enter Tryz.func42,Tryz.ntmps42
 go_upto_region 1 with fail
 rw[←hwn]
 clear hwn
 have c5o:=c5
 clear c5o
 obtain⟨_,_,b2,_,_⟩:=HLB.out wn (Below.refl _ _)
 clear b2
 go_wp2_with fail
 go_loopw [4] (fun i wr=>∃k:Nat,Hid (k≤s.labels.length∧Below wn.heap.size wn wr∧(s.labels.take k).any (fun e=>decide (e.1=x.name))=false)∧i = .int .i64 (k:Int)) (fun i wr=>s.labels.length - (intOf i).toNat)
 case atStart=>exact⟨0,⟨Nat.zero_le _,Below.refl _ _,rfl⟩,rfl⟩
 case round =>
  obtain⟨k,HK,rfl⟩:=hrel
  clear c5
  obtain⟨c5,b1,b2,b5,hlb⟩:=HLB.out wr HK.out.2.1
  rcases Nat.lt_or_ge k s.labels.length with cl | cl
  ·have hil:(k:Int)<s.labels.length:=by omega
   obtain⟨y,hy⟩:∃y,s.labels[k]?=some y:=⟨_,List.getElem?_eq_getElem cl⟩
   obtain⟨q,rfl,f0⟩:=hlb k y hy
   have HY:Hid (s.labels[k]?=some y):=hy
   clear hlb hy HS HLE HKD HV6 HM HNM HBG
   cases t2:(y.1.toList == x.name.toList)
   ·have HN:Hid ((s.labels.take (k+1)).any (fun e=>decide (e.1=x.name))=false):=by
     show _=_
     rw[List.take_add_one,HY.out,List.any_append,HK.out.2.2]
     rw[str_eqD] at t2
     simpa using t2
    clear HLB HF HBAD HY
    go_wp2_with fail
    go_quiet (fail)
    go_wp2_with fail
    refine⟨⟨k+1,⟨cl,Go.below_drewN HK.out.2.1 nq,HN.out⟩,by go_num⟩,?_⟩
    simp[intOf]
    omega
   ·have HN:Hid ((s.labels.any fun e=>decide (e.1=x.name))=true):=by
     show _=_
     rw[List.any_eq_true]
     rw[str_eqD] at t2
     exact⟨y,List.mem_of_getElem? HY.out,t2⟩
    have HB1:Hid (∀nq,(wr.drewN nq).cell? ⟨w.heap.size,1,none⟩=some (.int .i64 x.pl)):=fun nq=>Sc.cells_below (Go.below_drewN (Below.refl _ _) nq) _ _ b1
    clear HLB HY
    go_wp2_with fail
    go_quiet (fail)
    have hbq:Below wn.heap.size wn (wr.drewN nq):=Go.below_drewN HK.out.2.1 nq
    have kf:=HF.out _ hbq
    have HBQ:Hid (Below wn.heap.size wn (wr.drewN nq)):=hbq
    have b1':=HB1.out nq
    clear hbq HB1 HF c5 b1 b2 b5 f0
    go_wp2_with fail
    refine kf.mono ?_
    rintro e w1 ⟨rfl,hw⟩
    have HE:Hid (P (.returned (.tuple #[])) w1):=HBAD.out HN.out _ HBQ.out w1 hw
    clear kf hw HBAD
    go_wp2_with fail
    go_end0
    exact HE.out
  ·have hil:¬(k:Int)<s.labels.length:=by omega
   have HN:Hid ((s.labels.any fun e=>decide (e.1=x.name))=false):=by have:=HK.out.2.2;rwa [List.take_of_length_le cl] at this
   obtain⟨kb,off,hka,x0,x1,x2,x3,x4,x5⟩:=HKD.out wr (HNM.out.trans (HK.out.2.1.mono HNM.out.size))
   obtain⟨w2,hw2⟩:∃w2,w2=wr.alloc (.cells #[.int .i64 (ndT n t).kind,.int .i64 (ndT n t).pl,.string (ndT n t).name,.int .u64 (ndT n t).num,.string (ndT n t).op,.slice (atT n t) (nkT n t) (capT n t)] 25):=⟨_,rfl⟩
   have HB2:Hid (Below wr.heap.size wr w2∧Below wn.heap.size wn w2∧wr.heap.size<w2.heap.size∧wn.heap.size≤wr.heap.size):=⟨by rw[hw2];exact below_new (Below.refl _ _) (Nat.le_refl _) _,by rw[hw2];exact HK.out.2.1.trans ((below_new (Below.refl _ _) (Nat.le_refl _) _).mono HK.out.2.1.size),by rw[hw2,size_new];omega,HK.out.2.1.size⟩
   have HSL:Hid (LeAt W0 wn wr.heap.size (leadT n t) n w2):=HLE.out w2 wr.heap.size HB2.out.2.1 (by rw[hw2];exact at_new _ _)
   rw[hka] at b5
   have HKA:Hid (sl.at'=some ⟨kb,off,none⟩):=hka
   clear hlb HF HBAD HLE hka cl b1 b2
   go_upto_region 7 with fail
   rw[←hw2]
   obtain⟨xb,hxb⟩:∃xb,xb=wr.heap.size:=⟨_,rfl⟩
   rw[←hxb] at HB2 HSL ⊢
   have HWR:Hid (wn.heap.size≤xb):=HB2.out.2.2.2
   clear hw2 x0 x1 x2 x3 x4 x5 c5 b5 hxb HK hil
   obtain⟨R,hR⟩:∃R,R=leadT n t:=⟨_,rfl⟩
   rw[←hR] at HSL
   have HRL:Hid (R=leadT n t):=hR
   clear hR
   go_loopg [36] n (fun g p wr=>Hid (LeAt W0 wn xb R g wr))
   case atStart=>exact HSL
   case round =>
    clear HSL
    have HE:=hrel
    clear hrel
    obtain⟨t1,ht1,hl1,hbx⟩:=HE.out.at'
    have HBE:Hid (Below wn.heap.size wn wr):=HE.out.bel
    cases gk with
    | zero=>exact nomatch (t1:Empty)
    | succ g =>
      obtain⟨y0,sy⟩:=t1
      have c0:wr.cell? ⟨xb,0,none⟩=some (.int .i64 y0.kind):=by rw[cell_of_row wr _ 0 _ 25 (0,0) hbx];rfl
      have c5:wr.cell? ⟨xb,5,none⟩=some (.slice sy.at' sy.xs.length sy.cap):=by rw[cell_of_row wr _ 5 _ 25 (0,0) hbx];rfl
      have HF:Hid (wr.heap[xb]?=some (.cells #[.int .i64 y0.kind,.int .i64 y0.pl,.string y0.name,.int .u64 y0.num,.string y0.op,.slice sy.at' sy.xs.length sy.cap] 25 (0,0))):=hbx
      have hfz:∀j,wr.frozen? ⟨xb,j,none⟩=false:=fun j=>frozen_of_row wr _ j _ 25 hbx
      by_cases ck:y0.kind=41
      ·have d1:wr.cell? ⟨xb,1,none⟩=some (.int .i64 y0.pl):=by rw[cell_of_row wr _ 1 _ 25 (0,0) hbx];rfl
       have d2:wr.cell? ⟨xb,2,none⟩=some (.string y0.name):=by rw[cell_of_row wr _ 2 _ 25 (0,0) hbx];rfl
       have d3:wr.cell? ⟨xb,3,none⟩=some (.int .u64 y0.num):=by rw[cell_of_row wr _ 3 _ 25 (0,0) hbx];rfl
       have d4:wr.cell? ⟨xb,4,none⟩=some (.string y0.op):=by rw[cell_of_row wr _ 4 _ 25 (0,0) hbx];rfl
       have hlen:sy.xs.length=1:=ht1.2.2.2.2.1 ck
       obtain⟨y,b,off2,k1,k2,x0,x1,x2,x3,x4,x5⟩:=kid_at (ht1.1.2.1.kept (Sc.cells_below (HNM.out.trans (HBE.out.mono HNM.out.size)))) (k:=0) (by omega)
       have hy:okD g W0 y∧leadT g y=R:=by
        refine⟨⟨ht1.1.2.2 y (List.mem_of_getElem? k2),ht1.2.2.2.2.2 y (List.mem_of_getElem? k2)⟩,?_⟩
        rw[←hl1]
        show leadT g y=if y0.kind=41 then ((sy.xs[0]?).map (leadT g)).getD false else _
        rw[if_pos ck,k2]
        rfl
       have HY:Hid (okD g W0 y∧leadT g y=R):=hy
       have f0:=hfz 0
       have f1:=hfz 1
       have f2:=hfz 2
       have f3:=hfz 3
       have f4:=hfz 4
       have f5:=hfz 5
       have HNX:Hid (LeAt W0 wn xb R g ((((((wr.setCell ⟨xb,0,none⟩ (.int .i64 (ndT g y).kind)).setCell ⟨xb,1,none⟩ (.int .i64 (ndT g y).pl)).setCell ⟨xb,2,none⟩ (.string (ndT g y).name)).setCell ⟨xb,3,none⟩ (.int .u64 (ndT g y).num)).setCell ⟨xb,4,none⟩ (.string (ndT g y).op)).setCell ⟨xb,5,none⟩ (.slice (atT g y) (nkT g y) (capT g y)))):=by
        have s0:=heap_setCell_same wr xb 0 _ 25 (.int .i64 (ndT g y).kind) HF.out
        have s1:=heap_setCell_same _ xb 1 _ 25 (.int .i64 (ndT g y).pl) s0
        have s2:=heap_setCell_same _ xb 2 _ 25 (.string (ndT g y).name) s1
        have s3:=heap_setCell_same _ xb 3 _ 25 (.int .u64 (ndT g y).num) s2
        have s4:=heap_setCell_same _ xb 4 _ 25 (.string (ndT g y).op) s3
        have s5:=heap_setCell_same _ xb 5 _ 25 (.slice (atT g y) (nkT g y) (capT g y)) s4
        have hq:=HWR.out
        exact⟨(((((HBE.out.setCell (p:=⟨xb,0,none⟩) hq _).setCell (p:=⟨xb,1,none⟩) hq _).setCell (p:=⟨xb,2,none⟩) hq _).setCell (p:=⟨xb,3,none⟩) hq _).setCell (p:=⟨xb,4,none⟩) hq _).setCell (p:=⟨xb,5,none⟩) hq _,y,HY.out.1,HY.out.2,s5⟩
       rw[k1,hlen] at c5
       rw[ck] at c0
       simp only[Nat.zero_mul,Nat.add_zero] at x0 x1 x2 x3 x4 x5
       clear hbx hfz ht1 hl1 HE hy HF HY hlen k2 k1 ck HV6 HM HLB HKD HS HBG HN HB2 HRL HKA
       generalize (ndT g y).kind=r0 at *
       generalize (ndT g y).pl=r1 at *
       generalize (ndT g y).name=r2 at *
       generalize (ndT g y).num=r3 at *
       generalize (ndT g y).op=r4 at *
       generalize atT g y=r5 at *
       generalize nkT g y=r6 at *
       generalize capT g y=r7 at *
       go_wp2_with fail
       go_roundg g
       case measure=>omega
       case rel=>exact HNX
      ·have hck:(y0.kind == (41:Int))=false:=by simpa using ck
       have hR:R=loopB y0.kind:=by
        rw[←hl1]
        show(if y0.kind=41 then ((sy.xs[0]?).map (leadT g)).getD false else _)=_
        rw[if_neg ck]
        rfl
       have HRK:Hid (R=loopB y0.kind):=hR
       clear hbx hfz ht1 hl1 HE hR c5 ck
       generalize hkd:y0.kind=kd at *
       obtain⟨c5,_,b2,b5,_⟩:=HLB.out wr HBE.out
       have HOK0:Hid (Sli.ok lbC 2 wr ⟨ad,cap,s.labels⟩):=by
        obtain⟨⟨sa,sc,sx⟩,hs1,hs2,hs3,_⟩:=(HV6.out.2.kept (S:=fun b=>wn.heap.size≤b) ⟨HBE.out.os,HBE.out.tape,HBE.out.output,HBE.out.size,fun k hk _=>HBE.out.block k hk⟩ (fun b q=>by have:=(HV6.out.2.lt b q).2;omega)).sl rxLb.len
        rw[HV6.out.1] at hs1
        unfold Sli.val at hs1
        simp only at hs2
        injection hs1 with e1 e2 e3
        subst hs2
        rw[e1,e3]
        exact hs3
       have HNIL:Hid (OwnR lbC 2 103 W0.heap.size wr (.slice none 0 0) []):=OwnR.nil _ _
       have HBX0:Hid (((([]:List (ByteArray×Bool)).length+s.labels.length)+(([]:List (ByteArray×Bool)).length+s.labels.length) / 4+192)*24≤281474976710656∧([]:List (ByteArray×Bool)).length+s.labels.length≤maxLen):=by have:=HBG.out;simp only[List.length_nil];exact⟨by omega,by unfold maxLen;omega⟩
       have HSZ0:Hid (W0.heap.size≤wr.heap.size):=Nat.le_trans HNM.out.size HBE.out.size
       go_wp2_with (at_builtin;refine app_row rxLb rfl _ _ rfl W0.heap.size (.slice none 0 0) [] ?h1 HNIL.out ⟨ad,cap,s.labels⟩ ?h3 HOK0.out HBX0.out.2 HBX0.out.1 HSZ0.out ?_)
       case h1=>rfl
       case h3=>rfl
       intro vA w5 hoA hgA hlA
       have hb5:Below wr.heap.size wr w5:=below_grown (show wr.grownBy w5 none from hgA)
       have hoA:OwnR lbC 2 103 W0.heap.size w5 vA s.labels:=hoA
       have HA:Hid (OwnR lbC 2 103 W0.heap.size w5 vA s.labels∧(∀b,vA.ownBlock=some b→wn.heap.size≤b)∧Below wn.heap.size wn w5):=⟨hoA,fun b q=>by
        rcases hlA with e | e
        ·rw[e] at q;cases q
        ·rw[e] at q
         injection q with q
         rw[←q]
         exact HBE.out.size,HBE.out.trans (hb5.mono HBE.out.size)⟩
       have c5':=Sc.cells_below hb5 _ _ c5
       have b2':=Sc.cells_below hb5 _ _ b2
       have c0':=Sc.cells_below hb5 _ _ c0
       clear hoA hgA hlA hb5 c5 b2 b5 c0 HOK0 HNIL HBX0 HSZ0
       have h3:(¬(36:Int)≤kd∧R=false)∨((36:Int)≤kd∧¬kd≤(38:Int)∧R=false)∨((36:Int)≤kd∧kd≤(38:Int)∧R=true):=by
        have hr:=HRK.out
        unfold loopB at hr
        by_cases e1:(36:Int)≤kd
        ·by_cases e2:kd≤(38:Int)
         ·exact Or.inr (Or.inr ⟨e1,e2,by rw[hr];simp[e1,e2]⟩)
         ·exact Or.inr (Or.inl ⟨e1,e2,by rw[hr];simp[e2]⟩)
        ·exact Or.inl ⟨e1,by rw[hr];simp[e1]⟩
       rcases h3 with⟨e36,rfl⟩ | ⟨e36,e38,rfl⟩ | ⟨e36,e38,rfl⟩
       ·have HON:Hid (Sli.ok lbC 2 (w5.alloc (.cells #[.string x.name,.bool false] 103)) ⟨some ⟨w5.heap.size,0,none⟩,1,[(x.name,false)]⟩):=one_sli rxLb (at_new _ _) rfl
        have HAL:Hid (Below w5.heap.size w5 (w5.alloc (.cells #[.string x.name,.bool false] 103))):=(Below.refl _ _).alloc (Nat.le_refl _) _
        have HR6:Hid (OwnR lbC 2 103 W0.heap.size (w5.alloc (.cells #[.string x.name,.bool false] 103)) vA s.labels):=HA.out.1.below HAL.out
        have HBX1:Hid (((s.labels.length+1)+(s.labels.length+1) / 4+192)*24≤281474976710656∧s.labels.length+1≤maxLen):=by have:=HBG.out;exact⟨by omega,by unfold maxLen;omega⟩
        have HSZ1:Hid (W0.heap.size≤(w5.alloc (.cells #[.string x.name,.bool false] 103)).heap.size):=Nat.le_trans (Nat.le_trans HNM.out.size HA.out.2.2.size) HAL.out.size
        have c5f:w5.frozen? ⟨wb,5,none⟩=false:=by rw[World.frozen?_of_block (w:=wn) (HA.out.2.2.block wb HFR.out.2)];exact HFR.out.1
        have hne5:¬wb=w5.heap.size:=by have:=HFR.out.2;have:=HA.out.2.2.size;omega
        go_wp2_with (at_builtin;refine app_row rxLb rfl _ _ rfl W0.heap.size vA s.labels ?h1 HR6.out ⟨some ⟨w5.heap.size,0,none⟩,1,[(x.name,false)]⟩ ?h3 HON.out HBX1.out.2 HBX1.out.1 HSZ1.out ?_)
        case h3=>rfl
        intro vB w7 hoB hgB hlB
        obtain⟨g7,cap7,rfl,_,_⟩:=World.ownsRow.form hoB (by simp)
        have hln:(s.labels++[(x.name,false)]).length=s.labels.length+1:=by simp
        simp only[hln] at hoB hlB ⊢
        have hb7:Below wn.heap.size wn w7:=(Chg.of_grown (S:=fun b=>vA.ownBlock=some b) hgB (fun b q=>q)).below (HA.out.2.2.trans (HAL.out.mono HA.out.2.2.size)) (Nat.le_trans HA.out.2.2.size HAL.out.size) (fun b q=>HA.out.2.1 b q)
        have hoB:OwnR lbC 2 103 W0.heap.size w7 (.slice (some ⟨g7,0,none⟩) (s.labels.length+1) cap7) (s.labels++[(x.name,false)]):=hoB
        obtain⟨O2,m8,p1,p2,p3,p4,p5⟩:=HM.out.2.1.mem.lab hb7 hoB (fun b q=>by
         rcases hlB with e | e
         ·exact HA.out.2.1 b (e ▸ q)
         ·rw[e] at q
          injection q with q
          rw[←q]
          have:=HA.out.2.2.size;omega)
        obtain⟨w8,hw8⟩:∃w8,w8=w7.setCell ⟨wb,5,none⟩ (.slice (some ⟨g7,0,none⟩) (s.labels.length+1) cap7):=⟨_,rfl⟩
        rw[←hw8] at m8 p1 p4
        have bel8:Below W0.heap.size W0 w8:=p1.below HM.out.2.1.bel HM.out.2.1.bel.size (fun b q=>(HM.out.2.1.mem.lt b q).1)
        have hX8:w8.cell? ⟨w.heap.size,5,none⟩=some (.slice sl.at' 1 sl.cap):=by
         have hX:=HM.out.2.2.2
         have:w8.heap[w.heap.size]?=some (.cells #[.int .i64 x.kind,.int .i64 x.pl,.string x.name,.int .u64 x.num,.string x.op,.slice sl.at' 1 sl.cap] 25 (0,0)):=by
          rw[p1.block w.heap.size (Array.getElem?_eq_some_iff.1 hX).1 (fun q=>by have:=(HM.out.1.mem.lt _ q).2;omega)]
          exact hX
         rw[cell_of_row w8 _ 5 _ 25 (0,0) this]
         rfl
        rw[HKA.out] at hX8
        obtain⟨kb',off',hka',j0,j1,j2,j3,j4,j5⟩:=HKD.out w8 bel8
        have hka':kb=kb'∧off=off':=by
         rw[HKA.out] at hka'
         injection hka' with hka'
         injection hka' with e1 e2
         exact⟨e1,e2⟩
        obtain⟨rfl,rfl⟩:=hka'
        have ks:=HS.out w8 O2 _ ⟨by rw[←HRL.out];exact m8,bel8⟩
        unfold valT at ks
        have HEND:Hid (∀s2 c2 a2 w9,Told (8*szT n t - 2) (f t { s with labels:=s.labels++[(x.name,leadT n t)] }) { s with labels:=s.labels++[(x.name,leadT n t)] } 0 a s2 c2 a2→RWent w8 W0.heap.size wb O2 s2 c2 a2 (.slice (some ⟨g7,0,none⟩) (s.labels.length+1) cap7) w9→w9.cell? ⟨wb,5,none⟩=some (.slice (some ⟨g7,0,none⟩) (s.labels.length+1) cap7)∧w9.frozen? ⟨wb,5,none⟩=false∧P (.returned (.tuple #[])) (w9.setCell ⟨wb,5,none⟩ (.slice ad s.labels.length cap))):=fun s2 c2 a2 w9 ht hw=>by
         obtain⟨e1,e2,e3⟩:=lab_end HM.out.2.1.mem p1 p2 p3 p4 p5 hw
         refine⟨e1,e2,?_⟩
         rw[HP.out]
         refine⟨rfl,_,c2,a2,told_label HN.out ht,?_⟩
         rw[HV6.out.1] at e3 ⊢
         exact e3.behind HM.out.2.2.1
        have z5:=(HLB.out w7 hb7).1
        have zf:w7.frozen? ⟨wb,5,none⟩=false:=by rw[World.frozen?_of_block (w:=wn) (hb7.block wb HFR.out.2)];exact HFR.out.1
        clear hoB hgB hlB m8 p1 p2 p3 p4 p5 bel8 HON HAL HR6 HBX1 HSZ1 c5f hne5 hln c0' b2' c5' hb7
        clear HS HKD HLB HM HP HFR HV6 HA HKA HBG HNM HBE HF HRL HN HB2 HWR HRK
        go_upto_region 13 with fail
        rw[←hw8]
        clear hw8 z5 zf
        go_wp2_with fail
        refine ks.mono ?_
        rintro e w9 ⟨rfl,s2,c2,a2,ht,hw⟩
        obtain⟨y1,y2,y3⟩:=HEND.out s2 c2 a2 w9 ht hw
        have HE9:Hid (P (.returned (.tuple #[])) (w9.setCell ⟨wb,5,none⟩ (.slice ad s.labels.length cap))):=y3
        clear ks ht hw y3 HEND hX8 j0 j1 j2 j3 j4 j5
        go_wp2_with fail
        go_end0
        exact HE9.out
       ·have d36:decide ((36:Int)≤kd)=true:=by simpa using e36
        have d38:decide (kd≤(38:Int))=false:=by simpa using e38
        have HON:Hid (Sli.ok lbC 2 (w5.alloc (.cells #[.string x.name,.bool false] 103)) ⟨some ⟨w5.heap.size,0,none⟩,1,[(x.name,false)]⟩):=one_sli rxLb (at_new _ _) rfl
        have HAL:Hid (Below w5.heap.size w5 (w5.alloc (.cells #[.string x.name,.bool false] 103))):=(Below.refl _ _).alloc (Nat.le_refl _) _
        have HR6:Hid (OwnR lbC 2 103 W0.heap.size (w5.alloc (.cells #[.string x.name,.bool false] 103)) vA s.labels):=HA.out.1.below HAL.out
        have HBX1:Hid (((s.labels.length+1)+(s.labels.length+1) / 4+192)*24≤281474976710656∧s.labels.length+1≤maxLen):=by have:=HBG.out;exact⟨by omega,by unfold maxLen;omega⟩
        have HSZ1:Hid (W0.heap.size≤(w5.alloc (.cells #[.string x.name,.bool false] 103)).heap.size):=Nat.le_trans (Nat.le_trans HNM.out.size HA.out.2.2.size) HAL.out.size
        have c5f:w5.frozen? ⟨wb,5,none⟩=false:=by rw[World.frozen?_of_block (w:=wn) (HA.out.2.2.block wb HFR.out.2)];exact HFR.out.1
        have hne5:¬wb=w5.heap.size:=by have:=HFR.out.2;have:=HA.out.2.2.size;omega
        go_wp2_with (at_builtin;refine app_row rxLb rfl _ _ rfl W0.heap.size vA s.labels ?h1 HR6.out ⟨some ⟨w5.heap.size,0,none⟩,1,[(x.name,false)]⟩ ?h3 HON.out HBX1.out.2 HBX1.out.1 HSZ1.out ?_)
        case h3=>rfl
        intro vB w7 hoB hgB hlB
        obtain⟨g7,cap7,rfl,_,_⟩:=World.ownsRow.form hoB (by simp)
        have hln:(s.labels++[(x.name,false)]).length=s.labels.length+1:=by simp
        simp only[hln] at hoB hlB ⊢
        have hb7:Below wn.heap.size wn w7:=(Chg.of_grown (S:=fun b=>vA.ownBlock=some b) hgB (fun b q=>q)).below (HA.out.2.2.trans (HAL.out.mono HA.out.2.2.size)) (Nat.le_trans HA.out.2.2.size HAL.out.size) (fun b q=>HA.out.2.1 b q)
        have hoB:OwnR lbC 2 103 W0.heap.size w7 (.slice (some ⟨g7,0,none⟩) (s.labels.length+1) cap7) (s.labels++[(x.name,false)]):=hoB
        obtain⟨O2,m8,p1,p2,p3,p4,p5⟩:=HM.out.2.1.mem.lab hb7 hoB (fun b q=>by
         rcases hlB with e | e
         ·exact HA.out.2.1 b (e ▸ q)
         ·rw[e] at q
          injection q with q
          rw[←q]
          have:=HA.out.2.2.size;omega)
        obtain⟨w8,hw8⟩:∃w8,w8=w7.setCell ⟨wb,5,none⟩ (.slice (some ⟨g7,0,none⟩) (s.labels.length+1) cap7):=⟨_,rfl⟩
        rw[←hw8] at m8 p1 p4
        have bel8:Below W0.heap.size W0 w8:=p1.below HM.out.2.1.bel HM.out.2.1.bel.size (fun b q=>(HM.out.2.1.mem.lt b q).1)
        have hX8:w8.cell? ⟨w.heap.size,5,none⟩=some (.slice sl.at' 1 sl.cap):=by
         have hX:=HM.out.2.2.2
         have:w8.heap[w.heap.size]?=some (.cells #[.int .i64 x.kind,.int .i64 x.pl,.string x.name,.int .u64 x.num,.string x.op,.slice sl.at' 1 sl.cap] 25 (0,0)):=by
          rw[p1.block w.heap.size (Array.getElem?_eq_some_iff.1 hX).1 (fun q=>by have:=(HM.out.1.mem.lt _ q).2;omega)]
          exact hX
         rw[cell_of_row w8 _ 5 _ 25 (0,0) this]
         rfl
        rw[HKA.out] at hX8
        obtain⟨kb',off',hka',j0,j1,j2,j3,j4,j5⟩:=HKD.out w8 bel8
        have hka':kb=kb'∧off=off':=by
         rw[HKA.out] at hka'
         injection hka' with hka'
         injection hka' with e1 e2
         exact⟨e1,e2⟩
        obtain⟨rfl,rfl⟩:=hka'
        have ks:=HS.out w8 O2 _ ⟨by rw[←HRL.out];exact m8,bel8⟩
        unfold valT at ks
        have HEND:Hid (∀s2 c2 a2 w9,Told (8*szT n t - 2) (f t { s with labels:=s.labels++[(x.name,leadT n t)] }) { s with labels:=s.labels++[(x.name,leadT n t)] } 0 a s2 c2 a2→RWent w8 W0.heap.size wb O2 s2 c2 a2 (.slice (some ⟨g7,0,none⟩) (s.labels.length+1) cap7) w9→w9.cell? ⟨wb,5,none⟩=some (.slice (some ⟨g7,0,none⟩) (s.labels.length+1) cap7)∧w9.frozen? ⟨wb,5,none⟩=false∧P (.returned (.tuple #[])) (w9.setCell ⟨wb,5,none⟩ (.slice ad s.labels.length cap))):=fun s2 c2 a2 w9 ht hw=>by
         obtain⟨e1,e2,e3⟩:=lab_end HM.out.2.1.mem p1 p2 p3 p4 p5 hw
         refine⟨e1,e2,?_⟩
         rw[HP.out]
         refine⟨rfl,_,c2,a2,told_label HN.out ht,?_⟩
         rw[HV6.out.1] at e3 ⊢
         exact e3.behind HM.out.2.2.1
        have z5:=(HLB.out w7 hb7).1
        have zf:w7.frozen? ⟨wb,5,none⟩=false:=by rw[World.frozen?_of_block (w:=wn) (hb7.block wb HFR.out.2)];exact HFR.out.1
        clear hoB hgB hlB m8 p1 p2 p3 p4 p5 bel8 HON HAL HR6 HBX1 HSZ1 c5f hne5 hln c0' b2' c5' hb7
        clear HS HKD HLB HM HP HFR HV6 HA HKA HBG HNM HBE HF HRL HN HB2 HWR HRK
        go_upto_region 13 with fail
        rw[←hw8]
        clear hw8 z5 zf
        go_wp2_with fail
        refine ks.mono ?_
        rintro e w9 ⟨rfl,s2,c2,a2,ht,hw⟩
        obtain⟨y1,y2,y3⟩:=HEND.out s2 c2 a2 w9 ht hw
        have HE9:Hid (P (.returned (.tuple #[])) (w9.setCell ⟨wb,5,none⟩ (.slice ad s.labels.length cap))):=y3
        clear ks ht hw y3 HEND hX8 j0 j1 j2 j3 j4 j5
        go_wp2_with fail
        go_end0
        exact HE9.out
       ·have d36:decide ((36:Int)≤kd)=true:=by simpa using e36
        have d38:decide (kd≤(38:Int))=true:=by simpa using e38
        have HON:Hid (Sli.ok lbC 2 (w5.alloc (.cells #[.string x.name,.bool true] 103)) ⟨some ⟨w5.heap.size,0,none⟩,1,[(x.name,true)]⟩):=one_sli rxLb (at_new _ _) rfl
        have HAL:Hid (Below w5.heap.size w5 (w5.alloc (.cells #[.string x.name,.bool true] 103))):=(Below.refl _ _).alloc (Nat.le_refl _) _
        have HR6:Hid (OwnR lbC 2 103 W0.heap.size (w5.alloc (.cells #[.string x.name,.bool true] 103)) vA s.labels):=HA.out.1.below HAL.out
        have HBX1:Hid (((s.labels.length+1)+(s.labels.length+1) / 4+192)*24≤281474976710656∧s.labels.length+1≤maxLen):=by have:=HBG.out;exact⟨by omega,by unfold maxLen;omega⟩
        have HSZ1:Hid (W0.heap.size≤(w5.alloc (.cells #[.string x.name,.bool true] 103)).heap.size):=Nat.le_trans (Nat.le_trans HNM.out.size HA.out.2.2.size) HAL.out.size
        have c5f:w5.frozen? ⟨wb,5,none⟩=false:=by rw[World.frozen?_of_block (w:=wn) (HA.out.2.2.block wb HFR.out.2)];exact HFR.out.1
        have hne5:¬wb=w5.heap.size:=by have:=HFR.out.2;have:=HA.out.2.2.size;omega
        go_wp2_with (at_builtin;refine app_row rxLb rfl _ _ rfl W0.heap.size vA s.labels ?h1 HR6.out ⟨some ⟨w5.heap.size,0,none⟩,1,[(x.name,true)]⟩ ?h3 HON.out HBX1.out.2 HBX1.out.1 HSZ1.out ?_)
        case h3=>rfl
        intro vB w7 hoB hgB hlB
        obtain⟨g7,cap7,rfl,_,_⟩:=World.ownsRow.form hoB (by simp)
        have hln:(s.labels++[(x.name,true)]).length=s.labels.length+1:=by simp
        simp only[hln] at hoB hlB ⊢
        have hb7:Below wn.heap.size wn w7:=(Chg.of_grown (S:=fun b=>vA.ownBlock=some b) hgB (fun b q=>q)).below (HA.out.2.2.trans (HAL.out.mono HA.out.2.2.size)) (Nat.le_trans HA.out.2.2.size HAL.out.size) (fun b q=>HA.out.2.1 b q)
        have hoB:OwnR lbC 2 103 W0.heap.size w7 (.slice (some ⟨g7,0,none⟩) (s.labels.length+1) cap7) (s.labels++[(x.name,true)]):=hoB
        obtain⟨O2,m8,p1,p2,p3,p4,p5⟩:=HM.out.2.1.mem.lab hb7 hoB (fun b q=>by
         rcases hlB with e | e
         ·exact HA.out.2.1 b (e ▸ q)
         ·rw[e] at q
          injection q with q
          rw[←q]
          have:=HA.out.2.2.size;omega)
        obtain⟨w8,hw8⟩:∃w8,w8=w7.setCell ⟨wb,5,none⟩ (.slice (some ⟨g7,0,none⟩) (s.labels.length+1) cap7):=⟨_,rfl⟩
        rw[←hw8] at m8 p1 p4
        have bel8:Below W0.heap.size W0 w8:=p1.below HM.out.2.1.bel HM.out.2.1.bel.size (fun b q=>(HM.out.2.1.mem.lt b q).1)
        have hX8:w8.cell? ⟨w.heap.size,5,none⟩=some (.slice sl.at' 1 sl.cap):=by
         have hX:=HM.out.2.2.2
         have:w8.heap[w.heap.size]?=some (.cells #[.int .i64 x.kind,.int .i64 x.pl,.string x.name,.int .u64 x.num,.string x.op,.slice sl.at' 1 sl.cap] 25 (0,0)):=by
          rw[p1.block w.heap.size (Array.getElem?_eq_some_iff.1 hX).1 (fun q=>by have:=(HM.out.1.mem.lt _ q).2;omega)]
          exact hX
         rw[cell_of_row w8 _ 5 _ 25 (0,0) this]
         rfl
        rw[HKA.out] at hX8
        obtain⟨kb',off',hka',j0,j1,j2,j3,j4,j5⟩:=HKD.out w8 bel8
        have hka':kb=kb'∧off=off':=by
         rw[HKA.out] at hka'
         injection hka' with hka'
         injection hka' with e1 e2
         exact⟨e1,e2⟩
        obtain⟨rfl,rfl⟩:=hka'
        have ks:=HS.out w8 O2 _ ⟨by rw[←HRL.out];exact m8,bel8⟩
        unfold valT at ks
        have HEND:Hid (∀s2 c2 a2 w9,Told (8*szT n t - 2) (f t { s with labels:=s.labels++[(x.name,leadT n t)] }) { s with labels:=s.labels++[(x.name,leadT n t)] } 0 a s2 c2 a2→RWent w8 W0.heap.size wb O2 s2 c2 a2 (.slice (some ⟨g7,0,none⟩) (s.labels.length+1) cap7) w9→w9.cell? ⟨wb,5,none⟩=some (.slice (some ⟨g7,0,none⟩) (s.labels.length+1) cap7)∧w9.frozen? ⟨wb,5,none⟩=false∧P (.returned (.tuple #[])) (w9.setCell ⟨wb,5,none⟩ (.slice ad s.labels.length cap))):=fun s2 c2 a2 w9 ht hw=>by
         obtain⟨e1,e2,e3⟩:=lab_end HM.out.2.1.mem p1 p2 p3 p4 p5 hw
         refine⟨e1,e2,?_⟩
         rw[HP.out]
         refine⟨rfl,_,c2,a2,told_label HN.out ht,?_⟩
         rw[HV6.out.1] at e3 ⊢
         exact e3.behind HM.out.2.2.1
        have z5:=(HLB.out w7 hb7).1
        have zf:w7.frozen? ⟨wb,5,none⟩=false:=by rw[World.frozen?_of_block (w:=wn) (hb7.block wb HFR.out.2)];exact HFR.out.1
        clear hoB hgB hlB m8 p1 p2 p3 p4 p5 bel8 HON HAL HR6 HBX1 HSZ1 c5f hne5 hln c0' b2' c5' hb7
        clear HS HKD HLB HM HP HFR HV6 HA HKA HBG HNM HBE HF HRL HN HB2 HWR HRK
        go_upto_region 13 with fail
        rw[←hw8]
        clear hw8 z5 zf
        go_wp2_with fail
        refine ks.mono ?_
        rintro e w9 ⟨rfl,s2,c2,a2,ht,hw⟩
        obtain⟨y1,y2,y3⟩:=HEND.out s2 c2 a2 w9 ht hw
        have HE9:Hid (P (.returned (.tuple #[])) (w9.setCell ⟨wb,5,none⟩ (.slice ad s.labels.length cap))):=y3
        clear ks ht hw y3 HEND hX8 j0 j1 j2 j3 j4 j5
        go_wp2_with fail
        go_end0
        exact HE9.out
end Go.Proofs.YtihmdcdifakepaaGreat.Rv.Rx
