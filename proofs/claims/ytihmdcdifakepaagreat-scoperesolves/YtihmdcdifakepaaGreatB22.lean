/- ZI, NA, ZJ -/
import Derived.Test.YtihmdcdifakepaaGreatB21
import Derived.Test.YtihmdcdifakepaaGreatB20
import Derived.Deep.LoopGhost
set_option linter.unusedVariables false
set_option linter.unusedSimpArgs false
set_option maxRecDepth 100000
set_option maxHeartbeats 40000000
namespace Go.Proofs.YtihmdcdifakepaaGreat.Rv.Rx
open Go.RowKit Go.Proofs.YtihmdcdifakepaaGreat.Sc Go.Proofs.YtihmdcdifakepaaGreat.Rz
theorem each_one {α:Type}(f:α→RM)(t:α)(s:Rz.RS):eachP f [t] s=f t s:=by
 show(f t s).bind (eachP f [])=f t s
 cases f t s <;> rfl
theorem told_loop {α:Type}{k:Nat}{f:α→RM}{t:α}{s s2:Rz.RS}{c a c2 a2:Int}(h:Told k (f t { s with loops:=s.loops+1 }) { s with loops:=s.loops+1 } c a s2 c2 a2):Told k (loopP f [t] s) s c a { s2 with loops:=s2.loops - 1 } c2 a2:=by
 have hlp:=h.lk.loops
 simp only at hlp
 refine⟨⟨h.lk.blen,h.lk.fn,by show s2.loops - 1=s.loops;omega,h.lk.labels,h.lk.scs⟩,h.cr,fun hc => ?_,fun hc => ?_⟩
 ·obtain⟨e1,e2,e3⟩:=h.bad hc
  refine⟨?_,e2,e3⟩
  rw[e1]
  rfl
 ·have hg:=h.good hc
  unfold loopP
  rw[each_one]
  cases hf:f t { s with loops:=s.loops+1 } with
  | ok s3 =>
    rw[hf] at hg
    obtain⟨e1,e2⟩:=hg
    subst e1
    exact⟨rfl,e2⟩
  | error er =>
    rw[hf] at hg
    exact hg
theorem nd_went {w w':World}{B wb nb:Nat}{O:Nat→Prop}{s s1:Rz.RS}{c a c1 a1:Int}{v6 v6':Value}(h:RMem w B wb O s c a v6)(hn:w.heap.size≤nb){wn:World}(hb:Below w.heap.size w wn){x:Nd}{kv:Value}(hx:NdB nb x kv wn)(hw:RWent wn B wb O s1 c1 a1 v6' w'):NdB nb x kv w':=by
 obtain⟨O1,_,hc,_⟩:=hw
 unfold NdB
 rw[hc.block nb (Array.getElem?_eq_some_iff.1 hx).1 (fun q=>by have:=(h.lt nb q).2;omega)]
 exact hx
theorem loop_any (W0:World)(n:Nat)(hS:StC W0 n)(t:Tr n)(hok:okD n W0 t)(w:World)(wb:Nat)(O:Nat→Prop)(s:Rz.RS)(c a:Int)(v6:Value)(h:OnD W0 wb O s c a v6 w)(hb:cr s+8*szT n t≤lim+2)(hd:dp s+1+4*n≤lim)(hm:1≤s.blocks.length) :
  Calls Tryz.prog 38 #[.pointer (some ⟨wb,0,none⟩),valT n t] w (Tl w W0.heap.size wb O v6 (8*szT n t - 2) (loopP (resR bi n).2.1 [t] s) s c a):=by
 obtain⟨x,hx0⟩:∃x,x=ndT n t:=⟨_,rfl⟩
 obtain⟨kv,hkv⟩:∃kv,kv=Value.slice (atT n t) (nkT n t) (capT n t):=⟨_,rfl⟩
 have hval:valT n t = .agg #[.int .i64 x.kind,.int .i64 x.pl,.string x.name,.int .u64 x.num,.string x.op,kv]:=by unfold valT;rw[hx0,hkv]
 obtain⟨wn,hwn⟩:∃wn,wn=w.alloc (.cells #[.int .i64 x.kind,.int .i64 x.pl,.string x.name,.int .u64 x.num,.string x.op,kv] 25):=⟨_,rfl⟩
 have hbl:Below w.heap.size w wn:=by rw[hwn];exact below_new (Below.refl _ _) (Nat.le_refl _) _
 have hX:NdB w.heap.size x kv wn:=by rw[hwn];exact at_new _ _
 have hn:=h.below hbl
 have c6:=hn.mem.box.2.2.1
 have f6:=hn.mem.box.2.2.2.2.2 6
 have hl:(s.loops:Int)≤9223372036854775806:=by unfold dp lim at hd;omega
 have h1:=hn.mem.set6 (s.loops+1)
 have e1:((s.loops+1:Nat):Int)=(s.loops:Int)+1:=by omega
 rw[e1] at h1
 obtain⟨w1,hw1⟩:∃w1,w1=wn.setCell ⟨wb,6,none⟩ (.int .i64 ((s.loops:Int)+1)):=⟨_,rfl⟩
 rw[←hw1] at h1
 have hX1:=nd_went h.mem (Nat.le_refl _) hbl hX h1
 have b0:w1.cell? ⟨w.heap.size,0,none⟩=some (.int .i64 x.kind):=cell_of_row w1 _ 0 _ _ (0,0) hX1
 have b1:w1.cell? ⟨w.heap.size,1,none⟩=some (.int .i64 x.pl):=cell_of_row w1 _ 1 _ _ (0,0) hX1
 have b2:w1.cell? ⟨w.heap.size,2,none⟩=some (.string x.name):=cell_of_row w1 _ 2 _ _ (0,0) hX1
 have b3:w1.cell? ⟨w.heap.size,3,none⟩=some (.int .u64 x.num):=cell_of_row w1 _ 3 _ _ (0,0) hX1
 have b4:w1.cell? ⟨w.heap.size,4,none⟩=some (.string x.op):=cell_of_row w1 _ 4 _ _ (0,0) hX1
 have b5:w1.cell? ⟨w.heap.size,5,none⟩=some kv:=cell_of_row w1 _ 5 _ _ (0,0) hX1
 have ks:=relT hn h1 fun O1 o1=>hS t hok w1 wb O1 { s with loops:=s.loops+1 } c a v6 o1 hb (by unfold dp at *;simp only;omega) hm
 rw[hval] at ks ⊢
 have HEND:Hid (∀s2 c2 a2 w2,Told (8*szT n t - 2) ((resR bi n).2.1 t { s with loops:=s.loops+1 }) { s with loops:=s.loops+1 } c a s2 c2 a2→RWent wn W0.heap.size wb O s2 c2 a2 v6 w2→w2.cell? ⟨wb,6,none⟩=some (.int .i64 ((s.loops:Int)+1))∧w2.frozen? ⟨wb,6,none⟩=false∧Tl w W0.heap.size wb O v6 (8*szT n t - 2) (loopP (resR bi n).2.1 [t] s) s c a (.returned (.tuple #[])) (w2.setCell ⟨wb,6,none⟩ (.int .i64 (s.loops:Int)))):=fun s2 c2 a2 w2 ht hw=>by
  have hlp:=ht.lk.loops
  simp only at hlp
  obtain⟨O2,m2,g1,g2⟩:=hw
  have hbx:=m2.box.2.2.1
  rw[hlp,e1] at hbx
  refine⟨hbx,m2.box.2.2.2.2.2 6,rfl,_,c2,a2,told_loop ht,?_⟩
  have h3:=m2.set6 (s2.loops - 1)
  rw[show((s2.loops - 1:Nat):Int)=(s.loops:Int) by omega] at h3
  exact(rwent_then g1 g2 h3).behind hbl
 generalize Tl w W0.heap.size wb O v6 (8*szT n t - 2) (loopP (resR bi n).2.1 [t] s) s c a=P at *
 generalize hr:(resR bi n).2.1 t { s with loops:=s.loops+1 }=r at *
 clear h hb hd hm hS hok hX hn h1 hX1 hbl hval hkv hx0 e1 hr
 generalize x.kind=q0 at *
 generalize x.pl=q1 at *
 generalize x.name=q2 at *
 generalize x.num=q3 at *
 generalize x.op=q4 at *
 go_enter Tryz.func38,Tryz.ntmps38
 go_upto_region 1 with fail
 rw[←hwn]
 clear hwn
 go_upto_region 2 with fail
 rw[←hw1]
 clear hw1 c6 f6
 go_wp2_with fail
 refine ks.mono ?_
 rintro e w2 ⟨rfl,s2,c2,a2,ht,hw⟩
 obtain⟨d1,d2,d3⟩:=HEND.out s2 c2 a2 w2 ht hw
 have HE:Hid (P (.returned (.tuple #[])) (w2.setCell ⟨wb,6,none⟩ (.int .i64 (s.loops:Int)))):=d3
 clear ks ht hw d3 HEND b0 b1 b2 b3 b4 b5
 go_wp2_with fail
 go_end0
 exact HE.out
theorem jump_any (w:World)(B wb:Nat)(O:Nat→Prop)(s:Rz.RS)(a:Int)(v6:Value)(h:RMem w B wb O s 0 a v6)(x:Nd)(kv:Value) :
  Calls Tryz.prog 41 #[.pointer (some ⟨wb,0,none⟩),.agg #[.int .i64 x.kind,.int .i64 x.pl,.string x.name,.int .u64 x.num,.string x.op,kv]] w (Tl w B wb O v6 0 (jumpP x s) s 0 a):=by
 obtain⟨wn,hwn⟩:∃wn,wn=w.alloc (.cells #[.int .i64 x.kind,.int .i64 x.pl,.string x.name,.int .u64 x.num,.string x.op,kv] 25):=⟨_,rfl⟩
 have hbl:Below w.heap.size w wn:=by rw[hwn];exact below_new (Below.refl _ _) (Nat.le_refl _) _
 have hX:NdB w.heap.size x kv wn:=by rw[hwn];exact at_new _ _
 have b0:wn.cell? ⟨w.heap.size,0,none⟩=some (.int .i64 x.kind):=cell_of_row wn _ 0 _ _ (0,0) hX
 have b1:wn.cell? ⟨w.heap.size,1,none⟩=some (.int .i64 x.pl):=cell_of_row wn _ 1 _ _ (0,0) hX
 have b2:wn.cell? ⟨w.heap.size,2,none⟩=some (.string x.name):=cell_of_row wn _ 2 _ _ (0,0) hX
 have hm:=h.below hbl
 have HM:Hid (RMem wn B wb O s 0 a v6∧Below w.heap.size w wn):=⟨hm,hbl⟩
 have c6:=hm.box.2.2.1
 obtain⟨B1,hB1⟩:∃b:Bool,b=(if isS x.name [] then decide (0<s.loops) else s.labels.any fun e=>decide (e.1=x.name) && (e.2 || x.kind == 39)):=⟨_,rfl⟩
 have hJ:jumpP x s=if B1=true then .ok s else .error (x.pl,75):=by unfold jumpP;rw[hB1]
 obtain⟨P,hP⟩:∃P,P=Tl w B wb O v6 0 (jumpP x s) s 0 a:=⟨_,rfl⟩
 rw[←hP]
 have HOK:Hid (B1=true→∀W,Below wn.heap.size wn W→P (.returned (.tuple #[])) W):=fun q W hW=>by
  rw[hP,hJ,if_pos q]
  exact⟨rfl,s,0,a,Told.ok s 0 a,(RWent.same hm hW).behind hbl⟩
 have HBAD:Hid (B1=false→∀W,Below wn.heap.size wn W→∀w',RWent W B wb O s 75 x.pl v6 w'→P (.returned (.tuple #[])) w'):=fun q W hW w' hw=>by
  rw[hP,hJ,q,if_neg (by decide)]
  exact⟨rfl,s,75,x.pl,⟨Lk.refl s,by omega,fun e=>absurd rfl e,fun _=>⟨rfl,rfl,by decide⟩⟩,hw.behind (hbl.trans (hW.mono hbl.size))⟩
 have HF:Hid (∀W,Below wn.heap.size wn W→Calls Tryz.prog 34 #[.pointer (some ⟨wb,0,none⟩),.int .i64 x.pl,.int .i64 75] W fun r w'=>r = .returned (.tuple #[])∧RWent W B wb O s 75 x.pl v6 w'):=fun W hW=>fail_any W B wb O s a v6 (hm.below hW) x.pl 75
 by_cases hn:isS x.name []=true
 ·have hb:B1=decide (0<s.loops):=by rw[hB1,if_pos hn]
  have hne:(x.name.toList == [])=true:=hn
  clear h hX hm hB1 hJ hP HM hbl
  generalize x.kind=q0 at *
  generalize x.pl=q1 at *
  generalize x.name=q2 at *
  generalize x.num=q3 at *
  generalize x.op=q4 at *
  rcases Nat.eq_zero_or_pos s.loops with hl | hl
  ·have HB:Hid (B1=false):=by show _=_;rw[hb,hl];rfl
   rw[hl] at c6
   have kf:=HF.out wn (Below.refl _ _)
   clear hb hl HF HOK
   go_enter Tryz.func41,Tryz.ntmps41
   go_upto_region 1 with fail
   rw[←hwn]
   clear hwn
   go_wp2_with fail
   refine kf.mono ?_
   rintro e w1 ⟨rfl,hw⟩
   have HE:Hid (P (.returned (.tuple #[])) w1):=HBAD.out HB.out wn (Below.refl _ _) w1 hw
   clear kf hw HBAD
   go_wp2_with fail
   go_end0
   exact HE.out
  ·have HE:Hid (P (.returned (.tuple #[])) wn):=HOK.out (by rw[hb];simpa using hl) wn (Below.refl _ _)
   have hl2:((s.loops:Int) == 0)=false:=by simp;omega
   clear hb HF HOK HBAD hl
   go_enter Tryz.func41,Tryz.ntmps41
   go_upto_region 1 with fail
   rw[←hwn]
   clear hwn
   go_wp2_with fail
   go_end0
   exact HE.out
 ·have hb:B1=s.labels.any fun e=>decide (e.1=x.name) && (e.2 || x.kind == 39):=by rw[hB1,if_neg hn]
  have hne:(x.name.toList == [])=false:=(Bool.not_eq_true _).mp hn
  obtain⟨tg,M,hA,hgd,rfl,hO⟩:=hm
  have r6:RowIn lbC 2 103 B wn (fun b=>tg b=6) M.v6 s.labels:=hA.prt 6
  obtain⟨ad,cap,hv,l1,l2,hg⟩:=own_slice r6.1
  have c5:=hA.box.2.2.2.2.2.1
  rw[hv] at c5
  have HLB:Hid (∀W,Below wn.heap.size wn W→W.cell? ⟨wb,5,none⟩=some (.slice ad s.labels.length cap)∧W.cell? ⟨w.heap.size,0,none⟩=some (.int .i64 x.kind)∧W.cell? ⟨w.heap.size,1,none⟩=some (.int .i64 x.pl)∧W.cell? ⟨w.heap.size,2,none⟩=some (.string x.name)∧∀(i:Nat) (y:ByteArray×Bool),s.labels[i]?=some y→∃q,ad=some ⟨q,0,none⟩∧W.cell? ⟨q,i*2,none⟩=some (.string y.1)∧W.cell? ⟨q,i*2+1,none⟩=some (.bool y.2)):=fun W hW=>⟨Sc.cells_below hW _ _ c5,Sc.cells_below hW _ _ b0,Sc.cells_below hW _ _ b1,Sc.cells_below hW _ _ b2,fun i y hy=>by
   obtain⟨q,hq⟩:=hg (by intro e;rw[e] at hy;simp at hy)
   have h8:=r6.1
   rw[hv,hq] at h8
   obtain⟨_,_,_,_,_,s6,_⟩:=h8.read rxLb.len
   exact⟨q,hq,Sc.cells_below hW _ _ (s6 i y hy 0 _ rfl),Sc.cells_below hW _ _ (s6 i y hy 1 _ rfl)⟩⟩
  have hll:(s.labels.length:Int)≤9223372036854775807:=by unfold maxLen at l2;omega
  have HB:Hid (B1=s.labels.any fun e=>decide (e.1=x.name) && (e.2 || x.kind == 39)):=hb
  clear h hX hB1 hJ hP HM hbl hA hgd hO r6 hv l1 l2 hg hb hn c6 b0 b1
  generalize hk39:(x.kind == (39:Int))=k39 at *
  generalize x.kind=q0 at *
  generalize x.num=q3 at *
  generalize x.op=q4 at *
  generalize s.labels=LL at *
  go_enter Tryz.func41,Tryz.ntmps41
  go_upto_region 1 with fail
  rw[←hwn]
  clear hwn
  go_wp2_with fail
  go_loopw [4] (fun i wr=>∃k:Nat,Hid (k≤LL.length∧Below wn.heap.size wn wr∧(LL.take k).any (fun e=>decide (e.1=x.name) && (e.2 || k39))=false)∧i = .int .i64 (k:Int)) (fun i wr=>LL.length - (intOf i).toNat)
  case atStart=>exact⟨0,⟨Nat.zero_le _,Below.refl _ _,rfl⟩,rfl⟩
  case round =>
   obtain⟨k,HK,rfl⟩:=hrel
   clear c5 b2
   obtain⟨c5,b0,b1,b2,hlb⟩:=HLB.out wr HK.out.2.1
   rcases Nat.lt_or_ge k LL.length with cl | cl
   ·have hil:(k:Int)<LL.length:=by omega
    obtain⟨y,hy⟩:∃y,LL[k]?=some y:=⟨_,List.getElem?_eq_getElem cl⟩
    obtain⟨q,rfl,f0,f1⟩:=hlb k y hy
    have HY:Hid (LL[k]?=some y):=hy
    have HTK:Hid ((LL.take (k+1)).any (fun e=>decide (e.1=x.name) && (e.2 || k39))=(decide (y.1=x.name) && (y.2 || k39))):=by
     show _=_
     rw[List.take_add_one,hy,List.any_append,HK.out.2.2]
     simp
    have HYES:Hid ((decide (y.1=x.name) && (y.2 || k39))=true→B1=true):=fun q=>by
     rw[HB.out,List.any_eq_true]
     exact⟨y,List.mem_of_getElem? hy,q⟩
    have HOK2:Hid (B1=true→∀nq,P (.returned (.tuple #[])) (wr.drewN nq)):=fun q nq=>HOK.out q _ (Go.below_drewN HK.out.2.1 nq)
    clear hlb hy HLB HBAD HF HB HOK HY
    generalize hy2:y.2=yb at *
    cases t:(y.1.toList == x.name.toList)
    ·have HN:Hid ((LL.take (k+1)).any (fun e=>decide (e.1=x.name) && (e.2 || k39))=false):=by show _=_;rw[HTK.out,←str_eqD,t];rfl
     clear HTK HYES HOK2
     go_wp2_with fail
     go_quiet (fail)
     go_wp2_with fail
     refine⟨⟨k+1,⟨cl,Go.below_drewN HK.out.2.1 nq,HN.out⟩,by go_num⟩,?_⟩
     simp[intOf]
     omega
    ·cases k39 with
     | false =>
       cases yb with
       | false =>
         have HN:Hid ((LL.take (k+1)).any (fun e=>decide (e.1=x.name) && (e.2 || false))=false):=by show _=_;rw[HTK.out,←str_eqD,t];rfl
         clear HTK HYES HOK2
         go_wp2_with fail
         go_quiet (fail)
         go_wp2_with fail
         refine⟨⟨k+1,⟨cl,Go.below_drewN HK.out.2.1 nq,HN.out⟩,by go_num⟩,?_⟩
         simp[intOf]
         omega
       | true =>
         have HE:Hid (∀nq,P (.returned (.tuple #[])) (wr.drewN nq)):=HOK2.out (HYES.out (by rw[←str_eqD,t];rfl))
         clear HTK HYES HOK2
         go_wp2_with fail
         go_quiet (fail)
         go_wp2_with fail
         go_end0
         exact HE.out nq
     | true =>
       have HE:Hid (∀nq,P (.returned (.tuple #[])) (wr.drewN nq)):=HOK2.out (HYES.out (by rw[←str_eqD,t];simp))
       clear HTK HYES HOK2
       go_wp2_with fail
       go_quiet (fail)
       go_wp2_with fail
       go_end0
       exact HE.out nq
   ·have hil:¬(k:Int)<LL.length:=by omega
    have HN:Hid (B1=false):=by show _=_;rw[HB.out];have:=HK.out.2.2;rwa [List.take_of_length_le cl] at this
    have kf:=HF.out wr HK.out.2.1
    clear hlb HLB HF HB HOK
    go_wp2_with fail
    refine kf.mono ?_
    rintro e w1 ⟨rfl,hw⟩
    have HE:Hid (P (.returned (.tuple #[])) w1):=HBAD.out HN.out wr HK.out.2.1 w1 hw
    clear kf hw HBAD
    go_wp2_with fail
    go_end0
    exact HE.out
end Go.Proofs.YtihmdcdifakepaaGreat.Rv.Rx
namespace Go.Proofs.YtihmdcdifakepaaGreat.Rv
open Go.RowKit Go.Proofs.YtihmdcdifakepaaGreat.Sc Go.Proofs.YtihmdcdifakepaaGreat.Rz
def loopB (k:Int):Bool:=decide (36≤k) && decide (k≤38)
theorem isLoop_any (k:Int)(w:World):Calls Tryz.prog 101 #[.int .i64 k] w fun e w'=>e = .returned (.bool (loopB k))∧w'=w:=by
 obtain⟨R,hR⟩:∃R,R=loopB k:=⟨_,rfl⟩
 rw[←hR]
 unfold loopB at hR
 by_cases c1:k=36
 ·subst c1
  have:R=true:=by rw[hR];rfl
  subst this
  clear hR
  go_enter Tryz.func101,Tryz.ntmps101
  go_wp2_with fail
  go_ret
  exact⟨rfl,rfl⟩
 by_cases c2:k=37
 ·subst c2
  have:R=true:=by rw[hR];rfl
  subst this
  clear hR
  go_enter Tryz.func101,Tryz.ntmps101
  go_wp2_with fail
  go_ret
  exact⟨rfl,rfl⟩
 have hR2:R=(k == 38):=by
  rw[hR]
  by_cases c3:k=38
  ·subst c3;rfl
  ·rw[show(k == 38)=false by simpa using c3]
   simp
   omega
 have h1:(k == (36:Int))=false:=by simpa using c1
 have h2:(k == (37:Int))=false:=by simpa using c2
 subst hR2
 clear hR
 go_enter Tryz.func101,Tryz.ntmps101
 go_wp2_with fail
 go_ret
 exact⟨rfl,rfl⟩
structure LdAt (W0:World)(w:World)(r:Bool)(g:Nat)(wr:World):Prop where
 bel:Below w.heap.size w wr
 at':∃t:Tr g,okF g W0 t∧leadT g t=r∧wr.heap[w.heap.size]?=some (.cells #[.int .i64 (ndT g t).kind,.int .i64 (ndT g t).pl,.string (ndT g t).name,.int .u64 (ndT g t).num,.string (ndT g t).op,.slice (atT g t) (nkT g t) (capT g t)] 25 (0,0))
theorem lead_any (W0:World)(n:Nat)(t:Tr n)(ht:okF n W0 t)(w:World)(hb:Below W0.heap.size W0 w) :
  Calls Tryz.prog 96 #[valT n t] w fun e w'=>e = .returned (.bool (leadT n t))∧Below w.heap.size w w':=by
 obtain⟨wb,hwb⟩:∃wb,wb=w.alloc (.cells #[.int .i64 (ndT n t).kind,.int .i64 (ndT n t).pl,.string (ndT n t).name,.int .u64 (ndT n t).num,.string (ndT n t).op,.slice (atT n t) (nkT n t) (capT n t)] 25):=⟨_,rfl⟩
 have hbl:Below w.heap.size w wb:=by rw[hwb];exact below_new (Below.refl _ _) (Nat.le_refl _) _
 have HS:Hid (LdAt W0 w (leadT n t) n wb):=⟨hbl,t,ht,rfl,by rw[hwb];exact at_new _ _⟩
 have HW0:Hid (Below W0.heap.size W0 w):=hb
 unfold valT
 generalize leadT n t=R at *
 generalize (ndT n t).kind=q0 at *
 generalize (ndT n t).pl=q1 at *
 generalize (ndT n t).name=q2 at *
 generalize (ndT n t).num=q3 at *
 generalize (ndT n t).op=q4 at *
 generalize atT n t=q5 at *
 generalize nkT n t=q6 at *
 generalize capT n t=q7 at *
 clear hbl ht hb
 go_enter Tryz.func96,Tryz.ntmps96
 go_upto_region 1 with fail
 rw[←hwb]
 clear hwb
 go_loopg [5] n (fun g p wr=>Hid (LdAt W0 w R g wr))
 case atStart=>exact HS
 case round =>
  clear HS
  have HE:=hrel
  clear hrel
  obtain⟨t1,ht1,hl1,hbx⟩:=HE.out.at'
  have HBE:Hid (Below w.heap.size w wr):=HE.out.bel
  cases gk with
  | zero=>exact nomatch (t1:Empty)
  | succ g =>
    obtain⟨x,sl⟩:=t1
    have c0:wr.cell? ⟨w.heap.size,0,none⟩=some (.int .i64 x.kind):=by rw[cell_of_row wr _ 0 _ 25 (0,0) hbx];rfl
    have c5:wr.cell? ⟨w.heap.size,5,none⟩=some (.slice sl.at' sl.xs.length sl.cap):=by rw[cell_of_row wr _ 5 _ 25 (0,0) hbx];rfl
    have HF:Hid (wr.heap[w.heap.size]?=some (.cells #[.int .i64 x.kind,.int .i64 x.pl,.string x.name,.int .u64 x.num,.string x.op,.slice sl.at' sl.xs.length sl.cap] 25 (0,0))):=hbx
    have hfz:∀j,wr.frozen? ⟨w.heap.size,j,none⟩=false:=fun j=>frozen_of_row wr _ j _ 25 hbx
    have d1:wr.cell? ⟨w.heap.size,1,none⟩=some (.int .i64 x.pl):=by rw[cell_of_row wr _ 1 _ 25 (0,0) hbx];rfl
    have d2:wr.cell? ⟨w.heap.size,2,none⟩=some (.string x.name):=by rw[cell_of_row wr _ 2 _ 25 (0,0) hbx];rfl
    have d3:wr.cell? ⟨w.heap.size,3,none⟩=some (.int .u64 x.num):=by rw[cell_of_row wr _ 3 _ 25 (0,0) hbx];rfl
    have d4:wr.cell? ⟨w.heap.size,4,none⟩=some (.string x.op):=by rw[cell_of_row wr _ 4 _ 25 (0,0) hbx];rfl
    by_cases ck:x.kind=41
    ·have hlen:1≤sl.xs.length:=ht1.2.1 (by omega)
     obtain⟨y,b,off,k1,k2,x0,x1,x2,x3,x4,x5⟩:=kid_at (ht1.1.2.1.kept (Sc.cells_below (HW0.out.trans (HBE.out.mono HW0.out.size)))) (k:=0) (by omega)
     have hy:okF g W0 y∧leadT g y=R:=by
      refine⟨⟨ht1.1.2.2 y (List.mem_of_getElem? k2),ht1.2.2.2.2 y (List.mem_of_getElem? k2)⟩,?_⟩
      rw[←hl1]
      show leadT g y=if x.kind=41 then ((sl.xs[0]?).map (leadT g)).getD false else _
      rw[if_pos ck,k2]
      rfl
     have HY:Hid (okF g W0 y∧leadT g y=R):=hy
     have f0:=hfz 0
     have f1:=hfz 1
     have f2:=hfz 2
     have f3:=hfz 3
     have f4:=hfz 4
     have f5:=hfz 5
     have HNX:Hid (LdAt W0 w R g ((((((wr.setCell ⟨w.heap.size,0,none⟩ (.int .i64 (ndT g y).kind)).setCell ⟨w.heap.size,1,none⟩ (.int .i64 (ndT g y).pl)).setCell ⟨w.heap.size,2,none⟩ (.string (ndT g y).name)).setCell ⟨w.heap.size,3,none⟩ (.int .u64 (ndT g y).num)).setCell ⟨w.heap.size,4,none⟩ (.string (ndT g y).op)).setCell ⟨w.heap.size,5,none⟩ (.slice (atT g y) (nkT g y) (capT g y)))):=by
      have s0:=heap_setCell_same wr w.heap.size 0 _ 25 (.int .i64 (ndT g y).kind) HF.out
      have s1:=heap_setCell_same _ w.heap.size 1 _ 25 (.int .i64 (ndT g y).pl) s0
      have s2:=heap_setCell_same _ w.heap.size 2 _ 25 (.string (ndT g y).name) s1
      have s3:=heap_setCell_same _ w.heap.size 3 _ 25 (.int .u64 (ndT g y).num) s2
      have s4:=heap_setCell_same _ w.heap.size 4 _ 25 (.string (ndT g y).op) s3
      have s5:=heap_setCell_same _ w.heap.size 5 _ 25 (.slice (atT g y) (nkT g y) (capT g y)) s4
      have hq:w.heap.size≤(⟨w.heap.size,0,none⟩:Addr).block:=Nat.le_refl _
      exact⟨(((((HBE.out.setCell (p:=⟨w.heap.size,0,none⟩) hq _).setCell (p:=⟨w.heap.size,1,none⟩) hq _).setCell (p:=⟨w.heap.size,2,none⟩) hq _).setCell (p:=⟨w.heap.size,3,none⟩) hq _).setCell (p:=⟨w.heap.size,4,none⟩) hq _).setCell (p:=⟨w.heap.size,5,none⟩) hq _,y,HY.out.1,HY.out.2,s5⟩
     obtain⟨m,hm⟩:∃m,sl.xs.length=m+1:=⟨sl.xs.length - 1,by omega⟩
     have hml:(0:Int)<(m:Int)+1:=by omega
     rw[k1,hm] at c5
     rw[ck] at c0
     simp only[Nat.zero_mul,Nat.add_zero] at x0 x1 x2 x3 x4 x5
     clear hbx hfz ht1 hl1 HE hy HF HY hlen k2 hm k1 ck
     generalize (ndT g y).kind=r0 at *
     generalize (ndT g y).pl=r1 at *
     generalize (ndT g y).name=r2 at *
     generalize (ndT g y).num=r3 at *
     generalize (ndT g y).op=r4 at *
     generalize atT g y=r5 at *
     generalize nkT g y=r6 at *
     generalize capT g y=r7 at *
     go_wp2_with fail
     go_roundg g
     case measure=>omega
     case rel=>exact HNX
    ·have hck:(x.kind == (41:Int))=false:=by simpa using ck
     have hR:R=loopB x.kind:=by
      rw[←hl1]
      show(if x.kind=41 then ((sl.xs[0]?).map (leadT g)).getD false else _)=_
      rw[if_neg ck]
      rfl
     have ki:=isLoop_any x.kind wr
     rw[←hR] at ki
     clear hbx hfz ht1 hl1 HE HF hR d1 d2 d3 d4 c5 ck
     generalize x.kind=kd at *
     go_wp2_with fail
     refine ki.mono ?_
     rintro e w1 ⟨rfl,rfl⟩
     clear ki
     go_wp2_with fail
     go_ret
     exact⟨rfl,HBE.out⟩
end Go.Proofs.YtihmdcdifakepaaGreat.Rv
namespace Go.Proofs.YtihmdcdifakepaaGreat.Rv.Rx
open Go.RowKit Go.Proofs.YtihmdcdifakepaaGreat.Sc Go.Proofs.YtihmdcdifakepaaGreat.Rz
section
variable {w w' w5:World}{B wb:Nat}{O O' S:Nat→Prop}{s s':Rz.RS}{c a:Int}{M:DV}{tg:Nat→Nat}{v6:Value}
theorem At.lab (hA:At w B wb tg s c a M)(hb:Below w.heap.size w w5){v':Value}{xs':List (ByteArray×Bool)}(ho:OwnR lbC 2 103 B w5 v' xs')(hat:∀b,v'.ownBlock=some b→w.heap.size≤b) :
  ∃t':Nat→Nat,At (w5.setCell ⟨wb,5,none⟩ v') B wb t' { s with labels:=xs' } c a { M with v6:=v' }∧Chg (fun b=>tg b=1) w (w5.setCell ⟨wb,5,none⟩ v')∧(∀b,t' b≠0→tg b≠0∨w.heap.size≤b)∧(∀b,M.v6.ownBlock=some b→t' b=0)∧OwnR lbC 2 103 B (w5.setCell ⟨wb,5,none⟩ v') M.v6 s.labels∧∀b,M.v6.ownBlock=some b→tg b=6:=by
 have r6:RowIn lbC 2 103 B w (fun b=>tg b=6) M.v6 s.labels:=hA.prt 6
 have hB:=hA.B0
 have hcs:Chg (fun b=>b=wb) w5 (w5.setCell ⟨wb,5,none⟩ v'):=Chg.set w5 _ _ rfl
 have hall:Chg (fun b=>tg b=1) w (w5.setCell ⟨wb,5,none⟩ v'):=(Chg.of_below (S:=fun b=>tg b=1) hb).trans (Chg.set (S:=fun b=>tg b=1) w5 _ v' hB.1) (fun _ _ q=>q)
 have hsz:(w5.setCell ⟨wb,5,none⟩ v').heap.size=w5.heap.size:=by simp
 let t':Nat→Nat:=fun b=>if b<w.heap.size then (if tg b=6 then 0 else tg b) else if b<w5.heap.size then 6 else 0
 have told:∀b,b<w.heap.size→tg b≠6→t' b=tg b:=fun b q1 q2=>by show(if _ then _ else _)=_;rw[if_pos q1,if_neg q2]
 have t6:∀b,b<w.heap.size→tg b=6→t' b=0:=fun b q1 q2=>by show(if _ then _ else _)=_;rw[if_pos q1,if_pos q2]
 have tnew:∀b,w.heap.size≤b→b<w5.heap.size→t' b=6:=fun b q1 q2=>by show(if _ then _ else _)=_;rw[if_neg (by omega),if_pos q2]
 have tno:∀b,w5.heap.size≤b→t' b=0:=fun b q=>by have:=hb.size;show(if _ then _ else _)=_;rw[if_neg (by omega),if_neg (by omega)]
 have keep:∀j,j≠1→j≠6→Prt (w5.setCell ⟨wb,5,none⟩ v') B wb s c a M (fun b=>t' b=j) j:=fun j n1 n6=>by
  cases j with
  | zero=>trivial
  | succ j =>
    refine Prt.mono _ (Prt.kept (O:=fun b=>tg b=j+1∧b<w.heap.size) _ (Prt.mono _ (hA.prt (j+1)) (fun b hb q=>⟨q,hb⟩)) hall (fun b q e => ?_)) (fun b _ q => ?_)
    ·have e:tg b=1:=e
     have:=q.1
     omega
    ·exact(told b q.2 (by have:=q.1;omega)).trans q.1
 have hold:∀(j':Nat) (W:World) (O':Nat→Prop),j'≠1→j'≠6→Prt W B wb s c a M O' j'→Prt W B wb { s with labels:=xs' } c a { M with v6:=v' } O' j':=Prt.hold 6 (fun _=>⟨rfl,rfl⟩) (fun _=>⟨rfl,rfl⟩) (fun _=>⟨rfl,rfl⟩) (fun _=>⟨rfl,rfl⟩) (fun q=>absurd rfl q) (fun j v b _ x1 x2=>Or.inl ⟨x1,x2⟩)
 have hAt:At (w5.setCell ⟨wb,5,none⟩ v') B wb t' { s with labels:=xs' } c a { M with v6:=v' }:=by
  refine⟨fun j => ?_,fun b q => ?_,hA.len⟩
  ·by_cases e1:j=1
   ·subst e1
    refine⟨(told wb hB.2.1 (by omega)).trans hB.1,?_⟩
    have hbox5:w5.heap[wb]?=_:=(hb.block wb hB.2.1).trans (hA.prt 1).2
    rw[heap_setCell_same w5 wb 5 _ 51 v' hbox5]
    rfl
   ·by_cases e6:j=6
    ·subst e6
     exact⟨ho.set (fun b q e=>by have e:b=wb:=e;have:=hat b q;omega) _,fun b q=>tnew b (hat b q) (ho.lt b q).2⟩
    ·exact hold j _ _ e1 e6 (keep j e1 e6)
  ·rcases Nat.lt_or_ge b w.heap.size with cb | cb
   ·by_cases e:tg b=6
    ·exact absurd (t6 b cb e) q
    ·rw[told b cb e] at q
     have:=hA.lt b q
     have:=hall.size
     omega
   ·rcases Nat.lt_or_ge b w5.heap.size with c2 | c2
    ·rw[hsz];omega
    ·exact absurd (tno b c2) q
 refine⟨t',hAt,hall,fun b q => ?_,fun b q=>t6 b (r6.1.lt b q).2 (r6.2 b q),r6.1.kept hall (fun b q e=>by have h1:=r6.2 b q;have e:tg b=1:=e;omega),r6.2⟩
 rcases Nat.lt_or_ge b w.heap.size with cb | cb
 ·by_cases e:tg b=6
  ·exact absurd (t6 b cb e) q
  ·exact Or.inl (by rw[told b cb e] at q;exact q)
 ·exact Or.inr cb
theorem RMem.lab (h:RMem w B wb O s c a v6)(hb:Below w.heap.size w w5){v':Value}{xs':List (ByteArray×Bool)}(ho:OwnR lbC 2 103 B w5 v' xs')(hat:∀b,v'.ownBlock=some b→w.heap.size≤b) :
  ∃O',RMem (w5.setCell ⟨wb,5,none⟩ v') B wb O' { s with labels:=xs' } c a v'∧Chg O w (w5.setCell ⟨wb,5,none⟩ v')∧(∀b,O' b→O b∨w.heap.size≤b)∧(∀b,v6.ownBlock=some b→¬O' b)∧OwnR lbC 2 103 B (w5.setCell ⟨wb,5,none⟩ v') v6 s.labels∧∀b,v6.ownBlock=some b→O b:=by
 obtain⟨tg,M,hA,hgd,rfl,hO⟩:=h
 obtain⟨t',h1,h2,h3,h4,h5,h6⟩:=hA.lab hb ho hat
 exact⟨fun b=>t' b≠0,⟨t',_,h1,⟨hgd.fnl,hgd.blk,hgd.wf,hgd.few,hgd.scl⟩,rfl,fun b=>Iff.rfl⟩,h2.mono (fun b q=>(hO b).2 (by omega)),fun b q=>(h3 b q).imp (fun q=>(hO b).2 q) id,fun b q q2=>q2 (h4 b q),h5,fun b q=>(hO b).2 (by have:=h6 b q;omega)⟩
theorem RMem.back (h:RMem w B wb O s c a v6){v':Value}{xs':List (ByteArray×Bool)}(ho:OwnR lbC 2 103 B w v' xs')(hat:∀b,v'.ownBlock=some b→¬O b) :
  ∃O',RMem (w.setCell ⟨wb,5,none⟩ v') B wb O' { s with labels:=xs' } c a v'∧Chg O w (w.setCell ⟨wb,5,none⟩ v')∧(∀b,O' b→O b∨v'.ownBlock=some b):=by
 obtain⟨tg,M,hA,hgd,rfl,hO⟩:=h
 have hB:=hA.B0
 have hz:∀b,v'.ownBlock=some b→tg b=0:=fun b q=>by
  have:=hat b q
  rw[hO] at this
  omega
 have hall:Chg (fun b=>tg b=1) w (w.setCell ⟨wb,5,none⟩ v'):=Chg.set (S:=fun b=>tg b=1) w _ v' hB.1
 have hsz:(w.setCell ⟨wb,5,none⟩ v').heap.size=w.heap.size:=by simp
 let t':Nat→Nat:=fun b=>if v'.ownBlock=some b then 6 else if tg b=6 then 0 else tg b
 have t1:∀b,v'.ownBlock=some b→t' b=6:=fun b q=>by show(if _ then _ else _)=_;rw[if_pos q]
 have t2:∀b,¬v'.ownBlock=some b→tg b≠6→t' b=tg b:=fun b q q2=>by show(if _ then _ else _)=_;rw[if_neg q,if_neg q2]
 have t3:∀b,¬v'.ownBlock=some b→tg b=6→t' b=0:=fun b q q2=>by show(if _ then _ else _)=_;rw[if_neg q,if_pos q2]
 have keep:∀j,j≠1→j≠6→Prt (w.setCell ⟨wb,5,none⟩ v') B wb s c a M (fun b=>t' b=j) j:=fun j n1 n6=>by
  cases j with
  | zero=>trivial
  | succ j =>
    refine Prt.mono _ (Prt.kept (O:=fun b=>tg b=j+1) _ (hA.prt (j+1)) hall (fun b q e => ?_)) (fun b _ q => ?_)
    ·have e:tg b=1:=e
     omega
    ·exact(t2 b (fun e=>by have:=hz b e;omega) (by have q:tg b=j+1:=q;omega)).trans q
 have hold:∀(j':Nat) (W:World) (O':Nat→Prop),j'≠1→j'≠6→Prt W B wb s c a M O' j'→Prt W B wb { s with labels:=xs' } c a { M with v6:=v' } O' j':=Prt.hold 6 (fun _=>⟨rfl,rfl⟩) (fun _=>⟨rfl,rfl⟩) (fun _=>⟨rfl,rfl⟩) (fun _=>⟨rfl,rfl⟩) (fun q=>absurd rfl q) (fun j v b _ x1 x2=>Or.inl ⟨x1,x2⟩)
 have hwb:¬v'.ownBlock=some wb:=fun e=>by have:=hz wb e;omega
 have hAt:At (w.setCell ⟨wb,5,none⟩ v') B wb t' { s with labels:=xs' } c a { M with v6:=v' }:=by
  refine⟨fun j => ?_,fun b q => ?_,hA.len⟩
  ·by_cases e1:j=1
   ·subst e1
    refine⟨(t2 wb hwb (by omega)).trans hB.1,?_⟩
    rw[heap_setCell_same w wb 5 _ 51 v' (hA.prt 1).2]
    rfl
   ·by_cases e6:j=6
    ·subst e6
     exact⟨ho.set (fun b q e=>by have e:b=wb:=e;rw[e] at q;exact hwb q) _,fun b q=>t1 b q⟩
    ·exact hold j _ _ e1 e6 (keep j e1 e6)
  ·by_cases e:v'.ownBlock=some b
   ·rw[hsz];exact ho.lt b e
   ·by_cases e6:tg b=6
    ·exact absurd (t3 b e e6) q
    ·rw[t2 b e e6] at q
     rw[hsz]
     exact hA.lt b q
 refine⟨fun b=>t' b≠0,⟨t',_,hAt,⟨hgd.fnl,hgd.blk,hgd.wf,hgd.few,hgd.scl⟩,rfl,fun b=>Iff.rfl⟩,hall.mono (fun b q=>(hO b).2 (by omega)),fun b q => ?_⟩
 by_cases e:v'.ownBlock=some b
 ·exact Or.inr e
 ·by_cases e6:tg b=6
  ·exact absurd (t3 b e e6) q
  ·exact Or.inl ((hO b).2 (by have q:t' b≠0:=q;rw[t2 b e e6] at q;exact q))
theorem lab_end {w8 w9:World}{O2:Nat→Prop}{s2:Rz.RS}{c2 a2:Int}{vB:Value}(h:RMem w B wb O s c a v6)(h1:Chg O w w8)(h2:∀b,O2 b→O b∨w.heap.size≤b)(h3:∀b,v6.ownBlock=some b→¬O2 b)(h4:OwnR lbC 2 103 B w8 v6 s.labels)(h5:∀b,v6.ownBlock=some b→O b)(hw:RWent w8 B wb O2 s2 c2 a2 vB w9) :
  w9.cell? ⟨wb,5,none⟩=some vB∧w9.frozen? ⟨wb,5,none⟩=false∧RWent w B wb O { s2 with labels:=s.labels } c2 a2 v6 (w9.setCell ⟨wb,5,none⟩ v6):=by
 obtain⟨O3,m3,k1,k2⟩:=hw
 have h6:OwnR lbC 2 103 B w9 v6 s.labels:=h4.kept k1 h3
 obtain⟨O4,m4,j1,j2⟩:=m3.back h6 (fun b q q3=>by
  rcases k2 b q3 with z | z
  ·exact h3 b q z
  ·have:=(h4.lt b q).2;omega)
 have hc1:Chg O w w9:=h1.trans k1 (fun i hi q=>by
  rcases h2 i q with z | z
  ·exact z
  ·omega)
 have hO3:∀b,O3 b→O b∨w.heap.size≤b:=fun b q=>by
  rcases k2 b q with z | z
  ·exact h2 b z
  ·exact Or.inr (Nat.le_trans h1.size z)
 refine⟨m3.box.2.1,m3.box.2.2.2.2.2 5,O4,m4,hc1.trans j1 (fun i hi q => ?_),fun b q => ?_⟩
 ·rcases hO3 i q with z | z
  ·exact z
  ·omega
 ·rcases j2 b q with z | z
  ·exact hO3 b z
  ·exact Or.inl (h5 b z)
end
end Go.Proofs.YtihmdcdifakepaaGreat.Rv.Rx
