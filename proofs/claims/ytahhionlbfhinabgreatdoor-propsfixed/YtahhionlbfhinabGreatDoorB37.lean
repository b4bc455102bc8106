/- KG, XC, YK, XE, XF, XG -/
import Derived.Test.YtahhionlbfhinabGreatDoorB14
import Derived.Laws.IdiomStrings
import Derived.Test.YtahhionlbfhinabGreatDoorB36
import Derived.Test.YtahhionlbfhinabGreatDoorB15
import Derived.Test.YtahhionlbfhinabGreatDoorB35
import Derived.Test.YtahhionlbfhinabGreatDoorB27
import Derived.Test.YtahhionlbfhinabGreatDoorB32
import Derived.Test.YtahhionlbfhinabGreatDoorB33
import Derived.Test.YtahhionlbfhinabGreatDoorYM
import Derived.Test.YtahhionlbfhinabGreatDoorB34
import Derived.Test.YtahhionlbfhinabGreatDoorXA
import Derived.Test.YtahhionlbfhinabGreatDoorB31
import Derived.Test.YtahhionlbfhinabGreatDoorB16
set_option linter.unusedVariables false
set_option linter.unusedSimpArgs false
set_option maxRecDepth 100000
set_option maxHeartbeats 40000000
namespace Go.Proofs.YtahhionlbfhinabGreatDoor.Hp
open Go.RowKit
def baS (l:List UInt8):ByteArray:=⟨l.toArray⟩
theorem baS_app (l m:List UInt8):baS l++baS m=baS (l++m):=by
 apply ByteArray.ext
 show _=(l++m).toArray
 rw[ByteArray.data_append]
 simp[baS]
theorem dg_len:∀(f n:Nat),(dgF f n).length≤f+1
 | 0,n=>by simp[dgF]
 | f+1,n=>by
   unfold dgF
   split
   ·simp
   ·have:=dg_len f (n / 10)
    rw[List.length_append]
    simp
    omega
theorem conv_one (W:World)(g:Nat)(d:UInt8)(z:Int)(hz:z=(d.toNat:Int))(h:W.heap[g]?=some (.cells #[.int .u8 z] 5 (0,0))):(convert 181 9 (.slice (some ⟨g,0,none⟩) 1 1)).run Tryz.prog W = .ok (.string (baS [d])) W:=by
 refine run_convert_bytes_back (P:=Tryz.prog) W 181 9 5 ⟨g,0,none⟩ 1 [d] Tryz.underlying181 Tryz.underlying5 Tryz.underlying9 (fun j hj => ?_)
 obtain rfl:j=0:=by simp at hj;omega
 show W.cell? ⟨g,0,none⟩=_
 rw[cell_of_row W g 0 _ _ (0,0) h,hz]
 rfl
theorem digits_any:∀(f n:Nat)(w:World),f≤4→n<10 ^ (f+1)→Calls Tryz.prog 104 #[.int .i64 (n:Int)] w fun e w'=>e = .returned (.string (baS (dgF f n)))∧Below w.heap.size w w':=by
 intro f
 induction f with
 | zero =>
   intro n w hf hn
   have hn:n<10:=by simpa using hn
   have e:dgF 0 n=[UInt8.ofNat (48+n)]:=by unfold dgF;rw[Nat.mod_eq_of_lt hn]
   rw[e]
   have hcv:=conv_one (w.alloc (.cells #[.int .u8 (48+(n:Int))] 5)) w.heap.size (UInt8.ofNat (48+n)) (48+(n:Int)) (by rw[ofn n hn];omega) (at_new _ _)
   have HB:Hid (Below w.heap.size w (w.alloc (.cells #[.int .u8 (48+(n:Int))] 5))):=(Below.refl _ _).alloc (Nat.le_refl _) _
   have h1:(n:Int)<10:=by omega
   clear hn hf e
   generalize baS [UInt8.ofNat (48+n)]=R0 at *
   go_enter Tryz.func104,Tryz.ntmps104
   go_wp2_with fail
   go_ret
   exact⟨rfl,HB.out⟩
 | succ f ih =>
   intro n w hf hn
   have hn5:n<100000:=Nat.lt_of_lt_of_le hn (by have:=Nat.pow_le_pow_right (n:=10) (by omega) (show f+1+1≤5 by omega);omega)
   by_cases c:n<10
   ·have e:dgF (f+1) n=[UInt8.ofNat (48+n)]:=by unfold dgF;rw[if_pos c]
    rw[e]
    have hcv:=conv_one (w.alloc (.cells #[.int .u8 (48+(n:Int))] 5)) w.heap.size (UInt8.ofNat (48+n)) (48+(n:Int)) (by rw[ofn n c];omega) (at_new _ _)
    have HB:Hid (Below w.heap.size w (w.alloc (.cells #[.int .u8 (48+(n:Int))] 5))):=(Below.refl _ _).alloc (Nat.le_refl _) _
    have h1:(n:Int)<10:=by omega
    clear hn hf e c ih
    generalize baS [UInt8.ofNat (48+n)]=R0 at *
    go_enter Tryz.func104,Tryz.ntmps104
    go_wp2_with fail
    go_ret
    exact⟨rfl,HB.out⟩
   ·have e:dgF (f+1) n=dgF f (n / 10)++[UInt8.ofNat (48+n % 10)]:=by rw[dgF];rw[if_neg c]
    have h2:n / 10<10 ^ (f+1):=by
     rw[Nat.pow_succ] at hn
     exact Nat.div_lt_of_lt_mul (by omega)
    obtain⟨q,hq⟩:∃q:Int,q=((n / 10:Nat):Int):=⟨_,rfl⟩
    obtain⟨m,hm⟩:∃m:Int,m=((n % 10:Nat):Int):=⟨_,rfl⟩
    obtain⟨z,hz⟩:∃z:Int,z=48+m:=⟨_,rfl⟩
    have hm10:n % 10<10:=Nat.mod_lt _ (by omega)
    have w1:IntKind.i64.wrap ((n:Int) / 10)=q:=by rw[IntKind.wrap_i64];omega
    have w2:(n:Int).tmod 10=m:=by rw[Int.tmod_eq_emod_of_nonneg (by omega)];omega
    have w3:IntKind.i64.wrap (48+m)=z:=by rw[IntKind.wrap_i64];omega
    have w4:IntKind.u8.wrap z=z:=by rw[IntKind.wrap_u8];omega
    have kd:∀W:World,Calls Tryz.prog 104 #[.int .i64 q] W fun e w'=>e = .returned (.string (baS (dgF f (n / 10))))∧Below W.heap.size W w':=fun W=>by rw[hq];exact ih (n / 10) W (by omega) h2
    have HC:Hid (∀(W:World) (g:Nat),W.heap[g]?=some (.cells #[.int .u8 z] 5 (0,0))→(convert 181 9 (.slice (some ⟨g,0,none⟩) 1 1)).run Tryz.prog W = .ok (.string (baS [UInt8.ofNat (48+n % 10)])) W):=fun W g h=>conv_one W g _ _ (by rw[ofn _ hm10];omega) h
    have hcv:∀W:World,(convert 181 9 (.slice (some ⟨W.heap.size,0,none⟩) 1 1)).run Tryz.prog (W.alloc (.cells #[.int .u8 z] 5)) = .ok (.string (baS [UInt8.ofNat (48+n % 10)])) (W.alloc (.cells #[.int .u8 z] 5)):=fun W=>HC.out _ _ (at_new _ _)
    have hcvD:∀W:World,(convert 181 9 (.slice (some ⟨W.heap.size,0,none⟩) 1 1)).run Tryz.prog (W.alloc (.cells #[.int .u8 z] 5)).drew = .ok (.string (baS [UInt8.ofNat (48+n % 10)])) (W.alloc (.cells #[.int .u8 z] 5)).drew:=fun W=>HC.out _ _ (at_new _ _)
    have HE:Hid (baS (dgF (f+1) n)=baS (dgF f (n / 10))++baS [UInt8.ofNat (48+n % 10)]):=by show _=_;rw[baS_app,e]
    have h1:¬(n:Int)<10:=by omega
    have z1:((baS (dgF f (n / 10))).size:Int)≤100:=by
     have:=dg_len f (n / 10)
     show(((dgF f (n / 10)).toArray.size:Nat):Int)≤100
     simp
     omega
    have z2:(baS [UInt8.ofNat (48+n % 10)]).size=1:=rfl
    clear hn hf e ih h2 hm hz hq hm10 c
    generalize baS (dgF (f+1) n)=R at *
    generalize baS [UInt8.ofNat (48+n % 10)]=R2 at *
    generalize baS (dgF f (n / 10))=R1 at *
    go_enter Tryz.func104,Tryz.ntmps104
    go_wp2_with fail
    go_region_with ((go_at_call 104;refine(kd _).mono ?_;rintro e w5 ⟨rfl,hB5⟩;first | (have hlt:w.heap.size<(w.alloc (.cells #[.int .u8 z] 5)).drew.heap.size:=Nat.lt_of_lt_of_eq (Nat.lt_succ_self _) (size_new w _).symm;have hC:=HC.out w5 w.heap.size (by rw[hB5.block _ hlt];exact at_new _ _);have HF:Hid (Below w.heap.size w w5):=((Below.refl w.heap.size w).alloc (Nat.le_refl _) _).drew.trans (hB5.mono (Nat.le_of_lt hlt));clear hB5 hlt) | (have HF:Hid (Below w.heap.size w w5):=⟨hB5.os,hB5.tape,hB5.output,hB5.size,hB5.block⟩;clear hB5)))
    all_goals
     go_wp2_with fail
     go_ret
     refine⟨by rw[HE.out];rfl,?_⟩
     first
     | exact HF.out
     | exact HF.out.alloc HF.out.size _
def keysM (x:So)(j:Nat):List ByteArray:=(((x.nm.zip x.ds).take j).filter (fun q=>bits .and .i64 q.2.fl 2 != 0)).map Prod.fst
theorem keysM_yes {x:So}{j:Nat}{k:ByteArray}{d:De}(hk:x.nm[j]?=some k)(hd:x.ds[j]?=some d)(h:(bits .and .i64 d.fl 2 != 0)=true):keysM x (j+1)=keysM x j++[k]:=by
 have hz:(x.nm.zip x.ds)[j]?=some (k,d):=by rw[List.getElem?_zip_eq_some];exact⟨hk,hd⟩
 unfold keysM
 rw[List.take_add_one,hz,List.filter_append,List.map_append]
 simp[h]
theorem keysM_no {x:So}{j:Nat}{k:ByteArray}{d:De}(hk:x.nm[j]?=some k)(hd:x.ds[j]?=some d)(h:(bits .and .i64 d.fl 2 != 0)=false):keysM x (j+1)=keysM x j:=by
 have hz:(x.nm.zip x.ds)[j]?=some (k,d):=by rw[List.getElem?_zip_eq_some];exact⟨hk,hd⟩
 unfold keysM
 rw[List.take_add_one,hz,List.filter_append,List.map_append]
 simp[h]
theorem keysM_len (x:So)(j:Nat):(keysM x j).length≤x.nm.length:=by
 unfold keysM
 rw[List.length_map]
 refine Nat.le_trans (List.length_filter_le _ _) (Nat.le_trans (List.length_take_le' _ _) ?_)
 rw[List.length_zip]
 exact Nat.min_le_left _ _
theorem keysS_eq {x:So}(h:x.nm.length=x.ds.length):keysS x=keysE x.el x.el.length++keysM x x.nm.length:=by
 unfold keysS keysE keysM
 rw[List.take_of_length_le (by rw[List.length_zip];exact Nat.min_le_left _ _)]
 simp only[elS_I]
theorem rdigits_at (n:Nat)(hn:n<4096)(w:World):Calls Tryz.prog 104 #[.int .i64 (n:Int)] w fun e w'=>e = .returned (.string (dgI n))∧Below w.heap.size w w':=digits_any 4 n w (Nat.le_refl _) (by omega)
section
variable {w W W' w' w1:World}{B b n:Nat}{tg:Nat→Nat}{S:List So}{vo vt:SV}{qs:List QV}
theorem rkeys_miss (h:StAt w B tg S vo qs)(vt:SV)(o:Int)(o0:0≤o)(o1:o<18446744073709551616)(hs:soO S o=none) :
  Calls Tryz.prog 82 #[stV vo vt,.int .u64 o] w fun e w'=>e = .returned (.slice none 0 0)∧Below w.heap.size w w':=by
 obtain⟨wb,hwb⟩:∃wb,wb=w.alloc (.cells #[vo.val,vt.val] 33):=⟨_,rfl⟩
 have hB:Below w.heap.size w wb:=by rw[hwb];exact(Below.refl _ _).alloc (Nat.le_refl _) _
 have hbs:BxS wb w.heap.size vo vt:=by rw[hwb];exact BxS.new w vo vt
 have HBS:Hid (∀W,Below wb.heap.size wb W→BxS W w.heap.size vo vt):=fun W r=>hbs.below r
 have HLN:Hid (∀W,Below wb.heap.size wb W→Calls Tryz.prog 78 #[stV vo vt,.int .u64 o] W fun e w'=>e = .returned (.int .i64 0)∧Below W.heap.size W w'):=fun W r=>by
  have:=rlen_o ((h.below hB).below r) vt o o0 o1
  rw[show lenO S o=0 by unfold lenO;rw[hs];rfl] at this
  exact this
 have HAT:Hid (∀W,Below wb.heap.size wb W→Calls Tryz.prog 9 #[stV vo vt,.int .u64 o] W fun e w'=>e = .returned (.int .i64 (-1))∧Below W.heap.size W w'):=fun W r=>by
  have:=rat_o ((h.below hB).below r) vt o o0 o1
  rw[show atI S o = -1 by unfold atI;rw[soO_none hs o0 o1]] at this
  exact this
 have HBB:Hid (Below w.heap.size w wb):=hB
 obtain⟨va,vl,vc⟩:=vo
 obtain⟨ta,tl,tc⟩:=vt
 unfold stV at *
 rw[show(SV.mk va vl vc).val = .slice va vl vc from rfl,show(SV.mk ta tl tc).val = .slice ta tl tc from rfl] at *
 clear h hs hB hbs
 go_enter Tryz.func82,Tryz.ntmps82
 go_upto_region 1 with fail
 rw[←hwb]
 clear hwb
 go_wp2_with fail
 go_loopw [5,6] (fun kv iv wr=>kv = .slice none 0 0∧iv = .int .i64 0∧Hid (Below wb.heap.size wb wr)) (fun kv iv wr=>0)
 case atStart=>exact⟨rfl,rfl,Below.refl _ _⟩
 case round =>
  obtain⟨rfl,rfl,HW⟩:=hrel
  obtain⟨b0,b1⟩:=(HBS.out wr HW.out).ce
  rw[show(SV.mk va vl vc).val = .slice va vl vc from rfl] at b0
  rw[show(SV.mk ta tl tc).val = .slice ta tl tc from rfl] at b1
  go_wp2_with fail
  refine(HLN.out wr HW.out).mono ?_
  rintro e w2 ⟨rfl,hB2⟩
  have HW2:=(show Hid (Below wb.heap.size wb w2) from bel_sm' HW.out hB2)
  clear hB2 HW b0 b1 HLN
  obtain⟨b0,b1⟩:=(HBS.out w2 HW2.out).ce
  rw[show(SV.mk va vl vc).val = .slice va vl vc from rfl] at b0
  rw[show(SV.mk ta tl tc).val = .slice ta tl tc from rfl] at b1
  go_wp2_with fail
  refine(HAT.out w2 HW2.out).mono ?_
  rintro e w3 ⟨rfl,hB3⟩
  have HW3:=(show Hid (Below w.heap.size w w3) from bel_sm' HBB.out (bel_sm' HW2.out hB3))
  clear hB3 HW2 b0 b1 HAT
  go_wp2_with fail
  go_ret
  exact⟨rfl,HW3.out⟩
theorem rkeys_hit (h:StAt w B tg S vo qs)(vt:SV)(o:Int)(o0:0≤o)(o1:o<18446744073709551616){x:So}(hs:soO S o=some x)(hnl:x.nm.length≤1999999999999)(hel:x.el.length≤4096) :
  Calls Tryz.prog 82 #[stV vo vt,.int .u64 o] w fun e w'=>∃s:SV,e = .returned s.val∧OwnR strC 1 9 w.heap.size w' s.val (keysS x)∧Below w.heap.size w w':=by
 obtain⟨i,hbs0,hi⟩:∃i,obS S o=some i∧S[i]?=some x:=by
  unfold soO at hs
  cases e:obS S o with
  | none=>rw[e] at hs;cases hs
  | some i=>rw[e] at hs;exact⟨i,rfl,hs⟩
 obtain⟨wb,hwb⟩:∃wb,wb=w.alloc (.cells #[vo.val,vt.val] 33):=⟨_,rfl⟩
 have hB:Below w.heap.size w wb:=by rw[hwb];exact(Below.refl _ _).alloc (Nat.le_refl _) _
 have hbs:BxS wb w.heap.size vo vt:=by rw[hwb];exact BxS.new w vo vt
 have HBS:Hid (∀W,Below wb.heap.size wb W→BxS W w.heap.size vo vt):=fun W r=>hbs.below r
 have h2:=h.below hB
 have HLN:Hid (∀W,Below wb.heap.size wb W→Calls Tryz.prog 78 #[stV vo vt,.int .u64 o] W fun e w'=>e = .returned (.int .i64 (x.el.length:Int))∧Below W.heap.size W w'):=fun W r=>by
  have:=rlen_o (h2.below r) vt o o0 o1
  rw[show lenO S o=x.el.length by unfold lenO;rw[hs];rfl] at this
  exact this
 have HEL:Hid (∀W n,Below wb.heap.size wb W→Calls Tryz.prog 79 #[stV vo vt,.int .u64 o,.int .i64 n] W fun e w'=>e = .returned (.tuple #[.int .u64 ((elemI x.el n).getD 18445336698825998336),.bool (elemI x.el n).isSome])∧Below W.heap.size W w'):=fun W n r=>by
  have:=relem_o (h2.below r) vt o o0 o1 n
  rw[hs,Option.bind_some,elS_I] at this
  exact this
 have HAT:Hid (∀W,Below wb.heap.size wb W→Calls Tryz.prog 9 #[stV vo vt,.int .u64 o] W fun e w'=>e = .returned (.int .i64 (i:Int))∧Below W.heap.size W w'):=fun W r=>by
  have:=rat_o (h2.below r) vt o o0 o1
  rw[show atI S o=(i:Int) by unfold atI;rw[hbs0]] at this
  exact this
 obtain⟨g,cap,q,hv,hq,t1,hgl,hcell,hfz,hl1,hl2,hrow⟩:=h2.obj hi
 have hsame:=h.same x (List.mem_of_getElem? hi)
 have z0:RowIn strC 1 9 B wb _ q.vn x.nm:=h2.ob i x q 0 hi hq (by omega)
 have z1:RowIn deC 3 39 B wb _ q.vd x.ds:=h2.ob i x q 1 hi hq (by omega)
 obtain⟨p1,p2,p3,p4⟩:=z0.open rtStr.len
 obtain⟨s1,s2,s3,s4⟩:=z1.open rtDe.len
 have HOB:Hid (∀W,Below wb.heap.size wb W→W.cell? ⟨g,i*7+3,none⟩=some q.vn.val∧W.cell? ⟨g,i*7+4,none⟩=some q.vd.val):=fun W r=>⟨cells_below r _ _ (hcell 3 _ rfl),cells_below r _ _ (hcell 4 _ rfl)⟩
 have HNM:Hid (∀W j u,Below wb.heap.size wb W→x.nm[j]?=some u→∃gl,q.vn.ad=some ⟨gl,0,none⟩∧W.cell? ⟨gl,j,none⟩=some (.string u)):=fun W j u r hj=>by
  obtain⟨gl,e1,_,_,_,hc,_⟩:=p4 (by intro e;rw[e] at hj;simp at hj)
  have:=hc j u hj 0 _ rfl
  simp only[Nat.mul_one,Nat.add_zero] at this
  exact⟨gl,e1,cells_below r _ _ this⟩
 have HDS:Hid (∀W j d,Below wb.heap.size wb W→x.ds[j]?=some d→∃gl,q.vd.ad=some ⟨gl,0,none⟩∧W.cell? ⟨gl,j*3+2,none⟩=some (.int .i64 d.fl)):=fun W j d r hj=>by
  obtain⟨gl,e1,_,_,_,hc,_⟩:=s4 (by intro e;rw[e] at hj;simp at hj)
  exact⟨gl,e1,cells_below r _ _ (hc j d hj 2 _ rfl)⟩
 have hil:i<S.length:=(List.getElem?_eq_some_iff.1 hi).1
 have hii:(i:Int)<(S.length:Int):=by omega
 have hbig:=h.big
 have hsl:(S.length:Int)≤65536:=by omega
 have h0i:¬((i:Int)<0):=by omega
 have HEN:Hid (keysS x=keysE x.el x.el.length++keysM x x.nm.length):=keysS_eq hsame.symm
 have HBB:Hid (Below w.heap.size w wb):=hB
 subst hv
 generalize hke:keysE x.el=kE at *
 have HKE:Hid (kE=keysE x.el):=hke.symm
 have HPS:Hid (x.nm.length≤1999999999999∧x.el.length≤4096∧x.nm.length=x.ds.length):=⟨hnl,hel,hsame.symm⟩
 have hel4:(x.el.length:Int)≤4096:=by omega
 have hnl4:(x.nm.length:Int)≤1999999999999:=by omega
 have hdl:(x.nm.length:Int)=(x.ds.length:Int):=by rw[hsame]
 generalize hxl:x.el.length=nel at *
 obtain⟨ta,tl,tc⟩:=vt
 obtain⟨⟨na,nl,nc⟩,⟨da,dl,dc⟩,ve,vi⟩:=q
 simp only at p1 s1 HOB HNM HDS
 rw[show(SV.mk na nl nc).val = .slice na nl nc from rfl,show(SV.mk da dl dc).val = .slice da dl dc from rfl] at HOB
 subst p1 s1
 unfold stV at *
 rw[show(SV.mk (some ⟨g,0,none⟩) S.length cap).val = .slice (some ⟨g,0,none⟩) S.length cap from rfl,show(SV.mk ta tl tc).val = .slice ta tl tc from rfl] at *
 rw[←hsame] at hdl
 clear h h2 hs hi hbs0 hB hbs hq t1 hgl hcell hfz hl1 hl2 hrow z0 z1 p2 p3 p4 s2 s3 s4 hil hbig hnl hel hke hxl hdl
 go_enter Tryz.func82,Tryz.ntmps82
 go_upto_region 1 with fail
 rw[←hwb]
 clear hwb
 go_wp2_with fail
 go_loopw [5,6] (fun kv iv wr=>∃(j:Nat) (xs:List ByteArray) (sa:Option Addr) (sc:Nat),(j≤nel∧Hid (xs=kE j∧PkAt wb wr (.slice none 0 0) [] (.slice sa xs.length sc) xs))∧kv = .slice sa xs.length sc∧iv = .int .i64 j) (fun kv iv wr=>nel - (intOf iv).toNat)
 case atStart=>exact⟨0,[],none,0,⟨Nat.zero_le _,by rw[HKE.out];rfl,OwnR.nil _ _,OwnR.nil _ _,fun b q=>(by simp[Value.ownBlock] at q),Below.refl _ _⟩,rfl,rfl⟩
 case round =>
  obtain⟨j,xs,sa,sc,⟨ple,HP⟩,rfl,rfl⟩:=hrel
  have HXL:Hid (xs.length≤4096∧True):=by
   have:=keysE_len x.el j
   rw[HP.out.1,HKE.out]
   have:=HPS.out.2.1
   exact⟨by omega,trivial⟩
  obtain⟨b0,b1⟩:=(HBS.out wr HP.out.2.bel).ce
  rw[show(SV.mk (some ⟨g,0,none⟩) S.length cap).val = .slice (some ⟨g,0,none⟩) S.length cap from rfl] at b0
  rw[show(SV.mk ta tl tc).val = .slice ta tl tc from rfl] at b1
  have kl:=HLN.out wr HP.out.2.bel
  go_wp2_with fail
  refine kl.mono ?_
  rintro e w2 ⟨rfl,hB2⟩
  have HP2:=(show Hid _ from HP.out.2.below hB2)
  have HX:=(show Hid _ from HP.out.1)
  clear hB2 kl HP b0 b1
  rcases Nat.lt_or_ge j nel with c | c
  ·have cl:(j:Int)<nel:=by omega
   obtain⟨b0,b1⟩:=(HBS.out w2 HP2.out.bel).ce
   rw[show(SV.mk (some ⟨g,0,none⟩) S.length cap).val = .slice (some ⟨g,0,none⟩) S.length cap from rfl] at b0
   rw[show(SV.mk ta tl tc).val = .slice ta tl tc from rfl] at b1
   have ke:=HEL.out w2 j HP2.out.bel
   have HC:Hid (j<nel∧nel≤4096):=⟨c,HPS.out.2.1⟩
   cases hv:elemI x.el (j:Int) with
   | none =>
     rw[hv] at ke
     simp only[Option.getD_none,Option.isSome_none] at ke
     have HN:Hid (xs=kE (j+1)):=by
      have:=keysE_no hv
      rw[←HKE.out] at this
      show xs=_
      rw[this];exact HX.out
     clear hv HEL HLN HAT HOB HNM HDS HEN HKE HPS HXL HX c
     go_wp2_with fail
     refine ke.mono ?_
     rintro e w3 ⟨rfl,hB3⟩
     have HP3:=(show Hid _ from HP2.out.below hB3)
     clear ke hB3 HP2
     go_wp2_with fail
     refine⟨⟨j+1,xs,sa,sc,⟨HC.out.1,⟨HN.out,HP3.out⟩⟩,rfl,by go_num⟩,?_⟩
     have:=HC.out.1
     simp[intOf]
     omega
   | some v =>
     rw[hv] at ke
     simp only[Option.getD_some,Option.isSome_some] at ke
     have kdg:=fun W=>rdigits_at j (by have:=HC.out;omega) W
     have HN:Hid (kE (j+1)=xs++[dgI j]):=by
      have:=keysE_yes hv
      rw[←HKE.out] at this
      show kE (j+1)=_
      rw[this,HX.out]
     clear hv HEL HLN HAT HOB HNM HDS HEN HKE HPS HX c
     go_wp2_with fail
     refine ke.mono ?_
     rintro e w3 ⟨rfl,hB3⟩
     have HP3:=(show Hid _ from HP2.out.below hB3)
     clear ke hB3 HP2 b0 b1
     generalize dgI j=dk at *
     go_wp2_with fail
     refine(kdg _).mono ?_
     rintro e w4 ⟨rfl,hB4⟩
     have HP4:=(show Hid _ from HP3.out.below hB4)
     clear kdg hB4 HP3
     have HAL:Hid (Below w4.heap.size w4 (w4.alloc (.cells #[.string dk] 9))):=(Below.refl _ _).alloc (Nat.le_refl _) _
     have HPA:=(show Hid _ from HP4.out.below HAL.out)
     have HOWN:Hid (OwnR strC 1 9 wb.heap.size (w4.alloc (.cells #[.string dk] 9)) (.slice sa xs.length sc) xs):=HPA.out.own
     have HONE:Hid (Sli.ok strC 1 (w4.alloc (.cells #[.string dk] 9)) ⟨some ⟨w4.heap.size,0,none⟩,1,[dk]⟩):=one_sli rtStr (at_new _ _) rfl
     have HSZ:Hid (wb.heap.size≤(w4.alloc (.cells #[.string dk] 9)).heap.size):=HPA.out.bel.size
     have HBX:Hid (((xs.length+1)+(xs.length+1) / 4+192)*16≤281474976710656∧xs.length+1≤maxLen):=by
      have h1:=HXL.out.1
      exact⟨by omega,by unfold maxLen;omega⟩
     clear HXL HP4
     go_wp2_with (at_builtin;refine app_row rtStr rfl _ _ rfl wb.heap.size (.slice sa xs.length sc) xs (by rfl) HOWN.out ⟨some ⟨w4.heap.size,0,none⟩,1,[dk]⟩ (by rfl) HONE.out HBX.out.2 HBX.out.1 HSZ.out ?_)
     intro v6 w6 ho6 hg6 hl6
     have hll:(xs++[dk]).length=xs.length+1:=by simp
     have ho7:w6.ownsRow wb.heap.size 9 1 v6 (xs.length+1) ((xs++[dk]).flatMap strC):=by rw[←hll];exact ho6
     obtain⟨g6,c6,rfl,_,_⟩:=ho7.form (by omega)
     have hpn:=HPA.out.app ho6 hg6 (by rw[size_new];exact hl6)
     have HPN:=(show Hid _ from hpn)
     have HLL:Hid ((xs++[dk]).length=xs.length+1):=hll
     clear ho6 ho7 hg6 hl6 hll hpn HAL HPA HOWN HONE HSZ HBX
     rw[←HN.out] at HPN HLL
     obtain⟨xs2,hx2⟩:∃y,y=kE (j+1):=⟨_,rfl⟩
     rw[←hx2] at HPN HLL
     have HX2:Hid (xs2=kE (j+1)):=hx2
     clear hx2 HN
     go_wp2_with fail
     refine⟨⟨j+1,xs2,some ⟨g6,0,none⟩,c6,⟨HC.out.1,⟨HX2.out,by rw[HLL.out];exact HPN.out⟩⟩,by rw[HLL.out],by go_num⟩,?_⟩
     have:=HC.out.1
     simp[intOf]
     omega
  ·have hil:¬((j:Int)<nel):=by omega
   have hje:j=nel:=by omega
   subst hje
   clear c HEL HLN ple
   obtain⟨b0,b1⟩:=(HBS.out w2 HP2.out.bel).ce
   rw[show(SV.mk (some ⟨g,0,none⟩) S.length cap).val = .slice (some ⟨g,0,none⟩) S.length cap from rfl] at b0
   rw[show(SV.mk ta tl tc).val = .slice ta tl tc from rfl] at b1
   have ka:=HAT.out w2 HP2.out.bel
   go_wp2_with fail
   refine ka.mono ?_
   rintro e w3 ⟨rfl,hB3⟩
   have HP3:=(show Hid _ from HP2.out.below hB3)
   clear ka hB3 HP2 b0 b1 HAT hil
   go_wp2_with fail
   go_loopw [5,10] (fun kv iv wr=>∃(l:Nat) (ys:List ByteArray) (sa:Option Addr) (sc:Nat),(l≤x.nm.length∧Hid (ys=xs++keysM x l∧PkAt wb wr (.slice none 0 0) [] (.slice sa ys.length sc) ys))∧kv = .slice sa ys.length sc∧iv = .int .i64 l) (fun kv iv wr=>x.nm.length - (intOf iv).toNat)
   case atStart =>
    refine⟨0,xs,sa,sc,⟨Nat.zero_le _,?_,HP3.out⟩,rfl,rfl⟩
    show xs=xs++[]
    rw[List.append_nil]
   case round =>
    have HXX:Hid (xs.length≤4096∧xs=kE j):=⟨HXL.out.1,HX.out⟩
    clear HP3 HXL HX
    obtain⟨l,ys,sa,sc,⟨ple2,HP⟩,rfl,rfl⟩:=hrel
    have HYL:Hid (ys.length≤2000000004095):=by
     have:=keysM_len x l
     have e:=HP.out.1
     have:=HPS.out.1
     have:=HXX.out.1
     show _≤_
     rw[e,List.length_append]
     omega
    obtain⟨b0,b1⟩:=(HBS.out wr HP.out.2.bel).ce
    rw[show(SV.mk (some ⟨g,0,none⟩) S.length cap).val = .slice (some ⟨g,0,none⟩) S.length cap from rfl] at b0
    rw[show(SV.mk ta tl tc).val = .slice ta tl tc from rfl] at b1
    obtain⟨d3,d4⟩:=HOB.out wr HP.out.2.bel
    rcases Nat.lt_or_ge l x.nm.length with c | c
    ·have cl:(l:Int)<x.nm.length:=by omega
     have cl2:(l:Int)<x.ds.length:=by have:=HPS.out.2.2;omega
     obtain⟨k,hk⟩:∃k,x.nm[l]?=some k:=⟨_,List.getElem?_eq_getElem c⟩
     obtain⟨d,hd⟩:∃d,x.ds[l]?=some d:=⟨_,List.getElem?_eq_getElem (by have:=HPS.out.2.2;omega)⟩
     obtain⟨gn,rfl,dn⟩:=HNM.out wr l k HP.out.2.bel hk
     obtain⟨gd,rfl,dd⟩:=HDS.out wr l d HP.out.2.bel hd
     have HC:Hid (l<x.nm.length):=c
     have hlx:(x.ds.length:Int)≤1999999999999:=by have:=HPS.out.2.2;omega
     cases hb:(bits .and .i64 d.fl 2 != 0) with
     | false =>
       have HN:Hid (ys=xs++keysM x (l+1)):=by
        show ys=_
        rw[keysM_no hk hd hb];exact HP.out.1
       clear hk hd HNM HDS HOB HEN HKE HPS HXX HYL c
       go_wp2_with fail
       refine⟨⟨l+1,ys,sa,sc,⟨HC.out,⟨HN.out,HP.out.2⟩⟩,rfl,by go_num⟩,?_⟩
       have:=HC.out
       simp[intOf]
       omega
     | true =>
       have HN:Hid (xs++keysM x (l+1)=ys++[k]):=by
        show xs++keysM x (l+1)=_
        rw[keysM_yes hk hd hb,←List.append_assoc,←HP.out.1]
       have HPY:=(show Hid _ from HP.out.2)
       have HXL:Hid (ys.length≤2000000004095∧True):=⟨HYL.out,trivial⟩
       clear hk hd HNM HDS HOB HEN HKE HPS HXX HYL c HP
       have HAL:Hid (Below wr.heap.size wr (wr.alloc (.cells #[.string k] 9))):=(Below.refl _ _).alloc (Nat.le_refl _) _
       have HPA:=(show Hid _ from HPY.out.below HAL.out)
       have HOWN:Hid (OwnR strC 1 9 wb.heap.size (wr.alloc (.cells #[.string k] 9)) (.slice sa ys.length sc) ys):=HPA.out.own
       have HONE:Hid (Sli.ok strC 1 (wr.alloc (.cells #[.string k] 9)) ⟨some ⟨wr.heap.size,0,none⟩,1,[k]⟩):=one_sli rtStr (at_new _ _) rfl
       have HSZ:Hid (wb.heap.size≤(wr.alloc (.cells #[.string k] 9)).heap.size):=HPA.out.bel.size
       have HBX:Hid (((ys.length+1)+(ys.length+1) / 4+192)*16≤281474976710656∧ys.length+1≤maxLen):=by
        have h1:=HXL.out.1
        exact⟨by omega,by unfold maxLen;omega⟩
       clear HXL HPY
       go_wp2_with (at_builtin;refine app_row rtStr rfl _ _ rfl wb.heap.size (.slice sa ys.length sc) ys (by rfl) HOWN.out ⟨some ⟨wr.heap.size,0,none⟩,1,[k]⟩ (by rfl) HONE.out HBX.out.2 HBX.out.1 HSZ.out ?_)
       intro v6 w6 ho6 hg6 hl6
       have hll:(ys++[k]).length=ys.length+1:=by simp
       have ho7:w6.ownsRow wb.heap.size 9 1 v6 (ys.length+1) ((ys++[k]).flatMap strC):=by rw[←hll];exact ho6
       obtain⟨g6,c6,rfl,_,_⟩:=ho7.form (by omega)
       have hpn:=HPA.out.app ho6 hg6 (by rw[size_new];exact hl6)
       have HPN:=(show Hid _ from hpn)
       have HLL:Hid ((ys++[k]).length=ys.length+1):=hll
       clear ho6 ho7 hg6 hl6 hll hpn HAL HPA HOWN HONE HSZ HBX
       rw[←HN.out] at HPN HLL
       obtain⟨xs2,hx2⟩:∃y,y=xs++keysM x (l+1):=⟨_,rfl⟩
       rw[←hx2] at HPN HLL
       have HX2:Hid (xs2=xs++keysM x (l+1)):=hx2
       clear hx2 HN
       go_wp2_with fail
       refine⟨⟨l+1,xs2,some ⟨g6,0,none⟩,c6,⟨HC.out,⟨HX2.out,by rw[HLL.out];exact HPN.out⟩⟩,by rw[HLL.out],by go_num⟩,?_⟩
       have:=HC.out
       simp[intOf]
       omega
    ·have hil:¬((l:Int)<x.nm.length):=by omega
     have hle:l=x.nm.length:=by omega
     have HF:Hid (OwnR strC 1 9 w.heap.size wr (.slice sa ys.length sc) (keysS x)∧Below w.heap.size w wr):=by
      refine⟨?_,bel_sm' HBB.out HP.out.2.bel⟩
      have e:keysS x=ys:=by
       rw[HEN.out,HP.out.1,HXX.out.2,hle]
      rw[e]
      exact HP.out.2.own.low HBB.out.size
     clear HP HNM HDS HOB HEN HKE HPS HXX HYL c HBB
     go_wp2_with fail
     go_ret
     exact⟨⟨sa,ys.length,sc⟩,rfl,HF.out.1,HF.out.2⟩
end
structure OpP where
 kd:Int
 o:Int
 p:Int
 k:ByteArray
 u:Ws
 v:Int
 n:Int
def pH (H:He)(a:OpP):He :=
 if a.kd=0 then makeF H a.n a.p else if a.kd=1 then (defP H a.o a.k a.u).2 else if a.kd=2 then (delP H a.o a.k).2
 else if a.kd=3 then (asgP H a.o a.k a.v H.obs.length).2.2 else if a.kd=4 then (spP H a.o a.p).2 else if a.kd=8 then closeH H a.o else H
def pS (S:List So)(a:OpP):List So :=
 if a.kd=0 then makeG S a.n a.p else if a.kd=1 then (dfG S a.o a.k a.u).1 else if a.kd=2 then (delG' S a.o a.k).1
 else if a.kd=3 then (asgG S a.o a.k a.v).2.2 else if a.kd=4 then (spG S a.o a.p).1 else if a.kd=8 then shutG S a.o else S
def upH (H:He)(o:Int):Int:=((obO H o).map Ob.proto).getD nulW
section
variable {H H':He}{S S':List So}{ts:List ByteArray}{o o2:Int}{k k2:ByteArray}{i:Nat}{ob:Ob}{x y:So}{d:De}{n:Nat}
theorem OrP.step (h:OrP H S ts n)(hm:H.most≤256)(a:OpP):OrP (pH H a) (pS S a) ts (n+1):=by
 unfold pH pS
 split
 ·exact h.make hm _ _
 ·split
  ·exact(h.define hm _ _ _).1
  ·split
   ·exact(h.delete _ _).1
   ·split
    ·exact(h.assign hm _ _ _).1
    ·split
     ·exact(h.setProto hm _ _).1
     ·split
      ·exact h.close _
      ·exact h.mono (by omega)
end
section
variable {w0 w w':World}{X:Nat→Prop}{hb:Nat}{H H':He}{S S':List So}{vo vo' vt vt':SV}{ts:List ByteArray}{n:Nat}
theorem OrP.gdH (h:OrP H S ts n):H.gd (n:Int):=⟨h.inv.neat,h.inv.hms,h.inv.nx⟩
theorem OrP.nm (h:OrP H S ts n)(hn:n≤1999999999999):∀x∈S,x.nm.length≤1999999999999:=by
 intro x hx
 obtain⟨i,hi⟩:=List.mem_iff_getElem?.1 hx
 have hil:i<H.obs.length:=by rw[h.rel.len];exact(List.getElem?_eq_some_iff.1 hi).1
 have e1:H.obs[i]?=some H.obs[i]:=List.getElem?_eq_getElem hil
 have hb:=h.rel.ob i _ _ e1 hi
 have hm:=List.mem_of_getElem? e1
 have h1:=(h.inv.neat _ hm).pl
 have h2:=h.inv.nx _ hm
 rw[hb.nm,List.length_map]
 omega
theorem OrP.key (h:OrP H S ts n){x:So}(hx:x∈S):∃ob∈H.obs,RelB ob x:=by
 obtain⟨i,hi⟩:=List.mem_iff_getElem?.1 hx
 have hil:i<H.obs.length:=by rw[h.rel.len];exact(List.getElem?_eq_some_iff.1 hi).1
 have e1:H.obs[i]?=some H.obs[i]:=List.getElem?_eq_getElem hil
 exact⟨_,List.mem_of_getElem? e1,h.rel.ob i _ _ e1 hi⟩
theorem OrP.pr (h:OrP H S ts n)(hw:H.wf):∀x∈S,0≤x.proto∧x.proto<18446744073709551616:=fun x hx=>by
 obtain⟨ob,h1,h2⟩:=h.key hx
 rw[←h2.pr]
 exact(hw.ob ob h1).pr
theorem OrP.els (h:OrP H S ts n)(hw:H.wf):∀x∈S,x.el.length≤4096:=fun x hx=>by
 obtain⟨ob,h1,h2⟩:=h.key hx
 rw[←h2.el]
 exact(hw.ob ob h1).el
theorem pown_e (h:TwoE w0 w X hb H S vo vt ts)(hO:OrP H S ts n)(o:Int)(o0:0≤o)(o1:o<18446744073709551616)(k:ByteArray)(hk:k.size≤maxLen) :
  Calls Tryz.prog 10 #[.pointer (some ⟨hb,0,none⟩),.int .u64 o,.string k] w fun e w'=>e = .returned (.tuple #[deV ((ownH H o k).getD zDe),.bool (ownH H o k).isSome])∧Below w.heap.size w w':=by
 have h':=h
 have hwf:=h.wf
 obtain⟨tgH,tgS,M,qs,h⟩:=h
 refine(own_at h.hp hO.inv.neat o o0 o1 k hk).mono ?_
 rintro e w' ⟨rfl,q⟩
 exact⟨rfl,q⟩
theorem plook_e (h:TwoE w0 w X hb H S vo vt ts)(hO:OrP H S ts n)(o:Int)(o0:0≤o)(o1:o<18446744073709551616)(k:ByteArray)(hk:k.size≤maxLen) :
  Calls Tryz.prog 15 #[.pointer (some ⟨hb,0,none⟩),.int .u64 o,.string k] w fun e w'=>e = .returned (.tuple #[.int .u64 (((lookF H k H.obs.length o).map Prod.fst).getD undW),deV (((lookF H k H.obs.length o).map Prod.snd).getD zDe),.bool (lookF H k H.obs.length o).isSome])∧Below w.heap.size w w':=by
 have h':=h
 have hwf:=h.wf
 obtain⟨tgH,tgS,M,qs,h⟩:=h
 refine(lookup_at h.hp hO.inv.neat o o0 o1 k hk _ (hO.inv.acy o)).mono ?_
 rintro e w' ⟨rfl,q⟩
 exact⟨rfl,q⟩
theorem pdefine_e (h:TwoE w0 w X hb H S vo vt ts)(hO:OrP H S ts n)(hF:FpAt w)(hn:n≤1999999999999)(o:Int)(o0:0≤o)(o1:o<18446744073709551616)(k:ByteArray)(hk:k.size≤maxLen)(u:Ws)(hu:u.ok) :
  Calls Tryz.prog 28 #[.pointer (some ⟨hb,0,none⟩),.int .u64 o,.string k,wsV u] w fun e w'=>e = .returned (.bool (defP H o k u).1)∧TwoK w0 w w' X hb (defP H o k u).2 S vo vt ts:=by
 have h':=h
 have hwf:=h.wf
 obtain⟨tgH,tgS,M,qs,h⟩:=h
 refine(define_at h.hp hF hO.gdH (by omega) o o0 o1 k hk u hu).mono ?_
 rintro e w' ⟨rfl,q⟩
 exact⟨rfl,h.heap q⟩
theorem pdelete_e (h:TwoE w0 w X hb H S vo vt ts)(hO:OrP H S ts n)(o:Int)(o0:0≤o)(o1:o<18446744073709551616)(k:ByteArray)(hk:k.size≤maxLen) :
  Calls Tryz.prog 31 #[.pointer (some ⟨hb,0,none⟩),.int .u64 o,.string k] w fun e w'=>e = .returned (.bool (delP H o k).1)∧TwoK w0 w w' X hb (delP H o k).2 S vo vt ts:=by
 have h':=h
 have hwf:=h.wf
 obtain⟨tgH,tgS,M,qs,h⟩:=h
 refine(pdelete_at h.hp hO.inv.neat o o0 o1 k hk).mono ?_
 rintro e w' ⟨rfl,q⟩
 exact⟨rfl,h.heap q⟩
theorem passign_e (h:TwoE w0 w X hb H S vo vt ts)(hO:OrP H S ts n)(hF:FpAt w)(hn:n≤1999999999999)(o:Int)(o0:0≤o)(o1:o<18446744073709551616)(k:ByteArray)(hk:k.size≤maxLen)(v:Int)(hv:0≤v∧v<18446744073709551616) :
  Calls Tryz.prog 11 #[.pointer (some ⟨hb,0,none⟩),.int .u64 o,.string k,.int .u64 v] w fun e w'=>e = .returned (.tuple #[.int .u64 (asgP H o k v H.obs.length).1,.int .i64 (asgP H o k v H.obs.length).2.1])∧TwoK w0 w w' X hb (asgP H o k v H.obs.length).2.2 S vo vt ts:=by
 have h':=h
 have hwf:=h.wf
 obtain⟨tgH,tgS,M,qs,h⟩:=h
 refine(assign_at h.hp hF hO.gdH (by omega) o o0 o1 k hk v hv _ (hO.inv.acy o)).mono ?_
 rintro e w' ⟨rfl,q⟩
 exact⟨rfl,h.heap q⟩
theorem psetProto_e (h:TwoE w0 w X hb H S vo vt ts)(hO:OrP H S ts n)(o:Int)(o0:0≤o)(o1:o<18446744073709551616)(p:Int)(p0:0≤p)(p1:p<18446744073709551616) :
  Calls Tryz.prog 34 #[.pointer (some ⟨hb,0,none⟩),.int .u64 o,.int .u64 p] w fun e w'=>e = .returned (.bool (spP H o p).1)∧TwoK w0 w w' X hb (spP H o p).2 S vo vt ts:=by
 have h':=h
 have hwf:=h.wf
 obtain⟨tgH,tgS,M,qs,h⟩:=h
 refine(psetProto_at h.hp hO.inv.acy hO.inv.abv o p o0 o1 p0 p1).mono ?_
 rintro e w' ⟨rfl,q⟩
 exact⟨rfl,h.heap q⟩
theorem rown_e (h:TwoE w0 w X hb H S vo vt ts){H1:He}(hO:OrP H1 S ts n)(hwf:H1.wf)(o:Int)(o0:0≤o)(o1:o<18446744073709551616)(k:ByteArray)(hk:k.size≤maxLen) :
  Calls Tryz.prog 36 #[stV vo vt,.int .u64 o,.string k] w fun e w'=>e = .returned (.tuple #[deV (((soO S o).bind (fun x=>ownS x k)).getD zDe),.bool ((soO S o).bind (fun x=>ownS x k)).isSome])∧Below w.heap.size w w':=by
 have h':=h
 obtain⟨tgH,tgS,M,qs,h⟩:=h
 refine(rown_o h.st vt o o0 o1 k hk).mono ?_
 rintro e w' ⟨rfl,q⟩
 exact⟨rfl,q⟩
theorem rlook_e (h:TwoE w0 w X hb H S vo vt ts){H1:He}(hO:OrP H1 S ts n)(hwf:H1.wf)(o:Int)(o0:0≤o)(o1:o<18446744073709551616)(k:ByteArray)(hk:k.size≤maxLen) :
  Calls Tryz.prog 37 #[stV vo vt,.int .u64 o,.string k] w fun e w'=>e = .returned (.tuple #[.int .u64 (((lookS S k (S.length+1) o).map Prod.fst).getD undW),deV (((lookS S k (S.length+1) o).map Prod.snd).getD zDe),.bool (lookS S k (S.length+1) o).isSome])∧Below w.heap.size w w':=by
 have h':=h
 obtain⟨tgH,tgS,M,qs,h⟩:=h
 refine(rlookup_any h.st vt (hO.pr hwf) o o0 o1 k hk).mono ?_
 rintro e w' ⟨rfl,q⟩
 exact⟨rfl,q⟩
theorem rdefine_e (h:TwoE w0 w X hb H S vo vt ts){H1:He}(hO:OrP H1 S ts n)(hwf:H1.wf)(hn:n≤1999999999999)(o:Int)(o0:0≤o)(o1:o<18446744073709551616)(k:ByteArray)(hk:k.size≤maxLen)(u:Ws)(hu:u.ok) :
  Calls Tryz.prog 30 #[stV vo vt,.int .u64 o,.string k,wsV u] w fun e w'=>e = .returned (.tuple #[stV vo vt,.bool (dfG S o k u).2])∧TwoK w0 w w' X hb H (dfG S o k u).1 vo vt ts:=by
 have h':=h
 obtain⟨tgH,tgS,M,qs,h⟩:=h
 refine(rdefine_full h.st vt (hO.nm hn) (hO.els hwf) o o0 o1 k hk u hu).mono ?_
 rintro e w' ⟨rfl,q⟩
 exact⟨rfl,h.store q⟩
theorem rdelete_e (h:TwoE w0 w X hb H S vo vt ts){H1:He}(hO:OrP H1 S ts n)(hwf:H1.wf)(hn:n≤1999999999999)(o:Int)(o0:0≤o)(o1:o<18446744073709551616)(k:ByteArray)(hk:k.size≤maxLen) :
  Calls Tryz.prog 32 #[stV vo vt,.int .u64 o,.string k] w fun e w'=>e = .returned (.tuple #[stV vo vt,.bool (delG' S o k).2])∧TwoK w0 w w' X hb H (delG' S o k).1 vo vt ts:=by
 have h':=h
 obtain⟨tgH,tgS,M,qs,h⟩:=h
 refine(rdelete_full h.st vt (hO.nm hn) (hO.els hwf) o o0 o1 k hk).mono ?_
 rintro e w' ⟨rfl,q⟩
 exact⟨rfl,h.store q⟩
theorem rassign_e (h:TwoE w0 w X hb H S vo vt ts){H1:He}(hO:OrP H1 S ts n)(hwf:H1.wf)(hn:n≤1999999999999)(o:Int)(o0:0≤o)(o1:o<18446744073709551616)(k:ByteArray)(hk:k.size≤maxLen)(v:Int)(hv:0≤v∧v<18446744073709551616) :
  Calls Tryz.prog 33 #[stV vo vt,.int .u64 o,.string k,.int .u64 v] w fun e w'=>e = .returned (.tuple #[stV vo vt,.int .u64 (asgG S o k v).1,.int .i64 (asgG S o k v).2.1])∧TwoK w0 w w' X hb H (asgG S o k v).2.2 vo vt ts:=by
 have h':=h
 obtain⟨tgH,tgS,M,qs,h⟩:=h
 refine(rassign_of h.st vt (hO.pr hwf) o o0 o1 k hk v hv (fun W tg' qs' st u hu=>rdefine_full st vt (hO.nm hn) (hO.els hwf) o o0 o1 k hk u hu)).mono ?_
 rintro e w' ⟨rfl,q⟩
 exact⟨rfl,h.store q⟩
theorem rsetProto_e (h:TwoE w0 w X hb H S vo vt ts){H1:He}(hO:OrP H1 S ts n)(hwf:H1.wf)(o:Int)(o0:0≤o)(o1:o<18446744073709551616)(p:Int)(p0:0≤p)(p1:p<18446744073709551616) :
  Calls Tryz.prog 35 #[stV vo vt,.int .u64 o,.int .u64 p] w fun e w'=>e = .returned (.tuple #[stV vo vt,.bool (spG S o p).2])∧TwoK w0 w w' X hb H (spG S o p).1 vo vt ts:=by
 have h':=h
 obtain⟨tgH,tgS,M,qs,h⟩:=h
 refine(rsetProto_full h.st vt (hO.pr hwf) o o0 o1 p p0 p1).mono ?_
 rintro e w' ⟨rfl,q⟩
 exact⟨rfl,h.store q⟩
theorem pkeys_e (h : TwoE w0 w X hb H S vo vt ts) (hO : OrP H S ts n) (hT : Lib.TabIs Tryz.prog w "internal/strconv.uint64pow10" .u64 Lib.pow10Tab) (o : Int) (o0 : 0 ≤ o) (o1 : o < 18446744073709551616) :
  Calls Tryz.prog 14 #[.pointer (some ⟨hb,0,none⟩),.int .u64 o] w fun e w'=>∃s:SV,e = .returned s.val∧OwnR strC 1 9 w.heap.size w' s.val (keysP H o)∧Below w.heap.size w w':=by
 obtain⟨tgH,tgS,M,qs,h⟩:=h
 exact pkeys_at h.hp hO.inv.neat hT o o0 o1
theorem rkeys_e (h:TwoE w0 w X hb H S vo vt ts)(hO:OrP H S ts n)(hn:n≤1999999999999)(o:Int)(o0:0≤o)(o1:o<18446744073709551616) :
  Calls Tryz.prog 82 #[stV vo vt,.int .u64 o] w fun e w'=>∃s:SV,e = .returned s.val∧OwnR strC 1 9 w.heap.size w' s.val (keysG S o)∧Below w.heap.size w w':=by
 have hwf:=h.wf
 obtain⟨tgH,tgS,M,qs,h⟩:=h
 unfold keysG
 cases hs:soO S o with
 | none =>
   refine(rkeys_miss h.st vt o o0 o1 hs).mono ?_
   rintro e w' ⟨rfl,q⟩
   exact⟨.nil,rfl,OwnR.nil _ _,q⟩
 | some x =>
   have hxm:x∈S:=by
    unfold soO at hs
    cases e:obS S o with
    | none=>rw[e] at hs;cases hs
    | some i=>rw[e] at hs;exact List.mem_of_getElem? hs
   exact rkeys_hit h.st vt o o0 o1 hs (hO.nm hn x hxm) (hO.els hwf x hxm)
end
def XbP (w:World)(X:Nat→Prop)(b:Nat):Prop:=X b∨(w.heap.size≤b∧b<w.heap.size+3)
structure OnP (w0 w W:World)(X:Nat→Prop)(hb:Nat)(H:He)(S:List So)(vo vt:SV)(ts:List ByteArray)(vS tS:SV)(cs:Array Value)(vR tR:SV):Prop where
 two:TwoE w0 W (XbP w X) hb H S vo vt ts
 kp:∀b,X b→W.heap[b]?=w.heap[b]?
 xl:∀b,X b→b<w.heap.size
 lo:w0.heap.size≤w.heap.size
 s:BxS W w.heap.size vS tS
 o:W.heap[w.heap.size+1]?=some (.cells cs 28 (0,0))
 r:BxS W (w.heap.size+1+1) vR tR
section
variable {w0 w W W':World}{X:Nat→Prop}{hb:Nat}{H H':He}{S S':List So}{vo vo' vt vt':SV}{ts ts':List ByteArray}{vS tS vR tR:SV}{cs:Array Value}
theorem OnP.start (h:TwoE w0 w X hb H S vo vt ts)(cs:Array Value):OnP w0 w (((w.alloc (.cells #[vo.val,vt.val] 33)).alloc (.cells cs 28)).alloc (.cells #[.slice none 0 0,.slice none 0 0] 33)) X hb H S vo vt ts vo vt cs .nil .nil:=by
 have z1:=size_new w (.cells #[vo.val,vt.val] 33)
 have z2:=size_new (w.alloc (.cells #[vo.val,vt.val] 33)) (.cells cs 28)
 have z3:=size_new ((w.alloc (.cells #[vo.val,vt.val] 33)).alloc (.cells cs 28)) (.cells #[.slice none 0 0,.slice none 0 0] 33)
 have hB:Below w.heap.size w (((w.alloc (.cells #[vo.val,vt.val] 33)).alloc (.cells cs 28)).alloc (.cells #[.slice none 0 0,.slice none 0 0] 33)):=below_new (B2 w _ _) (by rw[z2,z1];omega) _
 refine⟨(h.box hB).mono (fun b q=>q.imp id (fun q=>⟨q.1,by rw[z3,z2,z1];exact q.2⟩)),fun b q=>hB.block b (h.lt q),fun b q=>h.lt q,h.bel.size,?_,?_,?_⟩
 ·exact at_old _ _ _ _ (at_old _ _ _ _ (at_new _ _))
 ·exact at_old _ _ _ _ (at_two _ _ _)
 ·have:=at_new ((w.alloc (.cells #[vo.val,vt.val] 33)).alloc (.cells cs 28)) (.cells #[.slice none 0 0,.slice none 0 0] 33)
  rw[z2,z1] at this
  exact this
theorem OnP.call (h:OnP w0 w W X hb H S vo vt ts vS tS cs vR tR)(k:TwoK w0 W W' (XbP w X) hb H' S' vo' vt' ts'):OnP w0 w W' X hb H' S' vo' vt' ts' vS tS cs vR tR:=by
 have e:∀j,j<3→W'.heap[w.heap.size+j]?=W.heap[w.heap.size+j]?:=fun j hj=>k.kp _ (Or.inr ⟨by omega,by omega⟩)
 refine⟨k.two,fun b q=>(k.kp b (Or.inl q)).trans (h.kp b q),h.xl,h.lo,?_,?_,?_⟩
 ·exact(e 0 (by omega)).trans h.s
 ·exact(e 1 (by omega)).trans h.o
 ·exact(e 2 (by omega)).trans h.r
theorem OnP.same (h:OnP w0 w W X hb H S vo vt ts vS tS cs vR tR)(hB:Below W.heap.size W W'):OnP w0 w W' X hb H S vo vt ts vS tS cs vR tR:=h.call (h.two.same hB)
theorem OnP.xne (h:OnP w0 w W X hb H S vo vt ts vS tS cs vR tR){b k:Nat}(q:X b)(hk:w.heap.size≤k):b≠k:=by have:=h.xl b q;omega
theorem OnP.set2 (h:OnP w0 w W X hb H S vo vt ts vS tS cs vR tR)(va ta:SV):OnP w0 w ((W.setCell ⟨w.heap.size+1+1,0,none⟩ va.val).setCell ⟨w.heap.size+1+1,1,none⟩ ta.val) X hb H S vo vt ts vS tS cs va ta:=by
 have z0:=heap_setCell_same _ (w.heap.size+1+1) 0 _ _ va.val h.r
 have z1:=heap_setCell_same _ (w.heap.size+1+1) 1 _ _ ta.val z0
 have hc:Chg (fun b=>b=w.heap.size+1+1) W ((W.setCell ⟨w.heap.size+1+1,0,none⟩ va.val).setCell ⟨w.heap.size+1+1,1,none⟩ ta.val) :=
  (Chg.set (S:=fun b=>b=w.heap.size+1+1) W ⟨w.heap.size+1+1,0,none⟩ va.val rfl).trans (Chg.set (S:=fun b=>b=w.heap.size+1+1) _ ⟨w.heap.size+1+1,1,none⟩ ta.val rfl) (fun _ _ e=>e)
 have hl:=h.lo
 refine⟨(h.two.set (b:=w.heap.size+1+1) (Or.inr ⟨by omega,by omega⟩) (by omega) 0 _).set (b:=w.heap.size+1+1) (Or.inr ⟨by omega,by omega⟩) (by omega) 1 _,fun b q => ?_,h.xl,h.lo,h.s.kept hc (by omega),?_,z1⟩
 ·have hbl:b<W.heap.size:=h.two.lt (Or.inl q)
  rw[hc.block b hbl (h.xne q (by omega))]
  exact h.kp b q
 ·rw[hc.block _ (Array.getElem?_eq_some_iff.1 h.o).1 (by omega)]
  exact h.o
theorem OnP.fin (h:OnP w0 w W X hb H S vo vt ts vS tS cs vR tR):TwoK w0 w W X hb H S vo vt ts:=⟨h.two.mono (fun b q=>Or.inl q),h.kp⟩
theorem OnP.oc (h:OnP w0 w W X hb H S vo vt ts vS tS cs vR tR)(j:Nat){v:Value}(hj:cs[j]?=some v):W.cell? ⟨w.heap.size+1,j,none⟩=some v:=by
 rw[cell_of_row W _ j cs _ (0,0) h.o]
 exact hj
end
def OpP.cells (a:OpP):Array Value:=#[.int .i64 a.kd,.int .u64 a.o,.int .u64 a.p,.string a.k,.int .i64 a.u.has,.int .u64 a.u.va,.int .u64 a.u.ge,.int .u64 a.u.se,.int .i64 a.u.fl,.int .u64 a.v,.int .i64 a.n]
def OpP.val (a:OpP):Value := .agg a.cells
structure OpP.wf (a:OpP):Prop where
 o0:0≤a.o
 o1:a.o<18446744073709551616
 p0:0≤a.p
 p1:a.p<18446744073709551616
 kl:a.k.size≤maxLen
 u:a.u.ok
 v:0≤a.v∧a.v<18446744073709551616
structure TbAt (w:World):Prop where
 fp:FpAt w
 pw : Lib.TabIs Tryz.prog w "internal/strconv.uint64pow10" .u64 Lib.pow10Tab
theorem TbAt.below {w w':World}(h:TbAt w)(hb:Below w.heap.size w w'):TbAt w':=⟨h.fp.below hb,(Lib.tabBelow_of_tabIs h.pw) w' hb⟩
theorem kindsP (k:Int):k=0∨k=1∨k=2∨k=3∨k=4∨k=5∨k=6∨k=8∨(∀j:Int,(j=0∨j=1∨j=2∨j=3∨j=4∨j=5∨j=6∨j=8)→¬k=j):=by
 by_cases c:k=0∨k=1∨k=2∨k=3∨k=4∨k=5∨k=6∨k=8
 ·omega
 ·exact Or.inr (Or.inr (Or.inr (Or.inr (Or.inr (Or.inr (Or.inr (Or.inr (fun j hj e=>c (by omega)))))))))
section
variable {H:He}{S:List So}{a:OpP}
theorem pH_0 (h:a.kd=0):pH H a=makeF H a.n a.p:=by unfold pH;rw[h];rfl
theorem pS_0 (h:a.kd=0):pS S a=makeG S a.n a.p:=by unfold pS;rw[h];rfl
theorem pH_1 (h:a.kd=1):pH H a=(defP H a.o a.k a.u).2:=by unfold pH;rw[h];rfl
theorem pS_1 (h:a.kd=1):pS S a=(dfG S a.o a.k a.u).1:=by unfold pS;rw[h];rfl
theorem pH_2 (h:a.kd=2):pH H a=(delP H a.o a.k).2:=by unfold pH;rw[h];rfl
theorem pS_2 (h:a.kd=2):pS S a=(delG' S a.o a.k).1:=by unfold pS;rw[h];rfl
theorem pH_3 (h:a.kd=3):pH H a=(asgP H a.o a.k a.v H.obs.length).2.2:=by unfold pH;rw[h];rfl
theorem pS_3 (h:a.kd=3):pS S a=(asgG S a.o a.k a.v).2.2:=by unfold pS;rw[h];rfl
theorem pH_4 (h:a.kd=4):pH H a=(spP H a.o a.p).2:=by unfold pH;rw[h];rfl
theorem pS_4 (h:a.kd=4):pS S a=(spG S a.o a.p).1:=by unfold pS;rw[h];rfl
theorem pH_5 (h:a.kd=5):pH H a=H:=by unfold pH;rw[h];rfl
theorem pS_5 (h:a.kd=5):pS S a=S:=by unfold pS;rw[h];rfl
theorem pH_6 (h:a.kd=6):pH H a=H:=by unfold pH;rw[h];rfl
theorem pS_6 (h:a.kd=6):pS S a=S:=by unfold pS;rw[h];rfl
theorem pH_8 (h:a.kd=8):pH H a=closeH H a.o:=by unfold pH;rw[h];rfl
theorem pS_8 (h:a.kd=8):pS S a=shutG S a.o:=by unfold pS;rw[h];rfl
theorem pH_no (h:∀j:Int,(j=0∨j=1∨j=2∨j=3∨j=4∨j=5∨j=6∨j=8)→¬a.kd=j):pH H a=H:=by
 unfold pH
 rw[if_neg (h 0 (by omega)),if_neg (h 1 (by omega)),if_neg (h 2 (by omega)),if_neg (h 3 (by omega)),if_neg (h 4 (by omega)),if_neg (h 8 (by omega))]
theorem pS_no (h:∀j:Int,(j=0∨j=1∨j=2∨j=3∨j=4∨j=5∨j=6∨j=8)→¬a.kd=j):pS S a=S:=by
 unfold pS
 rw[if_neg (h 0 (by omega)),if_neg (h 1 (by omega)),if_neg (h 2 (by omega)),if_neg (h 3 (by omega)),if_neg (h 4 (by omega)),if_neg (h 8 (by omega))]
end
end Go.Proofs.YtahhionlbfhinabGreatDoor.Hp
