/- KG, XC -/
import Derived.Test.YtahhionlbfhinaaGreatDoorB15
import Derived.Laws.IdiomStrings
import Derived.Test.YtahhionlbfhinaaGreatDoorXD
import Derived.Test.YtahhionlbfhinaaGreatDoorB16
import Derived.Test.YtahhionlbfhinaaGreatDoorB36
set_option linter.unusedVariables false
set_option linter.unusedSimpArgs false
set_option maxRecDepth 100000
set_option maxHeartbeats 40000000
namespace Go.Proofs.YtahhionlbfhinaaGreatDoor.Hp
open Go.RowKit
def baS (l:List UInt8):ByteArray:=⟨l.toArray⟩
theorem baS_app (l m:List UInt8):baS l++baS m=baS (l++m):=by
 apply ByteArray.ext
 show _=(l++m).toArray
 rw[ByteArray.data_append]
 simp[baS]
theorem dg_len:∀(f n:Nat),(dgF f n).length≤f+1
 | 0,n=>by simp[dgF]
 | f+1,n=>by
   unfold dgF
   split
   ·simp
   ·have:=dg_len f (n / 10)
    rw[List.length_append]
    simp
    omega
theorem conv_one (W:World)(g:Nat)(d:UInt8)(z:Int)(hz:z=(d.toNat:Int))(h:W.heap[g]?=some (.cells #[.int .u8 z] 5 (0,0))):(convert 187 9 (.slice (some ⟨g,0,none⟩) 1 1)).run Tryz.prog W = .ok (.string (baS [d])) W:=by
 refine run_convert_bytes_back (P:=Tryz.prog) W 187 9 5 ⟨g,0,none⟩ 1 [d] Tryz.underlying187 Tryz.underlying5 Tryz.underlying9 (fun j hj => ?_)
 obtain rfl:j=0:=by simp at hj;omega
 show W.cell? ⟨g,0,none⟩=_
 rw[cell_of_row W g 0 _ _ (0,0) h,hz]
 rfl
theorem digits_any:∀(f n:Nat)(w:World),f≤4→n<10 ^ (f+1)→Calls Tryz.prog 116 #[.int .i64 (n:Int)] w fun e w'=>e = .returned (.string (baS (dgF f n)))∧Below w.heap.size w w':=by
 intro f
 induction f with
 | zero =>
   intro n w hf hn
   have hn:n<10:=by simpa using hn
   have e:dgF 0 n=[UInt8.ofNat (48+n)]:=by unfold dgF;rw[Nat.mod_eq_of_lt hn]
   rw[e]
   have hcv:=conv_one (w.alloc (.cells #[.int .u8 (48+(n:Int))] 5)) w.heap.size (UInt8.ofNat (48+n)) (48+(n:Int)) (by rw[ofn n hn];omega) (at_new _ _)
   have HB:Hid (Below w.heap.size w (w.alloc (.cells #[.int .u8 (48+(n:Int))] 5))):=(Below.refl _ _).alloc (Nat.le_refl _) _
   have h1:(n:Int)<10:=by omega
   clear hn hf e
   generalize baS [UInt8.ofNat (48+n)]=R0 at *
   go_enter Tryz.func116,Tryz.ntmps116
   go_wp2_with fail
   go_ret
   exact⟨rfl,HB.out⟩
 | succ f ih =>
   intro n w hf hn
   have hn5:n<100000:=Nat.lt_of_lt_of_le hn (by have:=Nat.pow_le_pow_right (n:=10) (by omega) (show f+1+1≤5 by omega);omega)
   by_cases c:n<10
   ·have e:dgF (f+1) n=[UInt8.ofNat (48+n)]:=by unfold dgF;rw[if_pos c]
    rw[e]
    have hcv:=conv_one (w.alloc (.cells #[.int .u8 (48+(n:Int))] 5)) w.heap.size (UInt8.ofNat (48+n)) (48+(n:Int)) (by rw[ofn n c];omega) (at_new _ _)
    have HB:Hid (Below w.heap.size w (w.alloc (.cells #[.int .u8 (48+(n:Int))] 5))):=(Below.refl _ _).alloc (Nat.le_refl _) _
    have h1:(n:Int)<10:=by omega
    clear hn hf e c ih
    generalize baS [UInt8.ofNat (48+n)]=R0 at *
    go_enter Tryz.func116,Tryz.ntmps116
    go_wp2_with fail
    go_ret
    exact⟨rfl,HB.out⟩
   ·have e:dgF (f+1) n=dgF f (n / 10)++[UInt8.ofNat (48+n % 10)]:=by rw[dgF];rw[if_neg c]
    have h2:n / 10<10 ^ (f+1):=by
     rw[Nat.pow_succ] at hn
     exact Nat.div_lt_of_lt_mul (by omega)
    obtain⟨q,hq⟩:∃q:Int,q=((n / 10:Nat):Int):=⟨_,rfl⟩
    obtain⟨m,hm⟩:∃m:Int,m=((n % 10:Nat):Int):=⟨_,rfl⟩
    obtain⟨z,hz⟩:∃z:Int,z=48+m:=⟨_,rfl⟩
    have hm10:n % 10<10:=Nat.mod_lt _ (by omega)
    have w1:IntKind.i64.wrap ((n:Int) / 10)=q:=by rw[IntKind.wrap_i64];omega
    have w2:(n:Int).tmod 10=m:=by rw[Int.tmod_eq_emod_of_nonneg (by omega)];omega
    have w3:IntKind.i64.wrap (48+m)=z:=by rw[IntKind.wrap_i64];omega
    have w4:IntKind.u8.wrap z=z:=by rw[IntKind.wrap_u8];omega
    have kd:∀W:World,Calls Tryz.prog 116 #[.int .i64 q] W fun e w'=>e = .returned (.string (baS (dgF f (n / 10))))∧Below W.heap.size W w':=fun W=>by rw[hq];exact ih (n / 10) W (by omega) h2
    have HC:Hid (∀(W:World) (g:Nat),W.heap[g]?=some (.cells #[.int .u8 z] 5 (0,0))→(convert 187 9 (.slice (some ⟨g,0,none⟩) 1 1)).run Tryz.prog W = .ok (.string (baS [UInt8.ofNat (48+n % 10)])) W):=fun W g h=>conv_one W g _ _ (by rw[ofn _ hm10];omega) h
    have hcv:∀W:World,(convert 187 9 (.slice (some ⟨W.heap.size,0,none⟩) 1 1)).run Tryz.prog (W.alloc (.cells #[.int .u8 z] 5)) = .ok (.string (baS [UInt8.ofNat (48+n % 10)])) (W.alloc (.cells #[.int .u8 z] 5)):=fun W=>HC.out _ _ (at_new _ _)
    have hcvD:∀W:World,(convert 187 9 (.slice (some ⟨W.heap.size,0,none⟩) 1 1)).run Tryz.prog (W.alloc (.cells #[.int .u8 z] 5)).drew = .ok (.string (baS [UInt8.ofNat (48+n % 10)])) (W.alloc (.cells #[.int .u8 z] 5)).drew:=fun W=>HC.out _ _ (at_new _ _)
    have HE:Hid (baS (dgF (f+1) n)=baS (dgF f (n / 10))++baS [UInt8.ofNat (48+n % 10)]):=by show _=_;rw[baS_app,e]
    have h1:¬(n:Int)<10:=by omega
    have z1:((baS (dgF f (n / 10))).size:Int)≤100:=by
     have:=dg_len f (n / 10)
     show(((dgF f (n / 10)).toArray.size:Nat):Int)≤100
     simp
     omega
    have z2:(baS [UInt8.ofNat (48+n % 10)]).size=1:=rfl
    clear hn hf e ih h2 hm hz hq hm10 c
    generalize baS (dgF (f+1) n)=R at *
    generalize baS [UInt8.ofNat (48+n % 10)]=R2 at *
    generalize baS (dgF f (n / 10))=R1 at *
    go_enter Tryz.func116,Tryz.ntmps116
    go_wp2_with fail
    go_region_with ((go_at_call 116;refine(kd _).mono ?_;rintro e w5 ⟨rfl,hB5⟩;first | (have hlt:w.heap.size<(w.alloc (.cells #[.int .u8 z] 5)).drew.heap.size:=Nat.lt_of_lt_of_eq (Nat.lt_succ_self _) (size_new w _).symm;have hC:=HC.out w5 w.heap.size (by rw[hB5.block _ hlt];exact at_new _ _);have HF:Hid (Below w.heap.size w w5):=((Below.refl w.heap.size w).alloc (Nat.le_refl _) _).drew.trans (hB5.mono (Nat.le_of_lt hlt));clear hB5 hlt) | (have HF:Hid (Below w.heap.size w w5):=⟨hB5.os,hB5.tape,hB5.output,hB5.size,hB5.block⟩;clear hB5)))
    all_goals
     go_wp2_with fail
     go_ret
     refine⟨by rw[HE.out];rfl,?_⟩
     first
     | exact HF.out
     | exact HF.out.alloc HF.out.size _
def keysM (x:So)(j:Nat):List ByteArray:=(((x.nm.zip x.ds).take j).filter (fun q=>bits .and .i64 q.2.fl 2 != 0)).map Prod.fst
theorem keysM_yes {x:So}{j:Nat}{k:ByteArray}{d:De}(hk:x.nm[j]?=some k)(hd:x.ds[j]?=some d)(h:(bits .and .i64 d.fl 2 != 0)=true):keysM x (j+1)=keysM x j++[k]:=by
 have hz:(x.nm.zip x.ds)[j]?=some (k,d):=by rw[List.getElem?_zip_eq_some];exact⟨hk,hd⟩
 unfold keysM
 rw[List.take_add_one,hz,List.filter_append,List.map_append]
 simp[h]
theorem keysM_no {x:So}{j:Nat}{k:ByteArray}{d:De}(hk:x.nm[j]?=some k)(hd:x.ds[j]?=some d)(h:(bits .and .i64 d.fl 2 != 0)=false):keysM x (j+1)=keysM x j:=by
 have hz:(x.nm.zip x.ds)[j]?=some (k,d):=by rw[List.getElem?_zip_eq_some];exact⟨hk,hd⟩
 unfold keysM
 rw[List.take_add_one,hz,List.filter_append,List.map_append]
 simp[h]
theorem keysM_len (x:So)(j:Nat):(keysM x j).length≤x.nm.length:=by
 unfold keysM
 rw[List.length_map]
 refine Nat.le_trans (List.length_filter_le _ _) (Nat.le_trans (List.length_take_le' _ _) ?_)
 rw[List.length_zip]
 exact Nat.min_le_left _ _
theorem keysS_eq {x:So}(h:x.nm.length=x.ds.length):keysS x=keysE x.el x.el.length++keysM x x.nm.length:=by
 unfold keysS keysE keysM
 rw[List.take_of_length_le (by rw[List.length_zip];exact Nat.min_le_left _ _)]
 simp only[elS_I]
theorem rdigits_at (n:Nat)(hn:n<4096)(w:World):Calls Tryz.prog 116 #[.int .i64 (n:Int)] w fun e w'=>e = .returned (.string (dgI n))∧Below w.heap.size w w':=digits_any 4 n w (Nat.le_refl _) (by omega)
section
variable {w W W' w' w1:World}{B b n:Nat}{tg:Nat→Nat}{S:List So}{vo vt:SV}{qs:List QV}
theorem rkeys_miss (h:StAt w B tg S vo qs)(vt:SV)(o:Int)(o0:0≤o)(o1:o<18446744073709551616)(hs:soO S o=none) :
  Calls Tryz.prog 89 #[stV vo vt,.int .u64 o] w fun e w'=>e = .returned (.slice none 0 0)∧Below w.heap.size w w':=by
 obtain⟨wb,hwb⟩:∃wb,wb=w.alloc (.cells #[vo.val,vt.val] 28):=⟨_,rfl⟩
 have hB:Below w.heap.size w wb:=by rw[hwb];exact(Below.refl _ _).alloc (Nat.le_refl _) _
 have hbs:BxS wb w.heap.size vo vt:=by rw[hwb];exact BxS.new w vo vt
 have HBS:Hid (∀W,Below wb.heap.size wb W→BxS W w.heap.size vo vt):=fun W r=>hbs.below r
 have HLN:Hid (∀W,Below wb.heap.size wb W→Calls Tryz.prog 74 #[stV vo vt,.int .u64 o] W fun e w'=>e = .returned (.int .i64 0)∧Below W.heap.size W w'):=fun W r=>by
  have:=rlen_o ((h.below hB).below r) vt o o0 o1
  rw[show lenO S o=0 by unfold lenO;rw[hs];rfl] at this
  exact this
 have HAT:Hid (∀W,Below wb.heap.size wb W→Calls Tryz.prog 20 #[stV vo vt,.int .u64 o] W fun e w'=>e = .returned (.int .i64 (-1))∧Below W.heap.size W w'):=fun W r=>by
  have:=rat_o ((h.below hB).below r) vt o o0 o1
  rw[show atI S o = -1 by unfold atI;rw[soO_none hs o0 o1]] at this
  exact this
 have HBB:Hid (Below w.heap.size w wb):=hB
 obtain⟨va,vl,vc⟩:=vo
 obtain⟨ta,tl,tc⟩:=vt
 unfold stV at *
 rw[show(SV.mk va vl vc).val = .slice va vl vc from rfl,show(SV.mk ta tl tc).val = .slice ta tl tc from rfl] at *
 clear h hs hB hbs
 go_enter Tryz.func89,Tryz.ntmps89
 go_upto_region 1 with fail
 rw[←hwb]
 clear hwb
 go_wp2_with fail
 go_loopw [5,6] (fun kv iv wr=>kv = .slice none 0 0∧iv = .int .i64 0∧Hid (Below wb.heap.size wb wr)) (fun kv iv wr=>0)
 case atStart=>exact⟨rfl,rfl,Below.refl _ _⟩
 case round =>
  obtain⟨rfl,rfl,HW⟩:=hrel
  obtain⟨b0,b1⟩:=(HBS.out wr HW.out).ce
  rw[show(SV.mk va vl vc).val = .slice va vl vc from rfl] at b0
  rw[show(SV.mk ta tl tc).val = .slice ta tl tc from rfl] at b1
  go_wp2_with fail
  refine(HLN.out wr HW.out).mono ?_
  rintro e w2 ⟨rfl,hB2⟩
  have HW2:=(show Hid (Below wb.heap.size wb w2) from bel_sm' HW.out hB2)
  clear hB2 HW b0 b1 HLN
  obtain⟨b0,b1⟩:=(HBS.out w2 HW2.out).ce
  rw[show(SV.mk va vl vc).val = .slice va vl vc from rfl] at b0
  rw[show(SV.mk ta tl tc).val = .slice ta tl tc from rfl] at b1
  go_wp2_with fail
  refine(HAT.out w2 HW2.out).mono ?_
  rintro e w3 ⟨rfl,hB3⟩
  have HW3:=(show Hid (Below w.heap.size w w3) from bel_sm' HBB.out (bel_sm' HW2.out hB3))
  clear hB3 HW2 b0 b1 HAT
  go_wp2_with fail
  go_ret
  exact⟨rfl,HW3.out⟩
theorem rkeys_hit (h:StAt w B tg S vo qs)(vt:SV)(o:Int)(o0:0≤o)(o1:o<18446744073709551616){x:So}(hs:soO S o=some x)(hnl:x.nm.length≤1999999999999)(hel:x.el.length≤4096) :
  Calls Tryz.prog 89 #[stV vo vt,.int .u64 o] w fun e w'=>∃s:SV,e = .returned s.val∧OwnR strC 1 9 w.heap.size w' s.val (keysS x)∧Below w.heap.size w w':=by
 obtain⟨i,hbs0,hi⟩:∃i,obS S o=some i∧S[i]?=some x:=by
  unfold soO at hs
  cases e:obS S o with
  | none=>rw[e] at hs;cases hs
  | some i=>rw[e] at hs;exact⟨i,rfl,hs⟩
 obtain⟨wb,hwb⟩:∃wb,wb=w.alloc (.cells #[vo.val,vt.val] 28):=⟨_,rfl⟩
 have hB:Below w.heap.size w wb:=by rw[hwb];exact(Below.refl _ _).alloc (Nat.le_refl _) _
 have hbs:BxS wb w.heap.size vo vt:=by rw[hwb];exact BxS.new w vo vt
 have HBS:Hid (∀W,Below wb.heap.size wb W→BxS W w.heap.size vo vt):=fun W r=>hbs.below r
 have h2:=h.below hB
 have HLN:Hid (∀W,Below wb.heap.size wb W→Calls Tryz.prog 74 #[stV vo vt,.int .u64 o] W fun e w'=>e = .returned (.int .i64 (x.el.length:Int))∧Below W.heap.size W w'):=fun W r=>by
  have:=rlen_o (h2.below r) vt o o0 o1
  rw[show lenO S o=x.el.length by unfold lenO;rw[hs];rfl] at this
  exact this
 have HEL:Hid (∀W n,Below wb.heap.size wb W→Calls Tryz.prog 75 #[stV vo vt,.int .u64 o,.int .i64 n] W fun e w'=>e = .returned (.tuple #[.int .u64 ((elemI x.el n).getD 18445336698825998336),.bool (elemI x.el n).isSome])∧Below W.heap.size W w'):=fun W n r=>by
  have:=relem_o (h2.below r) vt o o0 o1 n
  rw[hs,Option.bind_some,elS_I] at this
  exact this
 have HAT:Hid (∀W,Below wb.heap.size wb W→Calls Tryz.prog 20 #[stV vo vt,.int .u64 o] W fun e w'=>e = .returned (.int .i64 (i:Int))∧Below W.heap.size W w'):=fun W r=>by
  have:=rat_o (h2.below r) vt o o0 o1
  rw[show atI S o=(i:Int) by unfold atI;rw[hbs0]] at this
  exact this
 obtain⟨g,cap,q,hv,hq,t1,hgl,hcell,hfz,hl1,hl2,hrow⟩:=h2.obj hi
 have hsame:=h.same x (List.mem_of_getElem? hi)
 have z0:RowIn strC 1 9 B wb _ q.vn x.nm:=h2.ob i x q 0 hi hq (by omega)
 have z1:RowIn deC 3 41 B wb _ q.vd x.ds:=h2.ob i x q 1 hi hq (by omega)
 obtain⟨p1,p2,p3,p4⟩:=z0.open rtStr.len
 obtain⟨s1,s2,s3,s4⟩:=z1.open rtDe.len
 have HOB:Hid (∀W,Below wb.heap.size wb W→W.cell? ⟨g,i*7+3,none⟩=some q.vn.val∧W.cell? ⟨g,i*7+4,none⟩=some q.vd.val):=fun W r=>⟨cells_below r _ _ (hcell 3 _ rfl),cells_below r _ _ (hcell 4 _ rfl)⟩
 have HNM:Hid (∀W j u,Below wb.heap.size wb W→x.nm[j]?=some u→∃gl,q.vn.ad=some ⟨gl,0,none⟩∧W.cell? ⟨gl,j,none⟩=some (.string u)):=fun W j u r hj=>by
  obtain⟨gl,e1,_,_,_,hc,_⟩:=p4 (by intro e;rw[e] at hj;simp at hj)
  have:=hc j u hj 0 _ rfl
  simp only[Nat.mul_one,Nat.add_zero] at this
  exact⟨gl,e1,cells_below r _ _ this⟩
 have HDS:Hid (∀W j d,Below wb.heap.size wb W→x.ds[j]?=some d→∃gl,q.vd.ad=some ⟨gl,0,none⟩∧W.cell? ⟨gl,j*3+2,none⟩=some (.int .i64 d.fl)):=fun W j d r hj=>by
  obtain⟨gl,e1,_,_,_,hc,_⟩:=s4 (by intro e;rw[e] at hj;simp at hj)
  exact⟨gl,e1,cells_below r _ _ (hc j d hj 2 _ rfl)⟩
 have hil:i<S.length:=(List.getElem?_eq_some_iff.1 hi).1
 have hii:(i:Int)<(S.length:Int):=by omega
 have hbig:=h.big
 have hsl:(S.length:Int)≤65536:=by omega
 have h0i:¬((i:Int)<0):=by omega
 have HEN:Hid (keysS x=keysE x.el x.el.length++keysM x x.nm.length):=keysS_eq hsame.symm
 have HBB:Hid (Below w.heap.size w wb):=hB
 subst hv
 generalize hke:keysE x.el=kE at *
 have HKE:Hid (kE=keysE x.el):=hke.symm
 have HPS:Hid (x.nm.length≤1999999999999∧x.el.length≤4096∧x.nm.length=x.ds.length):=⟨hnl,hel,hsame.symm⟩
 have hel4:(x.el.length:Int)≤4096:=by omega
 have hnl4:(x.nm.length:Int)≤1999999999999:=by omega
 have hdl:(x.nm.length:Int)=(x.ds.length:Int):=by rw[hsame]
 generalize hxl:x.el.length=nel at *
 obtain⟨ta,tl,tc⟩:=vt
 obtain⟨⟨na,nl,nc⟩,⟨da,dl,dc⟩,ve,vi⟩:=q
 simp only at p1 s1 HOB HNM HDS
 rw[show(SV.mk na nl nc).val = .slice na nl nc from rfl,show(SV.mk da dl dc).val = .slice da dl dc from rfl] at HOB
 subst p1 s1
 unfold stV at *
 rw[show(SV.mk (some ⟨g,0,none⟩) S.length cap).val = .slice (some ⟨g,0,none⟩) S.length cap from rfl,show(SV.mk ta tl tc).val = .slice ta tl tc from rfl] at *
 rw[←hsame] at hdl
 clear h h2 hs hi hbs0 hB hbs hq t1 hgl hcell hfz hl1 hl2 hrow z0 z1 p2 p3 p4 s2 s3 s4 hil hbig hnl hel hke hxl hdl
 go_enter Tryz.func89,Tryz.ntmps89
 go_upto_region 1 with fail
 rw[←hwb]
 clear hwb
 go_wp2_with fail
 go_loopw [5,6] (fun kv iv wr=>∃(j:Nat) (xs:List ByteArray) (sa:Option Addr) (sc:Nat),(j≤nel∧Hid (xs=kE j∧PkAt wb wr (.slice none 0 0) [] (.slice sa xs.length sc) xs))∧kv = .slice sa xs.length sc∧iv = .int .i64 j) (fun kv iv wr=>nel - (intOf iv).toNat)
 case atStart=>exact⟨0,[],none,0,⟨Nat.zero_le _,by rw[HKE.out];rfl,OwnR.nil _ _,OwnR.nil _ _,fun b q=>(by simp[Value.ownBlock] at q),Below.refl _ _⟩,rfl,rfl⟩
 case round =>
  obtain⟨j,xs,sa,sc,⟨ple,HP⟩,rfl,rfl⟩:=hrel
  have HXL:Hid (xs.length≤4096∧True):=by
   have:=keysE_len x.el j
   rw[HP.out.1,HKE.out]
   have:=HPS.out.2.1
   exact⟨by omega,trivial⟩
  obtain⟨b0,b1⟩:=(HBS.out wr HP.out.2.bel).ce
  rw[show(SV.mk (some ⟨g,0,none⟩) S.length cap).val = .slice (some ⟨g,0,none⟩) S.length cap from rfl] at b0
  rw[show(SV.mk ta tl tc).val = .slice ta tl tc from rfl] at b1
  have kl:=HLN.out wr HP.out.2.bel
  go_wp2_with fail
  refine kl.mono ?_
  rintro e w2 ⟨rfl,hB2⟩
  have HP2:=(show Hid _ from HP.out.2.below hB2)
  have HX:=(show Hid _ from HP.out.1)
  clear hB2 kl HP b0 b1
  rcases Nat.lt_or_ge j nel with c | c
  ·have cl:(j:Int)<nel:=by omega
   obtain⟨b0,b1⟩:=(HBS.out w2 HP2.out.bel).ce
   rw[show(SV.mk (some ⟨g,0,none⟩) S.length cap).val = .slice (some ⟨g,0,none⟩) S.length cap from rfl] at b0
   rw[show(SV.mk ta tl tc).val = .slice ta tl tc from rfl] at b1
   have ke:=HEL.out w2 j HP2.out.bel
   have HC:Hid (j<nel∧nel≤4096):=⟨c,HPS.out.2.1⟩
   cases hv:elemI x.el (j:Int) with
   | none =>
     rw[hv] at ke
     simp only[Option.getD_none,Option.isSome_none] at ke
     have HN:Hid (xs=kE (j+1)):=by
      have:=keysE_no hv
      rw[←HKE.out] at this
      show xs=_
      rw[this];exact HX.out
     clear hv HEL HLN HAT HOB HNM HDS HEN HKE HPS HXL HX c
     go_wp2_with fail
     refine ke.mono ?_
     rintro e w3 ⟨rfl,hB3⟩
     have HP3:=(show Hid _ from HP2.out.below hB3)
     clear ke hB3 HP2
     go_wp2_with fail
     refine⟨⟨j+1,xs,sa,sc,⟨HC.out.1,⟨HN.out,HP3.out⟩⟩,rfl,by go_num⟩,?_⟩
     have:=HC.out.1
     simp[intOf]
     omega
   | some v =>
     rw[hv] at ke
     simp only[Option.getD_some,Option.isSome_some] at ke
     have kdg:=fun W=>rdigits_at j (by have:=HC.out;omega) W
     have HN:Hid (kE (j+1)=xs++[dgI j]):=by
      have:=keysE_yes hv
      rw[←HKE.out] at this
      show kE (j+1)=_
      rw[this,HX.out]
     clear hv HEL HLN HAT HOB HNM HDS HEN HKE HPS HX c
     go_wp2_with fail
     refine ke.mono ?_
     rintro e w3 ⟨rfl,hB3⟩
     have HP3:=(show Hid _ from HP2.out.below hB3)
     clear ke hB3 HP2 b0 b1
     generalize dgI j=dk at *
     go_wp2_with fail
     refine(kdg _).mono ?_
     rintro e w4 ⟨rfl,hB4⟩
     have HP4:=(show Hid _ from HP3.out.below hB4)
     clear kdg hB4 HP3
     have HAL:Hid (Below w4.heap.size w4 (w4.alloc (.cells #[.string dk] 9))):=(Below.refl _ _).alloc (Nat.le_refl _) _
     have HPA:=(show Hid _ from HP4.out.below HAL.out)
     have HOWN:Hid (OwnR strC 1 9 wb.heap.size (w4.alloc (.cells #[.string dk] 9)) (.slice sa xs.length sc) xs):=HPA.out.own
     have HONE:Hid (Sli.ok strC 1 (w4.alloc (.cells #[.string dk] 9)) ⟨some ⟨w4.heap.size,0,none⟩,1,[dk]⟩):=one_sli rtStr (at_new _ _) rfl
     have HSZ:Hid (wb.heap.size≤(w4.alloc (.cells #[.string dk] 9)).heap.size):=HPA.out.bel.size
     have HBX:Hid (((xs.length+1)+(xs.length+1) / 4+192)*16≤281474976710656∧xs.length+1≤maxLen):=by
      have h1:=HXL.out.1
      exact⟨by omega,by unfold maxLen;omega⟩
     clear HXL HP4
     go_wp2_with (at_builtin;refine app_row rtStr rfl _ _ rfl wb.heap.size (.slice sa xs.length sc) xs (by rfl) HOWN.out ⟨some ⟨w4.heap.size,0,none⟩,1,[dk]⟩ (by rfl) HONE.out HBX.out.2 HBX.out.1 HSZ.out ?_)
     intro v6 w6 ho6 hg6 hl6
     have hll:(xs++[dk]).length=xs.length+1:=by simp
     have ho7:w6.ownsRow wb.heap.size 9 1 v6 (xs.length+1) ((xs++[dk]).flatMap strC):=by rw[←hll];exact ho6
     obtain⟨g6,c6,rfl,_,_⟩:=ho7.form (by omega)
     have hpn:=HPA.out.app ho6 hg6 (by rw[size_new];exact hl6)
     have HPN:=(show Hid _ from hpn)
     have HLL:Hid ((xs++[dk]).length=xs.length+1):=hll
     clear ho6 ho7 hg6 hl6 hll hpn HAL HPA HOWN HONE HSZ HBX
     rw[←HN.out] at HPN HLL
     obtain⟨xs2,hx2⟩:∃y,y=kE (j+1):=⟨_,rfl⟩
     rw[←hx2] at HPN HLL
     have HX2:Hid (xs2=kE (j+1)):=hx2
     clear hx2 HN
     go_wp2_with fail
     refine⟨⟨j+1,xs2,some ⟨g6,0,none⟩,c6,⟨HC.out.1,⟨HX2.out,by rw[HLL.out];exact HPN.out⟩⟩,by rw[HLL.out],by go_num⟩,?_⟩
     have:=HC.out.1
     simp[intOf]
     omega
  ·have hil:¬((j:Int)<nel):=by omega
   have hje:j=nel:=by omega
   subst hje
   clear c HEL HLN ple
   obtain⟨b0,b1⟩:=(HBS.out w2 HP2.out.bel).ce
   rw[show(SV.mk (some ⟨g,0,none⟩) S.length cap).val = .slice (some ⟨g,0,none⟩) S.length cap from rfl] at b0
   rw[show(SV.mk ta tl tc).val = .slice ta tl tc from rfl] at b1
   have ka:=HAT.out w2 HP2.out.bel
   go_wp2_with fail
   refine ka.mono ?_
   rintro e w3 ⟨rfl,hB3⟩
   have HP3:=(show Hid _ from HP2.out.below hB3)
   clear ka hB3 HP2 b0 b1 HAT hil
   go_wp2_with fail
   go_loopw [5,10] (fun kv iv wr=>∃(l:Nat) (ys:List ByteArray) (sa:Option Addr) (sc:Nat),(l≤x.nm.length∧Hid (ys=xs++keysM x l∧PkAt wb wr (.slice none 0 0) [] (.slice sa ys.length sc) ys))∧kv = .slice sa ys.length sc∧iv = .int .i64 l) (fun kv iv wr=>x.nm.length - (intOf iv).toNat)
   case atStart =>
    refine⟨0,xs,sa,sc,⟨Nat.zero_le _,?_,HP3.out⟩,rfl,rfl⟩
    show xs=xs++[]
    rw[List.append_nil]
   case round =>
    have HXX:Hid (xs.length≤4096∧xs=kE j):=⟨HXL.out.1,HX.out⟩
    clear HP3 HXL HX
    obtain⟨l,ys,sa,sc,⟨ple2,HP⟩,rfl,rfl⟩:=hrel
    have HYL:Hid (ys.length≤2000000004095):=by
     have:=keysM_len x l
     have e:=HP.out.1
     have:=HPS.out.1
     have:=HXX.out.1
     show _≤_
     rw[e,List.length_append]
     omega
    obtain⟨b0,b1⟩:=(HBS.out wr HP.out.2.bel).ce
    rw[show(SV.mk (some ⟨g,0,none⟩) S.length cap).val = .slice (some ⟨g,0,none⟩) S.length cap from rfl] at b0
    rw[show(SV.mk ta tl tc).val = .slice ta tl tc from rfl] at b1
    obtain⟨d3,d4⟩:=HOB.out wr HP.out.2.bel
    rcases Nat.lt_or_ge l x.nm.length with c | c
    ·have cl:(l:Int)<x.nm.length:=by omega
     have cl2:(l:Int)<x.ds.length:=by have:=HPS.out.2.2;omega
     obtain⟨k,hk⟩:∃k,x.nm[l]?=some k:=⟨_,List.getElem?_eq_getElem c⟩
     obtain⟨d,hd⟩:∃d,x.ds[l]?=some d:=⟨_,List.getElem?_eq_getElem (by have:=HPS.out.2.2;omega)⟩
     obtain⟨gn,rfl,dn⟩:=HNM.out wr l k HP.out.2.bel hk
     obtain⟨gd,rfl,dd⟩:=HDS.out wr l d HP.out.2.bel hd
     have HC:Hid (l<x.nm.length):=c
     have hlx:(x.ds.length:Int)≤1999999999999:=by have:=HPS.out.2.2;omega
     cases hb:(bits .and .i64 d.fl 2 != 0) with
     | false =>
       have HN:Hid (ys=xs++keysM x (l+1)):=by
        show ys=_
        rw[keysM_no hk hd hb];exact HP.out.1
       clear hk hd HNM HDS HOB HEN HKE HPS HXX HYL c
       go_wp2_with fail
       refine⟨⟨l+1,ys,sa,sc,⟨HC.out,⟨HN.out,HP.out.2⟩⟩,rfl,by go_num⟩,?_⟩
       have:=HC.out
       simp[intOf]
       omega
     | true =>
       have HN:Hid (xs++keysM x (l+1)=ys++[k]):=by
        show xs++keysM x (l+1)=_
        rw[keysM_yes hk hd hb,←List.append_assoc,←HP.out.1]
       have HPY:=(show Hid _ from HP.out.2)
       have HXL:Hid (ys.length≤2000000004095∧True):=⟨HYL.out,trivial⟩
       clear hk hd HNM HDS HOB HEN HKE HPS HXX HYL c HP
       have HAL:Hid (Below wr.heap.size wr (wr.alloc (.cells #[.string k] 9))):=(Below.refl _ _).alloc (Nat.le_refl _) _
       have HPA:=(show Hid _ from HPY.out.below HAL.out)
       have HOWN:Hid (OwnR strC 1 9 wb.heap.size (wr.alloc (.cells #[.string k] 9)) (.slice sa ys.length sc) ys):=HPA.out.own
       have HONE:Hid (Sli.ok strC 1 (wr.alloc (.cells #[.string k] 9)) ⟨some ⟨wr.heap.size,0,none⟩,1,[k]⟩):=one_sli rtStr (at_new _ _) rfl
       have HSZ:Hid (wb.heap.size≤(wr.alloc (.cells #[.string k] 9)).heap.size):=HPA.out.bel.size
       have HBX:Hid (((ys.length+1)+(ys.length+1) / 4+192)*16≤281474976710656∧ys.length+1≤maxLen):=by
        have h1:=HXL.out.1
        exact⟨by omega,by unfold maxLen;omega⟩
       clear HXL HPY
       go_wp2_with (at_builtin;refine app_row rtStr rfl _ _ rfl wb.heap.size (.slice sa ys.length sc) ys (by rfl) HOWN.out ⟨some ⟨wr.heap.size,0,none⟩,1,[k]⟩ (by rfl) HONE.out HBX.out.2 HBX.out.1 HSZ.out ?_)
       intro v6 w6 ho6 hg6 hl6
       have hll:(ys++[k]).length=ys.length+1:=by simp
       have ho7:w6.ownsRow wb.heap.size 9 1 v6 (ys.length+1) ((ys++[k]).flatMap strC):=by rw[←hll];exact ho6
       obtain⟨g6,c6,rfl,_,_⟩:=ho7.form (by omega)
       have hpn:=HPA.out.app ho6 hg6 (by rw[size_new];exact hl6)
       have HPN:=(show Hid _ from hpn)
       have HLL:Hid ((ys++[k]).length=ys.length+1):=hll
       clear ho6 ho7 hg6 hl6 hll hpn HAL HPA HOWN HONE HSZ HBX
       rw[←HN.out] at HPN HLL
       obtain⟨xs2,hx2⟩:∃y,y=xs++keysM x (l+1):=⟨_,rfl⟩
       rw[←hx2] at HPN HLL
       have HX2:Hid (xs2=xs++keysM x (l+1)):=hx2
       clear hx2 HN
       go_wp2_with fail
       refine⟨⟨l+1,xs2,some ⟨g6,0,none⟩,c6,⟨HC.out,⟨HX2.out,by rw[HLL.out];exact HPN.out⟩⟩,by rw[HLL.out],by go_num⟩,?_⟩
       have:=HC.out
       simp[intOf]
       omega
    ·have hil:¬((l:Int)<x.nm.length):=by omega
     have hle:l=x.nm.length:=by omega
     have HF:Hid (OwnR strC 1 9 w.heap.size wr (.slice sa ys.length sc) (keysS x)∧Below w.heap.size w wr):=by
      refine⟨?_,bel_sm' HBB.out HP.out.2.bel⟩
      have e:keysS x=ys:=by
       rw[HEN.out,HP.out.1,HXX.out.2,hle]
      rw[e]
      exact HP.out.2.own.low HBB.out.size
     clear HP HNM HDS HOB HEN HKE HPS HXX HYL c HBB
     go_wp2_with fail
     go_ret
     exact⟨⟨sa,ys.length,sc⟩,rfl,HF.out.1,HF.out.2⟩
end
end Go.Proofs.YtahhionlbfhinaaGreatDoor.Hp
