/- MB, MC, LG, VQ, MD, ME, MF, MG -/
import Derived.Test.YtahhionlbfhinabGreatDoorB12
import Derived.Test.YtahhionlbfhinabGreatDoorB1
set_option linter.unusedVariables false
set_option linter.unusedSimpArgs false
set_option maxRecDepth 100000
set_option maxHeartbeats 40000000
namespace Go.Proofs.YtahhionlbfhinabGreatDoor.Hp
open Go.RowKit
theorem float_some (x:Nat)(w:World):Calls Tryz.prog 107 #[.float .f64 x] w fun e w'=>∃n,e = .returned (.int .u64 n)∧Below w.heap.size w w':=by
 have hx:=tobits_run
 obtain⟨N,D,h⟩:=two_fun (R:=fun w n w'=>(convert 167 21 (.float .f64 x)).run Tryz.prog w = .ok (.int .i32 n) w'∧Below w.heap.size w w') (conv_some x)
 have hc:∀w,(convert 167 21 (.float .f64 x)).run Tryz.prog w = .ok (.int .i32 (N w)) (D w):=fun w=>(h w).1
 have HD:Hid (∀w,Below w.heap.size w (D w)):=fun w=>(h w).2
 clear h
 cases hn:(FloatKind.f64.format.order x x != some Ordering.eq) with
 | true =>
   go_enter Tryz.func107,Tryz.ntmps107
   go_wp2
   go_ret
   exact⟨_,rfl,Below.refl _ _⟩
 | false =>
   cases hl:(FloatKind.f64.format.order x 13970166044103278592 == some Ordering.gt || FloatKind.f64.format.order x 13970166044103278592 == some Ordering.eq) with
   | false =>
     go_enter Tryz.func107,Tryz.ntmps107
     go_wp2
     go_ret
     exact⟨_,rfl,Below.refl _ _⟩
   | true =>
     cases hh:(FloatKind.f64.format.order x 4746794007244308480 == some Ordering.lt || FloatKind.f64.format.order x 4746794007244308480 == some Ordering.eq) with
     | false =>
       go_enter Tryz.func107,Tryz.ntmps107
       go_wp2
       go_ret
       exact⟨_,rfl,Below.refl _ _⟩
     | true =>
       have cf:=fun w=>floor_some x w
       go_enter Tryz.func107,Tryz.ntmps107
       go_wp2_with fail
       refine(cf _).mono ?_
       rintro e w1 ⟨F,rfl,hb1⟩
       cases hf:(FloatKind.f64.format.order x F == some Ordering.eq) with
       | false =>
         go_wp2
         go_ret
         exact⟨_,rfl,hb1⟩
       | true =>
         cases hz:(FloatKind.f64.format.order x 0 != some Ordering.eq) with
         | false =>
           have cs:=fun w=>signbit_some x w
           go_wp2_with fail
           refine(cs _).mono ?_
           rintro e wx ⟨b,rfl,hw⟩
           subst hw
           cases b with
           | true =>
             go_wp2
             go_ret
             exact⟨_,rfl,hb1⟩
           | false =>
             go_wp2_with fail
             refine(refInt_any _ _).mono ?_
             rintro e wy ⟨rfl,hw⟩
             subst hw
             go_wp2
             go_ret
             exact⟨_,rfl,hb1.trans ((HD.out _).mono hb1.size)⟩
         | true =>
           go_wp2_with fail
           refine(refInt_any _ _).mono ?_
           rintro e wy ⟨rfl,hw⟩
           subst hw
           go_wp2
           go_ret
           exact⟨_,rfl,hb1.trans ((HD.out _).mono hb1.size)⟩
theorem number_some (a:Int)(w:World):Calls Tryz.prog 89 #[.int .u64 a] w fun e w'=>∃n,e = .returned (.int .u64 n)∧Below w.heap.size w w':=by
 have c:=fun w=>float_some a.toNat w
 have hx:=frombits_run
 go_enter Tryz.func89,Tryz.ntmps89
 go_wp2_with fail
 refine(c _).mono ?_
 rintro e w1 ⟨n,rfl,hb1⟩
 go_wp2
 go_ret
 exact⟨_,rfl,hb1⟩
def tagI (a:Int):Int×Int:=if 65529≤a / 281474976710656∧a / 281474976710656≤65532 then (a / 281474976710656,a % 4294967296) else (0,0)
theorem rtag_any (a:Int)(h0:0≤a)(h1:a<18446744073709551616)(w:World) :
  Calls Tryz.prog 54 #[.int .u64 a] w fun e w'=>e = .returned (.tuple #[.int .u64 (tagI a).1,.int .u32 (tagI a).2])∧w'=w:=by
 have e1:a / 65536 / 65536 / 65536=a / 281474976710656:=by omega
 have e2:IntKind.u32.wrap (a % 4294967296)=a % 4294967296:=by rw[IntKind.wrap_u32];omega
 have b0:0≤a / 281474976710656:=by omega
 have b1:a / 281474976710656<65536:=by omega
 have m0:0≤a % 4294967296:=by omega
 have m1:a % 4294967296<4294967296:=by omega
 unfold tagI
 generalize a / 281474976710656=T at *
 by_cases c:65529≤T
 ·by_cases d:T≤65532
  ·rw[if_pos ⟨c,d⟩]
   generalize hm:a % 4294967296=M at *
   go_enter Tryz.func54,Tryz.ntmps54
   go_wp2
   go_ret2
   exact⟨rfl,rfl⟩
  ·rw[if_neg (by omega)]
   go_enter Tryz.func54,Tryz.ntmps54
   go_wp2
   go_ret2
   exact⟨rfl,rfl⟩
 ·rw[if_neg (by omega)]
  go_enter Tryz.func54,Tryz.ntmps54
  go_wp2
  go_ret2
  exact⟨rfl,rfl⟩
theorem rright_some (a:Int)(h0:0≤a)(h1:a<18446744073709551616)(w:World) :
  Calls Tryz.prog 55 #[.int .u64 a] w fun e w'=>∃b,e = .returned (.bool b)∧Below w.heap.size w w'∧((tagI a).1=65530→b=(a / 4294967296 % 65536 == 0)):=by
 have kt:=rtag_any a h0 h1 w
 have b0:0≤a / 4294967296 % 65536:=by omega
 generalize (tagI a).1=t at *
 generalize (tagI a).2=n at *
 by_cases c:t=0
 ·subst c
  have kn:=fun w=>number_some a w
  go_enter Tryz.func55,Tryz.ntmps55
  go_wp2_with fail
  refine kt.mono ?_
  rintro e w1 ⟨rfl,rfl⟩
  clear kt
  go_wp2_with fail
  refine(kn _).mono ?_
  rintro e w2 ⟨n2,rfl,hb⟩
  go_wp2
  go_ret
  exact⟨_,rfl,hb,fun q=>by omega⟩
 ·have c1:(t == 0)=false:=by simpa using c
  cases hm:(a / 4294967296 % 65536 != 0) with
  | true =>
    go_enter Tryz.func55,Tryz.ntmps55
    go_wp2_with fail
    refine kt.mono ?_
    rintro e w1 ⟨rfl,rfl⟩
    clear kt
    go_wp2
    go_ret
    exact⟨_,rfl,Below.refl _ _,fun q=>by rw[bne] at hm;simpa using hm⟩
  | false =>
    cases ht:(t != 65531) with
    | true =>
      go_enter Tryz.func55,Tryz.ntmps55
      go_wp2_with fail
      refine kt.mono ?_
      rintro e w1 ⟨rfl,rfl⟩
      clear kt
      go_wp2
      go_ret
      exact⟨_,rfl,Below.refl _ _,fun q=>by rw[bne] at hm;simpa using hm⟩
    | false =>
      have ht':t=65531:=by simpa using ht
      go_enter Tryz.func55,Tryz.ntmps55
      go_wp2_with fail
      refine kt.mono ?_
      rintro e w1 ⟨rfl,rfl⟩
      clear kt
      go_wp2
      go_ret
      exact⟨_,rfl,Below.refl _ _,fun q=>by omega⟩
theorem isTag_any (a:Int)(h0:0≤a)(h1:a<18446744073709551616)(w:World) :
  Calls Tryz.prog 20 #[.int .u64 a,.int .u64 65530] w fun e w'=>e = .returned (.tuple #[.int .u32 (payN a 65530),.bool (isT a 65530)])∧Below w.heap.size w w':=by
 have kt:=rtag_any a h0 h1 w
 have kr:=rright_some a h0 h1 w
 have hT:isT a 65530=((tagI a).1 == 65530 && (a / 4294967296 % 65536 == 0)):=by
  unfold isT tagI
  rw[Bool.eq_iff_iff]
  by_cases c:65529≤a / 281474976710656∧a / 281474976710656≤65532
  ·rw[if_pos c]
   simp only[Bool.and_eq_true,beq_iff_eq]
   omega
  ·rw[if_neg c]
   simp only[Bool.and_eq_true,beq_iff_eq]
   omega
 have hP:(tagI a).1=65530→(tagI a).2=a % 4294967296:=fun q=>by
  unfold tagI at q ⊢
  split at q
  ·rename_i c;rw[if_pos c]
  ·simp at q
 unfold payN
 rw[hT]
 have HP:Hid _:=hP
 clear hT hP
 generalize (tagI a).1=t at *
 generalize (tagI a).2=n at *
 generalize (a / 4294967296 % 65536 == 0)=m at *
 by_cases c:t=65530
 ·subst c
  have hn:=HP.out rfl
  rw[hn] at kt
  generalize a % 4294967296=M at *
  clear HP hn
  go_enter Tryz.func20,Tryz.ntmps20
  go_wp2_with fail
  refine kt.mono ?_
  rintro e w1 ⟨rfl,rfl⟩
  clear kt
  go_wp2_with fail
  refine kr.mono ?_
  rintro e w2 ⟨b,rfl,hb,hbm⟩
  have hbm:=hbm (by trivial)
  subst hbm
  clear kr
  cases b with
  | true =>
    go_wp2
    go_ret2
    exact⟨rfl,hb⟩
  | false =>
    go_wp2
    go_ret2
    exact⟨rfl,hb⟩
 ·have c1:(t == 65530)=false:=by simpa using c
  have c2:(t != 65530)=true:=by simpa using c
  rw[c1,Bool.false_and]
  clear HP
  go_enter Tryz.func20,Tryz.ntmps20
  go_wp2_with fail
  refine kt.mono ?_
  rintro e w1 ⟨rfl,rfl⟩
  clear kt
  go_wp2_with fail
  refine kr.mono ?_
  rintro e w2 ⟨b,rfl,hb,hbm⟩
  clear kr
  go_wp2
  go_ret2
  exact⟨rfl,hb⟩
def getS (x:So)(k:ByteArray):Option De:=(plS x.nm k).bind (fun n=>x.ds[n]?)
section
variable {w W W' w' w1:World}{B b n:Nat}{tg:Nat→Nat}{S:List So}{vo vt:SV}{qs:List QV}
theorem bel_sm' {a b c:World}(h:Below a.heap.size a b)(q:Below b.heap.size b c):Below a.heap.size a c:=h.trans ⟨q.os,q.tape,q.output,q.size,fun k hk=>q.block k (Nat.lt_of_lt_of_le hk h.size)⟩
theorem boxSD (w:World)(vo vt:SV):BxS ((w.alloc (.cells #[vo.val,vt.val] 33)).alloc (.cells #[.int .u64 0,.int .u64 0,.int .i64 0] 39)) w.heap.size vo vt∧Bx3 ((w.alloc (.cells #[vo.val,vt.val] 33)).alloc (.cells #[.int .u64 0,.int .u64 0,.int .i64 0] 39)) (w.heap.size+1) zDe∧Below w.heap.size w ((w.alloc (.cells #[vo.val,vt.val] 33)).alloc (.cells #[.int .u64 0,.int .u64 0,.int .i64 0] 39)) :=
 ⟨at_old _ _ _ _ (at_new _ _),at_two w _ _,B2 w _ _⟩
theorem fin3b {wb w6:World}(hB:Below w.heap.size w wb)(hbx:Bx3 wb n zDe)(hn:w.heap.size≤n)(q:Below wb.heap.size wb w6)(d:De):Bx3 w6 n zDe∧Bx3 (st3 w6 n d) n d∧Below w.heap.size w (st3 w6 n d) :=
 ⟨hbx.below q,(hbx.below q).put _,st3_below (hB.trans (q.mono hB.size)) hn _⟩
theorem rget_any (h:StAt w B tg S vo qs)(vt:SV){i:Nat}{x:So}(hi:S[i]?=some x)(k:ByteArray) :
  Calls Tryz.prog 80 #[stV vo vt,.int .u64 (objW (i:Int)),.string k] w fun e w'=>e = .returned (.tuple #[deV ((getS x k).getD zDe),.bool (getS x k).isSome])∧Below w.heap.size w w':=by
 obtain⟨wb,hwb⟩:∃wb,wb=(w.alloc (.cells #[vo.val,vt.val] 33)).alloc (.cells #[.int .u64 0,.int .u64 0,.int .i64 0] 39):=⟨_,rfl⟩
 obtain⟨hbs,hbd,hB⟩:=boxSD w vo vt
 rw[←hwb] at hbs hbd hB
 have hil:i<S.length:=(List.getElem?_eq_some_iff.1 hi).1
 have h2:=h.below hB
 have ka:=rat_any h2 vt hil
 obtain⟨g,cap,q,hv,hq,t1,hgl,hcell,hfz,hl1,hl2,hrow⟩:=h2.obj hi
 have hbig:=h.big
 have HN:Hid (∀W,Below wb.heap.size wb W→(W.cell? ⟨w.heap.size,0,none⟩=some vo.val∧W.cell? ⟨w.heap.size,1,none⟩=some vt.val)∧(∀j u,(soC (x,q))[j]?=some u→W.cell? ⟨g,i*7+j,none⟩=some u)∧SoP W B (fun b=>tg b=2+4*i+0) x q 0∧SoP W B (fun b=>tg b=2+4*i+1) x q 1):=fun W r=>⟨(hbs.below r).ce,fun j u hj=>cells_below r _ _ (hcell j u hj),(h2.below r).ob i x q 0 hi hq (by omega),(h2.below r).ob i x q 1 hi hq (by omega)⟩
 have HFI:Hid (∀w6 d,Below wb.heap.size wb w6→Bx3 w6 (w.heap.size+1) zDe∧Bx3 (st3 w6 (w.heap.size+1) d) (w.heap.size+1) d∧Below w.heap.size w (st3 w6 (w.heap.size+1) d)):=fun w6 d r=>fin3b hB hbd (by omega) r d
 have hii:(i:Int)<(S.length:Int):=by omega
 have hsl:(S.length:Int)≤65536:=by omega
 obtain⟨b0,b1⟩:=hbs.ce
 have h0i:¬((i:Int)<0):=by omega
 have hsame:=h.same x (List.mem_of_getElem? hi)
 have HPL:Hid (∀W,Below wb.heap.size wb W→Calls Tryz.prog 97 #[soV (x,q),.string k] W fun e w'=>e = .returned (.int .i64 (plI x.nm k))∧Below W.heap.size W w'):=fun W r=>place_any (x,q) (HN.out W r).2.2.1 k
 subst hv
 unfold getS
 unfold stV at *
 rw[show(SV.mk (some ⟨g,0,none⟩) S.length cap).val = .slice (some ⟨g,0,none⟩) S.length cap from rfl] at *
 generalize objW (i:Int)=o at *
 clear h h2 hB hbs hbd hq t1 hgl hcell hfz hrow hi
 cases hp:plS x.nm k with
 | none =>
   have HPL2:Hid (∀W,Below wb.heap.size wb W→Calls Tryz.prog 97 #[soV (x,q),.string k] W fun e w'=>e = .returned (.int .i64 (-1))∧Below W.heap.size W w'):=by
    have e:plI x.nm k = -1:=by unfold plI;rw[hp]
    rw[e] at HPL
    exact HPL
   simp only[Option.bind_none,Option.getD_none,Option.isSome_none]
   unfold deV
   clear HPL hp hsame
   go_enter Tryz.func80,Tryz.ntmps80
   go_upto_region 1 with fail
   rw[←hwb]
   clear hwb
   go_wp2_with fail
   refine ka.mono ?_
   rintro e w2 ⟨rfl,hB2⟩
   obtain⟨⟨b0,b1⟩,hc,_,_⟩:=HN.out w2 hB2
   have c0:=hc 0 _ rfl
   have c1:=hc 1 _ rfl
   have c2:=hc 2 _ rfl
   have c3:=hc 3 _ rfl
   have c4:=hc 4 _ rfl
   have c5:=hc 5 _ rfl
   have c6:=hc 6 _ rfl
   simp only[Nat.add_zero] at c0
   have kp:=HPL2.out w2 hB2
   unfold soV at kp
   simp only at kp
   have HB2:Hid (Below wb.heap.size wb w2):=hB2
   clear ka hB2 hc HPL2 HN
   go_wp2_with fail
   refine kp.mono ?_
   rintro e w3 ⟨rfl,hB3⟩
   obtain⟨q1,q2,q3⟩:=HFI.out w3 zDe (bel_sm' HB2.out hB3)
   obtain⟨f0,f1,f2⟩:=q1.fz
   obtain⟨d0,d1,d2⟩:=q1.ce
   unfold zDe at d0 d1 d2
   have HF:=(show Hid _ from And.intro q2 q3)
   clear kp hB3 HB2 HFI q1 q2 q3
   go_wp2_with fail
   refine bodyPost_ret (res2 rfl _ _ (w.heap.size+1) 39 _ (0,0) _ rfl HF.out.1 Tryz.underlying39 rfl (by kernel_rfl)) rfl ?_
   exact⟨rfl,HF.out.2⟩
 | some m =>
   have hm:m<x.nm.length:=by
    unfold plS at hp
    rw[List.findIdx?_eq_some_iff_getElem] at hp
    exact hp.1
   have hex:∃d,x.ds[m]?=some d:=⟨_,List.getElem?_eq_getElem (by omega)⟩
   obtain⟨d,hd⟩:=hex
   have HPL2:Hid (∀W,Below wb.heap.size wb W→Calls Tryz.prog 97 #[soV (x,q),.string k] W fun e w'=>e = .returned (.int .i64 (m:Int))∧Below W.heap.size W w'):=by
    have e:plI x.nm k=(m:Int):=by unfold plI;rw[hp]
    rw[e] at HPL
    exact HPL
   have e0:(some m).bind (fun n=>x.ds[n]?)=some d:=hd
   rw[e0]
   simp only[Option.getD_some,Option.isSome_some]
   have HDC:Hid (∀W,Below wb.heap.size wb W→∃gd,q.vd.val = .slice (some ⟨gd,0,none⟩) x.ds.length q.vd.cap∧W.cell? ⟨gd,m*3,none⟩=some (.int .u64 d.va)∧W.cell? ⟨gd,m*3+1,none⟩=some (.int .u64 d.se)∧W.cell? ⟨gd,m*3+2,none⟩=some (.int .i64 d.fl)∧x.ds.length≤9223372036854775807):=fun W r=>by
    have hrow:RowIn deC 3 39 B W _ q.vd x.ds:=(HN.out W r).2.2.2
    obtain⟨r1,r2,r3,r4⟩:=hrow.open rtDe.len
    obtain⟨gd,r5,_,_,_,r6,_⟩:=r4 (by intro e;rw[e] at hd;simp at hd)
    refine⟨gd,by unfold SV.val;rw[r1,r5],r6 m d hd 0 _ rfl,r6 m d hd 1 _ rfl,r6 m d hd 2 _ rfl,by unfold maxLen at r3;omega⟩
   have hmm:(m:Int)<(x.ds.length:Int):=by omega
   have hm0:¬((m:Int)<0):=by omega
   unfold deV
   clear HPL hp hsame hm hd e0
   go_enter Tryz.func80,Tryz.ntmps80
   go_upto_region 1 with fail
   rw[←hwb]
   clear hwb
   go_wp2_with fail
   refine ka.mono ?_
   rintro e w2 ⟨rfl,hB2⟩
   obtain⟨⟨b0,b1⟩,hc,_,_⟩:=HN.out w2 hB2
   have c0:=hc 0 _ rfl
   have c1:=hc 1 _ rfl
   have c2:=hc 2 _ rfl
   have c3:=hc 3 _ rfl
   have c4:=hc 4 _ rfl
   have c5:=hc 5 _ rfl
   have c6:=hc 6 _ rfl
   simp only[Nat.add_zero] at c0
   have kp:=HPL2.out w2 hB2
   unfold soV at kp
   simp only at kp
   have HB2:Hid (Below wb.heap.size wb w2):=hB2
   clear ka hB2 hc HPL2
   go_wp2_with fail
   refine kp.mono ?_
   rintro e w3 ⟨rfl,hB3⟩
   have hB3':=bel_sm' HB2.out hB3
   obtain⟨⟨b0,b1⟩,hc,_,_⟩:=HN.out w3 hB3'
   have c4:=hc 4 _ rfl
   obtain⟨gd,hvd,e0,e1,e2,hlim⟩:=HDC.out w3 hB3'
   simp only at c4
   rw[hvd] at c4
   have hlim2:(x.ds.length:Int)≤9223372036854775807:=by omega
   obtain⟨q1,q2,q3⟩:=HFI.out w3 d hB3'
   obtain⟨f0,f1,f2⟩:=q1.fz
   obtain⟨d0,d1,d2⟩:=q1.ce
   unfold zDe at d0 d1 d2
   have HF:=(show Hid _ from And.intro q2 q3)
   generalize x.ds.length=dl at *
   generalize q.vd.cap=dc at *
   clear kp hB3 HB2 HFI q1 q2 q3 HN HDC hc hvd hB3' c0 c1 c2 c3 c5 c6
   go_wp2_with fail
   refine bodyPost_ret (res2 rfl _ _ (w.heap.size+1) 39 _ (0,0) _ rfl HF.out.1 Tryz.underlying39 rfl (by kernel_rfl)) rfl ?_
   exact⟨rfl,HF.out.2⟩
end
theorem bel_dr {a b c:World}(h:Below a.heap.size a b)(q:Below b.drew.heap.size b.drew c):Below a.heap.size a c:=h.trans ⟨q.os,q.tape,q.output,q.size,fun k hk=>q.block k (Nat.lt_of_lt_of_le hk h.size)⟩
theorem bel_sm {a b c:World}(h:Below a.heap.size a b)(q:Below b.heap.size b c):Below a.heap.size a c:=h.trans ⟨q.os,q.tape,q.output,q.size,fun k hk=>q.block k (Nat.lt_of_lt_of_le hk h.size)⟩
def obS (S:List So)(o:Int):Option Nat:=if isT o 65530=true∧payN o 65530<(S.length:Int) then some (payN o 65530).toNat else none
section
variable {w W W' w' w1:World}{B b n:Nat}{tg:Nat→Nat}{S:List So}{vo vt:SV}{qs:List QV}
theorem payN_rng (o:Int)(h0:0≤o):0≤payN o 65530∧payN o 65530<4294967296:=by
 unfold payN
 split <;> omega
theorem obS_some {o:Int}(o0:0≤o)(o1:o<18446744073709551616){i:Nat}(h:obS S o=some i):i<S.length∧o=objW (i:Int):=by
 unfold obS at h
 split at h
 ·rename_i c
  have e:(payN o 65530).toNat=i:=Option.some.inj h
  have hr:=payN_rng o o0
  have hp:payN o 65530=o % 4294967296:=by unfold payN;rw[if_pos c.1]
  have ht:o / 4294967296=65530*65536:=by have:=c.1;unfold isT at this;simpa using this
  refine⟨by omega,?_⟩
  unfold objW
  omega
 ·cases h
theorem rat_miss (h:StAt w B tg S vo qs)(vt:SV)(o:Int)(o0:0≤o)(o1:o<18446744073709551616)(hm:obS S o=none) :
  Calls Tryz.prog 9 #[stV vo vt,.int .u64 o] w fun e w'=>e = .returned (.int .i64 (-1))∧Below w.heap.size w w':=by
 obtain⟨ad,cap,hv,h1,h2⟩:=h.vol
 have hbig:=h.big
 have HB:Hid (Below w.heap.size w (w.alloc (.cells #[vo.val,vt.val] 33))):=(Below.refl _ _).alloc (Nat.le_refl _) _
 have HX:Hid (BxS (w.alloc (.cells #[vo.val,vt.val] 33)) w.heap.size vo vt):=BxS.new w vo vt
 have kt:=fun W=>isTag_any o o0 o1 W
 obtain⟨p0,p1⟩:=payN_rng o o0
 have hsl:(S.length:Int)≤65536:=by omega
 have HM:Hid (isT o 65530=true→(S.length:Int)≤payN o 65530):=fun q=>by
  unfold obS at hm
  split at hm
  ·cases hm
  ·rename_i c
   rcases Int.lt_or_le (payN o 65530) (S.length:Int) with r | r
   ·exact absurd ⟨q,r⟩ c
   ·exact r
 have hpn:isT o 65530=false→payN o 65530=0:=fun q=>by unfold payN;rw[q];rfl
 subst hv
 unfold stV SV.val at *
 simp only at *
 generalize payN o 65530=p at *
 cases ht:isT o 65530 with
 | false =>
   have hp:=hpn ht
   subst hp
   rw[ht] at kt
   clear h HM hpn hm
   go_enter Tryz.func9,Tryz.ntmps9
   go_wp2_with fail
   refine(kt _).mono ?_
   rintro e w2 ⟨rfl,hB2⟩
   have HB2:Hid (Below w.heap.size w w2):=bel_sm HB.out hB2
   clear kt hB2
   go_wp2_with fail
   go_ret
   exact⟨rfl,HB2.out⟩
 | true =>
   have hle:=HM.out ht
   rw[ht] at kt
   clear h HM hpn hm
   go_enter Tryz.func9,Tryz.ntmps9
   go_wp2_with fail
   refine(kt _).mono ?_
   rintro e w2 ⟨rfl,hB2⟩
   have HB2:Hid (Below w.heap.size w w2):=bel_sm HB.out hB2
   obtain⟨b0,b1⟩:=(HX.out.below hB2).ce
   unfold SV.val at b0 b1
   simp only at b0 b1
   clear kt hB2
   go_wp2_with fail
   go_ret
   exact⟨rfl,HB2.out⟩
end
def soO (S:List So)(o:Int):Option So:=(obS S o).bind (fun i=>S[i]?)
section
variable {w W W' w' w1:World}{B b n:Nat}{tg:Nat→Nat}{S:List So}{vo vt:SV}{qs:List QV}
theorem soO_none {o:Int}(h:soO S o=none)(o0:0≤o)(o1:o<18446744073709551616):obS S o=none:=by
 cases hq:obS S o with
 | none=>rfl
 | some i =>
   have:=(obS_some o0 o1 hq).1
   unfold soO at h
   rw[hq] at h
   simp at h
   omega
theorem soO_some {o:Int}{x:So}(h:soO S o=some x)(o0:0≤o)(o1:o<18446744073709551616):∃i:Nat,S[i]?=some x∧o=objW (i:Int)∧i<S.length:=by
 unfold soO at h
 obtain⟨i,h1,h2⟩:=Option.bind_eq_some_iff.1 h
 have:=obS_some o0 o1 h1
 exact⟨i,h2,this.2,this.1⟩
theorem rarray_miss (h:StAt w B tg S vo qs)(vt:SV)(o:Int)(o0:0≤o)(o1:o<18446744073709551616)(hm:obS S o=none) :
  Calls Tryz.prog 12 #[stV vo vt,.int .u64 o] w fun e w'=>e = .returned (.bool false)∧Below w.heap.size w w':=by
 obtain⟨wb,hwb⟩:∃wb,wb=w.alloc (.cells #[vo.val,vt.val] 33):=⟨_,rfl⟩
 have hB:Below w.heap.size w wb:=by rw[hwb];exact(Below.refl _ _).alloc (Nat.le_refl _) _
 have hbx:BxS wb w.heap.size vo vt:=by rw[hwb];exact BxS.new w vo vt
 have ka:=rat_miss (h.below hB) vt o o0 o1 hm
 have HB:Hid (Below w.heap.size w wb):=hB
 obtain⟨b0,b1⟩:=hbx.ce
 unfold stV SV.val at *
 clear h hB hbx hm
 go_enter Tryz.func12,Tryz.ntmps12
 go_upto_region 1 with fail
 rw[←hwb]
 clear hwb
 go_wp2_with fail
 refine ka.mono ?_
 rintro e w2 ⟨rfl,hB2⟩
 have HB2:Hid (Below w.heap.size w w2):=bel_sm HB.out hB2
 clear ka hB2 HB
 go_wp2_with fail
 go_ret
 exact⟨rfl,HB2.out⟩
theorem ropen_miss (h:StAt w B tg S vo qs)(vt:SV)(o:Int)(o0:0≤o)(o1:o<18446744073709551616)(hm:obS S o=none) :
  Calls Tryz.prog 65 #[stV vo vt,.int .u64 o] w fun e w'=>e = .returned (.bool false)∧Below w.heap.size w w':=by
 obtain⟨wb,hwb⟩:∃wb,wb=w.alloc (.cells #[vo.val,vt.val] 33):=⟨_,rfl⟩
 have hB:Below w.heap.size w wb:=by rw[hwb];exact(Below.refl _ _).alloc (Nat.le_refl _) _
 have hbx:BxS wb w.heap.size vo vt:=by rw[hwb];exact BxS.new w vo vt
 have ka:=rat_miss (h.below hB) vt o o0 o1 hm
 have HB:Hid (Below w.heap.size w wb):=hB
 obtain⟨b0,b1⟩:=hbx.ce
 unfold stV SV.val at *
 clear h hB hbx hm
 go_enter Tryz.func65,Tryz.ntmps65
 go_upto_region 1 with fail
 rw[←hwb]
 clear hwb
 go_wp2_with fail
 refine ka.mono ?_
 rintro e w2 ⟨rfl,hB2⟩
 have HB2:Hid (Below w.heap.size w w2):=bel_sm HB.out hB2
 clear ka hB2 HB
 go_wp2_with fail
 go_ret
 exact⟨rfl,HB2.out⟩
theorem rproto_miss (h:StAt w B tg S vo qs)(vt:SV)(o:Int)(o0:0≤o)(o1:o<18446744073709551616)(hm:obS S o=none) :
  Calls Tryz.prog 76 #[stV vo vt,.int .u64 o] w fun e w'=>e = .returned (.int .u64 18445336698825998337)∧Below w.heap.size w w':=by
 obtain⟨wb,hwb⟩:∃wb,wb=w.alloc (.cells #[vo.val,vt.val] 33):=⟨_,rfl⟩
 have hB:Below w.heap.size w wb:=by rw[hwb];exact(Below.refl _ _).alloc (Nat.le_refl _) _
 have hbx:BxS wb w.heap.size vo vt:=by rw[hwb];exact BxS.new w vo vt
 have ka:=rat_miss (h.below hB) vt o o0 o1 hm
 have HB:Hid (Below w.heap.size w wb):=hB
 obtain⟨b0,b1⟩:=hbx.ce
 unfold stV SV.val at *
 clear h hB hbx hm
 go_enter Tryz.func76,Tryz.ntmps76
 go_upto_region 1 with fail
 rw[←hwb]
 clear hwb
 go_wp2_with fail
 refine ka.mono ?_
 rintro e w2 ⟨rfl,hB2⟩
 have HB2:Hid (Below w.heap.size w w2):=bel_sm HB.out hB2
 clear ka hB2 HB
 go_wp2_with fail
 go_ret
 exact⟨rfl,HB2.out⟩
theorem rproto_hit (h:StAt w B tg S vo qs)(vt:SV){i:Nat}{x:So}(hi:S[i]?=some x) :
  Calls Tryz.prog 76 #[stV vo vt,.int .u64 (objW (i:Int))] w fun e w'=>e = .returned (.int .u64 x.proto)∧Below w.heap.size w w':=by
 obtain⟨wb,hwb⟩:∃wb,wb=w.alloc (.cells #[vo.val,vt.val] 33):=⟨_,rfl⟩
 have hB:Below w.heap.size w wb:=by rw[hwb];exact(Below.refl _ _).alloc (Nat.le_refl _) _
 have hbx:BxS wb w.heap.size vo vt:=by rw[hwb];exact BxS.new w vo vt
 have hil:i<S.length:=(List.getElem?_eq_some_iff.1 hi).1
 have ka:=rat_any (h.below hB) vt hil
 obtain⟨g,cap,q,hv,hq,t1,hgl,hcell,hfz,hl1,hl2,hrow⟩:=(h.below hB).obj hi
 have hbig:=h.big
 have HN:Hid (∀W,Below wb.heap.size wb W→W.cell? ⟨w.heap.size,0,none⟩=some vo.val∧W.cell? ⟨w.heap.size,1,none⟩=some vt.val∧W.cell? ⟨g,i*7+1,none⟩=some (.int .u64 x.proto)∧Below w.heap.size w W):=fun W r=>⟨(hbx.below r).ce.1,(hbx.below r).ce.2,cells_below r _ _ (hcell 1 _ rfl),hB.trans (r.mono hB.size)⟩
 have hii:(i:Int)<(S.length:Int):=by omega
 have hsl:(S.length:Int)≤65536:=by omega
 obtain⟨b0,b1⟩:=hbx.ce
 have h0i:(0:Int)≤(i:Int):=by omega
 subst hv
 unfold stV SV.val at *
 simp only at *
 generalize objW (i:Int)=o at *
 generalize x.proto=pr at *
 clear h hB hbx hi hq t1 hgl hcell hfz hrow
 go_enter Tryz.func76,Tryz.ntmps76
 go_upto_region 1 with fail
 rw[←hwb]
 clear hwb
 go_wp2_with fail
 refine ka.mono ?_
 rintro e w2 ⟨rfl,hB2⟩
 obtain⟨b0,b1,c0,hbel⟩:=HN.out w2 hB2
 have HB2:=(show Hid _ from hbel)
 clear ka hB2 HN hbel
 go_wp2_with fail
 go_ret
 exact⟨rfl,HB2.out⟩
theorem rarray_o (h:StAt w B tg S vo qs)(vt:SV)(o:Int)(o0:0≤o)(o1:o<18446744073709551616) :
  Calls Tryz.prog 12 #[stV vo vt,.int .u64 o] w fun e w'=>e = .returned (.bool (((soO S o).map (fun x=>x.kind == 1)).getD false))∧Below w.heap.size w w':=by
 cases hq:soO S o with
 | none=>exact rarray_miss h vt o o0 o1 (soO_none hq o0 o1)
 | some x =>
   obtain⟨i,h1,rfl,_⟩:=soO_some hq o0 o1
   exact rarray_any h vt h1
theorem ropen_o (h:StAt w B tg S vo qs)(vt:SV)(o:Int)(o0:0≤o)(o1:o<18446744073709551616) :
  Calls Tryz.prog 65 #[stV vo vt,.int .u64 o] w fun e w'=>e = .returned (.bool (((soO S o).map (fun x => !x.shut)).getD false))∧Below w.heap.size w w':=by
 cases hq:soO S o with
 | none=>exact ropen_miss h vt o o0 o1 (soO_none hq o0 o1)
 | some x =>
   obtain⟨i,h1,rfl,_⟩:=soO_some hq o0 o1
   exact ropen_any h vt h1
theorem rproto_o (h:StAt w B tg S vo qs)(vt:SV)(o:Int)(o0:0≤o)(o1:o<18446744073709551616) :
  Calls Tryz.prog 76 #[stV vo vt,.int .u64 o] w fun e w'=>e = .returned (.int .u64 (((soO S o).map So.proto).getD 18445336698825998337))∧Below w.heap.size w w':=by
 cases hq:soO S o with
 | none=>exact rproto_miss h vt o o0 o1 (soO_none hq o0 o1)
 | some x =>
   obtain⟨i,h1,rfl,_⟩:=soO_some hq o0 o1
   exact rproto_hit h vt h1
end
section
variable {w W W' w' w1:World}{B b n:Nat}{tg:Nat→Nat}{S:List So}{vo vt:SV}{qs:List QV}
theorem rget_miss (h:StAt w B tg S vo qs)(vt:SV)(o:Int)(o0:0≤o)(o1:o<18446744073709551616)(hm:obS S o=none)(k:ByteArray) :
  Calls Tryz.prog 80 #[stV vo vt,.int .u64 o,.string k] w fun e w'=>e = .returned (.tuple #[deV zDe,.bool false])∧Below w.heap.size w w':=by
 obtain⟨wb,hwb⟩:∃wb,wb=(w.alloc (.cells #[vo.val,vt.val] 33)).alloc (.cells #[.int .u64 0,.int .u64 0,.int .i64 0] 39):=⟨_,rfl⟩
 obtain⟨hbs,hbd,hB⟩:=boxSD w vo vt
 rw[←hwb] at hbs hbd hB
 have ka:=rat_miss (h.below hB) vt o o0 o1 hm
 have HFI:Hid (∀w6 d,Below wb.heap.size wb w6→Bx3 w6 (w.heap.size+1) zDe∧Bx3 (st3 w6 (w.heap.size+1) d) (w.heap.size+1) d∧Below w.heap.size w (st3 w6 (w.heap.size+1) d)):=fun w6 d r=>fin3b hB hbd (by omega) r d
 obtain⟨b0,b1⟩:=hbs.ce
 unfold stV SV.val at *
 unfold deV
 clear h hB hbs hbd hm
 go_enter Tryz.func80,Tryz.ntmps80
 go_upto_region 1 with fail
 rw[←hwb]
 clear hwb
 go_wp2_with fail
 refine ka.mono ?_
 rintro e w3 ⟨rfl,hB3⟩
 obtain⟨q1,q2,q3⟩:=HFI.out w3 zDe hB3
 obtain⟨f0,f1,f2⟩:=q1.fz
 obtain⟨d0,d1,d2⟩:=q1.ce
 unfold zDe at d0 d1 d2
 have HF:=(show Hid _ from And.intro q2 q3)
 clear ka hB3 HFI q1 q2 q3
 go_wp2_with fail
 refine bodyPost_ret (res2 rfl _ _ (w.heap.size+1) 39 _ (0,0) _ rfl HF.out.1 Tryz.underlying39 rfl (by kernel_rfl)) rfl ?_
 exact⟨rfl,HF.out.2⟩
theorem StAt.elen (h:StAt w B tg S vo qs){i:Nat}{x:So}{q:QV}(hi:S[i]?=some x)(hq:qs[i]?=some q):∃ad cap,q.ve=⟨ad,x.el.length,cap⟩∧x.el.length≤maxLen:=by
 have hr:RowIn wC 1 24 B w (fun b=>tg b=2+4*i+2) q.ve x.el:=h.ob i x q 2 hi hq (by omega)
 obtain⟨q1,q2,q3,q4⟩:=hr.open rtW.len
 refine⟨q.ve.ad,q.ve.cap,?_,by omega⟩
 rw[←q1]
theorem rlen_hit (h:StAt w B tg S vo qs)(vt:SV){i:Nat}{x:So}(hi:S[i]?=some x) :
  Calls Tryz.prog 78 #[stV vo vt,.int .u64 (objW (i:Int))] w fun e w'=>e = .returned (.int .i64 (x.el.length:Int))∧Below w.heap.size w w':=by
 obtain⟨wb,hwb⟩:∃wb,wb=w.alloc (.cells #[vo.val,vt.val] 33):=⟨_,rfl⟩
 have hB:Below w.heap.size w wb:=by rw[hwb];exact(Below.refl _ _).alloc (Nat.le_refl _) _
 have hbx:BxS wb w.heap.size vo vt:=by rw[hwb];exact BxS.new w vo vt
 have hil:i<S.length:=(List.getElem?_eq_some_iff.1 hi).1
 have ka:=rat_any (h.below hB) vt hil
 obtain⟨g,cap,q,hv,hq,t1,hgl,hcell,hfz,hl1,hl2,hrow⟩:=(h.below hB).obj hi
 obtain⟨ad5,cap5,hve,hel⟩:=(h.below hB).elen hi hq
 have hbig:=h.big
 have HN:Hid (∀W,Below wb.heap.size wb W→W.cell? ⟨w.heap.size,0,none⟩=some vo.val∧W.cell? ⟨w.heap.size,1,none⟩=some vt.val∧W.cell? ⟨g,i*7+5,none⟩=some (.slice ad5 x.el.length cap5)∧Below w.heap.size w W):=fun W r=>⟨(hbx.below r).ce.1,(hbx.below r).ce.2,cells_below r _ _ (hcell 5 _ (by rw[show(soC (x,q))[5]?=some q.ve.val from rfl,hve];rfl)),hB.trans (r.mono hB.size)⟩
 have hii:(i:Int)<(S.length:Int):=by omega
 have hsl:(S.length:Int)≤65536:=by omega
 obtain⟨b0,b1⟩:=hbx.ce
 have h0i:(0:Int)≤(i:Int):=by omega
 subst hv
 unfold stV SV.val at *
 simp only at *
 generalize objW (i:Int)=o at *
 generalize x.el.length=ln at *
 clear h hB hbx hi hq t1 hgl hcell hfz hrow hve hel
 go_enter Tryz.func78,Tryz.ntmps78
 go_upto_region 1 with fail
 rw[←hwb]
 clear hwb
 go_wp2_with fail
 refine ka.mono ?_
 rintro e w2 ⟨rfl,hB2⟩
 obtain⟨b0,b1,c0,hbel⟩:=HN.out w2 hB2
 have HB2:=(show Hid _ from hbel)
 clear ka hB2 HN hbel
 go_wp2_with fail
 go_ret
 exact⟨rfl,HB2.out⟩
end
section
variable {w W W' w' w1:World}{B b n:Nat}{tg:Nat→Nat}{S:List So}{vo vt:SV}{qs:List QV}
theorem rlen_miss (h:StAt w B tg S vo qs)(vt:SV)(o:Int)(o0:0≤o)(o1:o<18446744073709551616)(hm:obS S o=none) :
  Calls Tryz.prog 78 #[stV vo vt,.int .u64 o] w fun e w'=>e = .returned (.int .i64 0)∧Below w.heap.size w w':=by
 obtain⟨wb,hwb⟩:∃wb,wb=w.alloc (.cells #[vo.val,vt.val] 33):=⟨_,rfl⟩
 have hB:Below w.heap.size w wb:=by rw[hwb];exact(Below.refl _ _).alloc (Nat.le_refl _) _
 have hbx:BxS wb w.heap.size vo vt:=by rw[hwb];exact BxS.new w vo vt
 have ka:=rat_miss (h.below hB) vt o o0 o1 hm
 have HB:Hid (Below w.heap.size w wb):=hB
 obtain⟨b0,b1⟩:=hbx.ce
 unfold stV SV.val at *
 clear h hB hbx hm
 go_enter Tryz.func78,Tryz.ntmps78
 go_upto_region 1 with fail
 rw[←hwb]
 clear hwb
 go_wp2_with fail
 refine ka.mono ?_
 rintro e w2 ⟨rfl,hB2⟩
 have HB2:Hid (Below w.heap.size w w2):=bel_sm HB.out hB2
 clear ka hB2 HB
 go_wp2_with fail
 go_ret
 exact⟨rfl,HB2.out⟩
def lenO (S:List So)(o:Int):Nat:=((soO S o).map (fun x=>x.el.length)).getD 0
theorem rlen_o (h:StAt w B tg S vo qs)(vt:SV)(o:Int)(o0:0≤o)(o1:o<18446744073709551616) :
  Calls Tryz.prog 78 #[stV vo vt,.int .u64 o] w fun e w'=>e = .returned (.int .i64 (lenO S o:Int))∧Below w.heap.size w w':=by
 unfold lenO
 cases hq:soO S o with
 | none=>exact rlen_miss h vt o o0 o1 (soO_none hq o0 o1)
 | some x =>
   obtain⟨i,h1,rfl,_⟩:=soO_some hq o0 o1
   exact rlen_hit h vt h1
def elS (l:List Int)(n:Int):Option Int:=if n<0 then none else (l[n.toNat]?).bind (fun v=>if v=18445336698825998340 then none else some v)
theorem relem_low (h:StAt w B tg S vo qs)(vt:SV)(o:Int)(o0:0≤o)(o1:o<18446744073709551616)(n:Int)(hn:n<0∨(lenO S o:Int)≤n) :
  Calls Tryz.prog 79 #[stV vo vt,.int .u64 o,.int .i64 n] w fun e w'=>e = .returned (.tuple #[.int .u64 18445336698825998336,.bool false])∧Below w.heap.size w w':=by
 obtain⟨wb,hwb⟩:∃wb,wb=w.alloc (.cells #[vo.val,vt.val] 33):=⟨_,rfl⟩
 have hB:Below w.heap.size w wb:=by rw[hwb];exact(Below.refl _ _).alloc (Nat.le_refl _) _
 have hbx:BxS wb w.heap.size vo vt:=by rw[hwb];exact BxS.new w vo vt
 have ka:=rlen_o (h.below hB) vt o o0 o1
 have HB:Hid (Below w.heap.size w wb):=hB
 obtain⟨b0,b1⟩:=hbx.ce
 unfold stV SV.val at *
 generalize (lenO S o:Int)=ln at *
 clear h hB hbx
 by_cases c:n<0
 ·have c1:decide (n<0)=true:=decide_eq_true c
  go_enter Tryz.func79,Tryz.ntmps79
  go_upto_region 1 with fail
  rw[←hwb]
  clear hwb
  go_wp2_with fail
  go_ret2
  exact⟨rfl,HB.out⟩
 ·have c1:decide (n<0)=false:=decide_eq_false c
  have c2:decide (ln≤n)=true:=decide_eq_true (by omega)
  clear hn
  go_enter Tryz.func79,Tryz.ntmps79
  go_upto_region 1 with fail
  rw[←hwb]
  clear hwb
  go_wp2_with fail
  refine ka.mono ?_
  rintro e w2 ⟨rfl,hB2⟩
  have HB2:Hid (Below w.heap.size w w2):=bel_sm HB.out hB2
  clear ka hB2 HB
  go_wp2_with fail
  go_ret2
  exact⟨rfl,HB2.out⟩
theorem relem_in (h:StAt w B tg S vo qs)(vt:SV){i:Nat}{x:So}(hi:S[i]?=some x)(n:Nat)(v:Int)(hv:x.el[n]?=some v) :
  Calls Tryz.prog 79 #[stV vo vt,.int .u64 (objW (i:Int)),.int .i64 (n:Int)] w fun e w'=>e = .returned (.tuple #[.int .u64 (if v=18445336698825998340 then 18445336698825998336 else v),.bool (if v=18445336698825998340 then false else true)])∧Below w.heap.size w w':=by
 obtain⟨wb,hwb⟩:∃wb,wb=w.alloc (.cells #[vo.val,vt.val] 33):=⟨_,rfl⟩
 have hB:Below w.heap.size w wb:=by rw[hwb];exact(Below.refl _ _).alloc (Nat.le_refl _) _
 have hbx:BxS wb w.heap.size vo vt:=by rw[hwb];exact BxS.new w vo vt
 have hil:i<S.length:=(List.getElem?_eq_some_iff.1 hi).1
 have hnl:n<x.el.length:=(List.getElem?_eq_some_iff.1 hv).1
 have kl:=rlen_hit (h.below hB) vt hi
 have HA:Hid (∀W,Below wb.heap.size wb W→Calls Tryz.prog 9 #[stV vo vt,.int .u64 (objW (i:Int))] W fun e w'=>e = .returned (.int .i64 (i:Int))∧Below W.heap.size W w'):=fun W r=>rat_any ((h.below hB).below r) vt hil
 obtain⟨g,cap,q,hvo,hq,t1,hgl,hcell,hfz,hl1,hl2,hrow⟩:=(h.below hB).obj hi
 obtain⟨ad5,cap5,hve,hel⟩:=(h.below hB).elen hi hq
 have hr:RowIn wC 1 24 B wb (fun b=>tg b=2+4*i+2) q.ve x.el:=(h.below hB).ob i x q 2 hi hq (by omega)
 obtain⟨_,hlc,hcm,q4⟩:=hr.open rtW.len
 obtain⟨ge,e1,_,hgel,_,hce,_⟩:=q4 (by intro e;rw[e] at hnl;simp at hnl)
 rw[hve] at e1 hlc hcm
 simp only at e1 hlc hcm
 subst e1
 have hvc:=hce n v hv 0 _ rfl
 simp only[Nat.mul_one,Nat.add_zero] at hvc
 have hbig:=h.big
 have HN:Hid (∀W,Below wb.heap.size wb W→W.cell? ⟨w.heap.size,0,none⟩=some vo.val∧W.cell? ⟨w.heap.size,1,none⟩=some vt.val∧W.cell? ⟨g,i*7+5,none⟩=some (.slice (some ⟨ge,0,none⟩) x.el.length cap5)∧W.cell? ⟨ge,n,none⟩=some (.int .u64 v)∧Below w.heap.size w W):=fun W r=>⟨(hbx.below r).ce.1,(hbx.below r).ce.2,cells_below r _ _ (hcell 5 _ (by rw[show(soC (x,q))[5]?=some q.ve.val from rfl,hve];rfl)),cells_below r _ _ hvc,hB.trans (r.mono hB.size)⟩
 have hii:(i:Int)<(S.length:Int):=by omega
 have hsl:(S.length:Int)≤65536:=by omega
 obtain⟨b0,b1⟩:=hbx.ce
 have h0i:(0:Int)≤(i:Int):=by omega
 have c1:decide ((n:Int)<0)=false:=decide_eq_false (by omega)
 have c2:decide ((x.el.length:Int)≤(n:Int))=false:=decide_eq_false (by omega)
 have hn3:(n:Int)<(x.el.length:Int):=by omega
 have hel3:(x.el.length:Int)≤9223372036854775807:=by unfold maxLen at hel;omega
 have HV:Hid ((v=18445336698825998340→(if v=18445336698825998340 then 18445336698825998336 else v)=18445336698825998336∧(if v=18445336698825998340 then false else true)=false)∧(¬v=18445336698825998340→(if v=18445336698825998340 then 18445336698825998336 else v)=v∧(if v=18445336698825998340 then false else true)=true)):=⟨fun e=>⟨if_pos e,if_pos e⟩,fun e=>⟨if_neg e,if_neg e⟩⟩
 generalize (if v=18445336698825998340 then 18445336698825998336 else v)=rv at *
 generalize (if v=18445336698825998340 then false else true)=rb at *
 subst hvo
 unfold stV SV.val at *
 simp only at *
 generalize objW (i:Int)=o at *
 generalize x.el.length=ln at *
 clear h hB hbx hi hq t1 hgl hcell hfz hrow hve hel hr q4 hce hvc hv hlc hcm hgel
 go_enter Tryz.func79,Tryz.ntmps79
 go_upto_region 1 with fail
 rw[←hwb]
 clear hwb
 go_wp2_with fail
 refine kl.mono ?_
 rintro e w2 ⟨rfl,hB2⟩
 obtain⟨b0,b1,c5,cv,hbel⟩:=HN.out w2 hB2
 have HB2:Hid (Below wb.heap.size wb w2):=hB2
 have ka:=HA.out w2.drew hB2.drew
 clear kl hB2 hbel
 go_upto_region 3 with fail
 go_region_with ((go_at_call 9;refine ka.mono ?_;rintro e w3 ⟨rfl,hB3⟩;have HX:=(show Hid _ from HN.out w3 (bel_dr HB2.out hB3));obtain⟨b0,b1,c5,cv,_⟩:=HX.out;clear hB3))
 all_goals
  by_cases ch:v=18445336698825998340
  ·subst ch
   have HE:Hid (Below w.heap.size w w3):=HX.out.2.2.2.2
   clear HX HN HA HB2
   have HG:=(show Hid _ from HV.out.1 rfl)
   clear HV
   go_wp2_with fail
   go_ret2
   rw[HG.out.1,HG.out.2]
   exact⟨rfl,HE.out⟩
  ·have c9:(v == 18445336698825998340)=false:=by simpa using ch
   have HE:Hid (Below w.heap.size w w3):=HX.out.2.2.2.2
   clear HX HN HA HB2
   have HG:=(show Hid _ from HV.out.2 ch)
   clear HV
   go_wp2_with fail
   go_ret2
   rw[HG.out.1,HG.out.2]
   exact⟨rfl,HE.out⟩
end
end Go.Proofs.YtahhionlbfhinabGreatDoor.Hp
