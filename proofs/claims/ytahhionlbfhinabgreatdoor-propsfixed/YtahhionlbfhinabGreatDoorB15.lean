/- MI, MJ, VN, KJ, MK -/
import Derived.Test.YtahhionlbfhinabGreatDoorB14
import Derived.Test.YtahhionlbfhinabGreatDoorB9
set_option linter.unusedVariables false
set_option linter.unusedSimpArgs false
set_option maxRecDepth 100000
set_option maxHeartbeats 40000000
namespace Go.Proofs.YtahhionlbfhinabGreatDoor.Hp
open Go.RowKit
theorem intW_wrap (n:Int):intW (wrap32 n)=intW n:=by
 have e:wrap32 n % 4294967296=n % 4294967296:=by unfold wrap32;omega
 unfold intW
 rw[e]
section
variable {w W W' w' w1:World}{B b n:Nat}{tg:Nat→Nat}{S:List So}{vo vt:SV}{qs:List QV}
theorem rown_len (h:StAt w B tg S vo qs)(vt:SV){i:Nat}{x:So}(hi:S[i]?=some x)(hk1:x.kind=1) :
  Calls Tryz.prog 36 #[stV vo vt,.int .u64 (objW (i:Int)),.string lenS] w fun e w'=>e = .returned (.tuple #[deV ⟨intW (x.el.length:Int),undW,1⟩,.bool true])∧Below w.heap.size w w':=by
 obtain⟨wb,hwb⟩:∃wb,wb=(w.alloc (.cells #[vo.val,vt.val] 33)).alloc (.cells #[.int .u64 0,.int .u64 0,.int .i64 0] 39):=⟨_,rfl⟩
 obtain⟨hbs,hbd,hB⟩:=boxSD w vo vt
 rw[←hwb] at hbs hbd hB
 have h2:=h.below hB
 have ka:=rarray_any h2 vt hi
 rw[show(x.kind == 1)=true from by simpa using hk1] at ka
 have HBS:Hid (∀W,Below wb.heap.size wb W→W.cell? ⟨w.heap.size,0,none⟩=some vo.val∧W.cell? ⟨w.heap.size,1,none⟩=some vt.val):=fun W r=>(hbs.below r).ce
 have HFI:Hid (∀w6 d,Below wb.heap.size wb w6→Bx3 w6 (w.heap.size+1) zDe∧Bx3 (st3 w6 (w.heap.size+1) d) (w.heap.size+1) d∧Below w.heap.size w (st3 w6 (w.heap.size+1) d)):=fun w6 d r=>fin3b hB hbd (by omega) r d
 obtain⟨b0,b1⟩:=hbs.ce
 have HL:Hid (∀W,Below wb.heap.size wb W→Calls Tryz.prog 78 #[stV vo vt,.int .u64 (objW (i:Int))] W fun e w'=>e = .returned (.int .i64 (x.el.length:Int))∧Below W.heap.size W w'):=fun W r=>rlen_hit (h2.below r) vt hi
 have hee:(lenS.toList == [108,101,110,103,116,104])=true:=by rw[lenS_l];rfl
 have ki:∀W:World,Calls Tryz.prog 19 #[.int .i32 (wrap32 (x.el.length:Int))] W fun e w'=>e = .returned (.int .u64 (intW (x.el.length:Int)))∧w'=W:=fun W=>by
  have:=refInt_any (wrap32 (x.el.length:Int)) W
  rw[intW_wrap] at this
  exact this
 generalize objW (i:Int)=o at *
 generalize intW (x.el.length:Int)=iw at *
 generalize (x.el.length:Int)=ln at *
 generalize lenS=k at *
 unfold stV deV undW at *
 unfold SV.val at *
 clear h h2 hB hbs hbd hi hk1
 go_enter Tryz.func36,Tryz.ntmps36
 go_upto_region 1 with fail
 rw[←hwb]
 clear hwb
 go_wp2_with fail
 refine ka.mono ?_
 rintro e w2 ⟨rfl,hB2⟩
 obtain⟨b0,b1⟩:=HBS.out w2 hB2
 have HB2:Hid (Below wb.heap.size wb w2):=hB2
 clear ka hB2
 have kl:=HL.out w2 HB2.out
 clear HL HBS
 go_wp2_with fail
 refine kl.mono ?_
 rintro e w3 ⟨rfl,hB3⟩
 have HB3:Hid (Below wb.heap.size wb w3):=bel_sm' HB2.out hB3
 obtain⟨q1,q2,q3⟩:=HFI.out w3 ⟨iw,18445336698825998336,1⟩ HB3.out
 obtain⟨f0,f1,f2⟩:=q1.fz
 obtain⟨d0,d1,d2⟩:=q1.ce
 unfold zDe at d0 d1 d2
 have HF:=(show Hid _ from And.intro q2 q3)
 clear kl hB3 HB2 HB3 HFI q1 q2 q3
 go_wp2_with fail
 refine(ki _).mono ?_
 rintro e w4 ⟨rfl,rfl⟩
 clear ki
 go_wp2_with fail
 refine bodyPost_ret (res2 rfl _ _ (w.heap.size+1) 39 _ (0,0) _ rfl HF.out.1 Tryz.underlying39 rfl (by kernel_rfl)) rfl ?_
 exact⟨rfl,HF.out.2⟩
theorem rown_get (h:StAt w B tg S vo qs)(vt:SV){i:Nat}{x:So}(hi:S[i]?=some x)(hk1:x.kind=1)(k:ByteArray)(hk:k.size≤maxLen)(hl:k≠lenS)(hx:rxI k=none) :
  Calls Tryz.prog 36 #[stV vo vt,.int .u64 (objW (i:Int)),.string k] w fun e w'=>e = .returned (.tuple #[deV ((getS x k).getD zDe),.bool (getS x k).isSome])∧Below w.heap.size w w':=by
 obtain⟨wb,hwb⟩:∃wb,wb=(w.alloc (.cells #[vo.val,vt.val] 33)).alloc (.cells #[.int .u64 0,.int .u64 0,.int .i64 0] 39):=⟨_,rfl⟩
 obtain⟨hbs,hbd,hB⟩:=boxSD w vo vt
 rw[←hwb] at hbs hbd hB
 have h2:=h.below hB
 have ka:=rarray_any h2 vt hi
 rw[show(x.kind == 1)=true from by simpa using hk1] at ka
 have HBS:Hid (∀W,Below wb.heap.size wb W→W.cell? ⟨w.heap.size,0,none⟩=some vo.val∧W.cell? ⟨w.heap.size,1,none⟩=some vt.val):=fun W r=>(hbs.below r).ce
 have HFI:Hid (∀w6 d,Below wb.heap.size wb w6→Bx3 w6 (w.heap.size+1) zDe∧Bx3 (st3 w6 (w.heap.size+1) d) (w.heap.size+1) d∧Below w.heap.size w (st3 w6 (w.heap.size+1) d)):=fun w6 d r=>fin3b hB hbd (by omega) r d
 obtain⟨b0,b1⟩:=hbs.ce
 have HG:Hid (∀W,Below wb.heap.size wb W→Calls Tryz.prog 80 #[stV vo vt,.int .u64 (objW (i:Int)),.string k] W fun e w'=>e = .returned (.tuple #[deV ((getS x k).getD zDe),.bool (getS x k).isSome])∧Below W.heap.size W w'):=fun W r=>rget_any (h2.below r) vt hi k
 have hee:(k.toList == [108,101,110,103,116,104])=false:=by rw[←lenS_l];exact Sp.bytes_no hl
 have kx:∀W:World,Calls Tryz.prog 68 #[.string k] W fun e w'=>e = .returned (.tuple #[.int .i64 0,.bool false])∧w'=W:=fun W=>by
  have:=rindex_any k W hk
  rw[hx] at this
  exact this
 generalize (getS x k).getD zDe=d at *
 generalize (getS x k).isSome=ok at *
 generalize objW (i:Int)=o at *
 unfold stV deV at *
 unfold SV.val at *
 clear h h2 hB hbs hbd hi hk1 hl hx hk
 go_enter Tryz.func36,Tryz.ntmps36
 go_upto_region 1 with fail
 rw[←hwb]
 clear hwb
 go_wp2_with fail
 refine ka.mono ?_
 rintro e w2 ⟨rfl,hB2⟩
 obtain⟨b0,b1⟩:=HBS.out w2 hB2
 have HB2:Hid (Below wb.heap.size wb w2):=hB2
 clear ka hB2
 have kg:=HG.out w2 HB2.out
 clear HG HBS
 go_wp2_with fail
 refine(kx _).mono ?_
 rintro e w2' ⟨rfl,rfl⟩
 clear kx
 go_wp2_with fail
 refine kg.mono ?_
 rintro e w3 ⟨rfl,hB3⟩
 obtain⟨q1,q2,q3⟩:=HFI.out w3 d (bel_sm' HB2.out hB3)
 obtain⟨f0,f1,f2⟩:=q1.fz
 obtain⟨d0,d1,d2⟩:=q1.ce
 unfold zDe at d0 d1 d2
 have HF:=(show Hid _ from And.intro q2 q3)
 clear kg hB3 HB2 HFI q1 q2 q3
 go_wp2_with fail
 refine bodyPost_ret (res2 rfl _ _ (w.heap.size+1) 39 _ (0,0) _ rfl HF.out.1 Tryz.underlying39 rfl (by kernel_rfl)) rfl ?_
 exact⟨rfl,HF.out.2⟩
theorem rown_el (h:StAt w B tg S vo qs)(vt:SV){i:Nat}{x:So}(hi:S[i]?=some x)(hk1:x.kind=1)(k:ByteArray)(hk:k.size≤maxLen)(hl:k≠lenS){n:Nat}(hx:rxI k=some n) :
  Calls Tryz.prog 36 #[stV vo vt,.int .u64 (objW (i:Int)),.string k] w fun e w'=>e = .returned (.tuple #[deV (((elS x.el (n:Int)).map (fun v=>(⟨v,undW,7⟩:De))).getD zDe),.bool (elS x.el (n:Int)).isSome])∧Below w.heap.size w w':=by
 obtain⟨wb,hwb⟩:∃wb,wb=(w.alloc (.cells #[vo.val,vt.val] 33)).alloc (.cells #[.int .u64 0,.int .u64 0,.int .i64 0] 39):=⟨_,rfl⟩
 obtain⟨hbs,hbd,hB⟩:=boxSD w vo vt
 rw[←hwb] at hbs hbd hB
 have h2:=h.below hB
 have ka:=rarray_any h2 vt hi
 rw[show(x.kind == 1)=true from by simpa using hk1] at ka
 have HBS:Hid (∀W,Below wb.heap.size wb W→W.cell? ⟨w.heap.size,0,none⟩=some vo.val∧W.cell? ⟨w.heap.size,1,none⟩=some vt.val):=fun W r=>(hbs.below r).ce
 have HFI:Hid (∀w6 d,Below wb.heap.size wb w6→Bx3 w6 (w.heap.size+1) zDe∧Bx3 (st3 w6 (w.heap.size+1) d) (w.heap.size+1) d∧Below w.heap.size w (st3 w6 (w.heap.size+1) d)):=fun w6 d r=>fin3b hB hbd (by omega) r d
 obtain⟨b0,b1⟩:=hbs.ce
 have hbig:=h.big
 have hil:i<S.length:=(List.getElem?_eq_some_iff.1 hi).1
 have hso:soO S (objW (i:Int))=some x:=by
  have ht:=isT_obj (i:Int) (by omega) (by omega)
  unfold soO obS
  rw[ht.1,ht.2,if_pos ⟨rfl,by omega⟩]
  simpa using hi
 have HE:Hid (∀W,Below wb.heap.size wb W→Calls Tryz.prog 79 #[stV vo vt,.int .u64 (objW (i:Int)),.int .i64 (n:Int)] W fun e w'=>e = .returned (.tuple #[.int .u64 ((elS x.el (n:Int)).getD 18445336698825998336),.bool (elS x.el (n:Int)).isSome])∧Below W.heap.size W w'):=fun W r=>by
  have:=relem_o (h2.below r) vt (objW (i:Int)) (by unfold objW;omega) (by unfold objW;omega) (n:Int)
  rw[hso] at this
  exact this
 have hee:(k.toList == [108,101,110,103,116,104])=false:=by rw[←lenS_l];exact Sp.bytes_no hl
 have kx:∀W:World,Calls Tryz.prog 68 #[.string k] W fun e w'=>e = .returned (.tuple #[.int .i64 (n:Int),.bool true])∧w'=W:=fun W=>by
  have:=rindex_any k W hk
  rw[hx] at this
  exact this
 generalize objW (i:Int)=o at *
 cases he:elS x.el (n:Int) with
 | none =>
   rw[he] at HE
   simp only[Option.getD_none,Option.isSome_none,Option.map_none] at HE ⊢
   unfold stV deV at *
   unfold SV.val at *
   clear h h2 hB hbs hbd hi hk1 hl hx hk hso he hil hbig
   go_enter Tryz.func36,Tryz.ntmps36
   go_upto_region 1 with fail
   rw[←hwb]
   clear hwb
   go_wp2_with fail
   refine ka.mono ?_
   rintro e w2 ⟨rfl,hB2⟩
   obtain⟨b0,b1⟩:=HBS.out w2 hB2
   have HB2:Hid (Below wb.heap.size wb w2):=hB2
   clear ka hB2
   have ke:=HE.out w2 HB2.out
   clear HE HBS
   go_wp2_with fail
   refine(kx _).mono ?_
   rintro e w2' ⟨rfl,rfl⟩
   clear kx
   go_wp2_with fail
   refine ke.mono ?_
   rintro e w3 ⟨rfl,hB3⟩
   obtain⟨q1,q2,q3⟩:=HFI.out w3 zDe (bel_sm' HB2.out hB3)
   obtain⟨f0,f1,f2⟩:=q1.fz
   obtain⟨d0,d1,d2⟩:=q1.ce
   unfold zDe at d0 d1 d2
   have HF:=(show Hid _ from And.intro q2 q3)
   clear ke hB3 HB2 HFI q1 q2 q3
   go_wp2_with fail
   refine bodyPost_ret (res2 rfl _ _ (w.heap.size+1) 39 _ (0,0) _ rfl HF.out.1 Tryz.underlying39 rfl (by kernel_rfl)) rfl ?_
   exact⟨rfl,HF.out.2⟩
 | some v =>
   rw[he] at HE
   simp only[Option.getD_some,Option.isSome_some,Option.map_some] at HE ⊢
   unfold stV deV undW at *
   unfold SV.val at *
   clear h h2 hB hbs hbd hi hk1 hl hx hk hso he hil hbig
   go_enter Tryz.func36,Tryz.ntmps36
   go_upto_region 1 with fail
   rw[←hwb]
   clear hwb
   go_wp2_with fail
   refine ka.mono ?_
   rintro e w2 ⟨rfl,hB2⟩
   obtain⟨b0,b1⟩:=HBS.out w2 hB2
   have HB2:Hid (Below wb.heap.size wb w2):=hB2
   clear ka hB2
   have ke:=HE.out w2 HB2.out
   clear HE HBS
   go_wp2_with fail
   refine(kx _).mono ?_
   rintro e w2' ⟨rfl,rfl⟩
   clear kx
   go_wp2_with fail
   refine ke.mono ?_
   rintro e w3 ⟨rfl,hB3⟩
   obtain⟨q1,q2,q3⟩:=HFI.out w3 ⟨v,18445336698825998336,7⟩ (bel_sm' HB2.out hB3)
   obtain⟨f0,f1,f2⟩:=q1.fz
   obtain⟨d0,d1,d2⟩:=q1.ce
   unfold zDe at d0 d1 d2
   have HF:=(show Hid _ from And.intro q2 q3)
   clear ke hB3 HB2 HFI q1 q2 q3
   go_wp2_with fail
   refine bodyPost_ret (res2 rfl _ _ (w.heap.size+1) 39 _ (0,0) _ rfl HF.out.1 Tryz.underlying39 rfl (by kernel_rfl)) rfl ?_
   exact⟨rfl,HF.out.2⟩
end
section
variable {w W W' w' w1:World}{B b n:Nat}{tg:Nat→Nat}{S:List So}{vo vt:SV}{qs:List QV}
theorem rown_miss (h:StAt w B tg S vo qs)(vt:SV)(o:Int)(o0:0≤o)(o1:o<18446744073709551616)(hm:obS S o=none)(k:ByteArray) :
  Calls Tryz.prog 36 #[stV vo vt,.int .u64 o,.string k] w fun e w'=>e = .returned (.tuple #[deV zDe,.bool false])∧Below w.heap.size w w':=by
 obtain⟨wb,hwb⟩:∃wb,wb=(w.alloc (.cells #[vo.val,vt.val] 33)).alloc (.cells #[.int .u64 0,.int .u64 0,.int .i64 0] 39):=⟨_,rfl⟩
 obtain⟨hbs,hbd,hB⟩:=boxSD w vo vt
 rw[←hwb] at hbs hbd hB
 have h2:=h.below hB
 have ka:=rarray_miss h2 vt o o0 o1 hm
 have HG:Hid (∀W,Below wb.heap.size wb W→Calls Tryz.prog 80 #[stV vo vt,.int .u64 o,.string k] W fun e w'=>e = .returned (.tuple #[deV zDe,.bool false])∧Below W.heap.size W w'):=fun W r=>rget_miss (h2.below r) vt o o0 o1 hm k
 have HBS:Hid (∀W,Below wb.heap.size wb W→W.cell? ⟨w.heap.size,0,none⟩=some vo.val∧W.cell? ⟨w.heap.size,1,none⟩=some vt.val):=fun W r=>(hbs.below r).ce
 have HFI:Hid (∀w6 d,Below wb.heap.size wb w6→Bx3 w6 (w.heap.size+1) zDe∧Bx3 (st3 w6 (w.heap.size+1) d) (w.heap.size+1) d∧Below w.heap.size w (st3 w6 (w.heap.size+1) d)):=fun w6 d r=>fin3b hB hbd (by omega) r d
 obtain⟨b0,b1⟩:=hbs.ce
 have HZ:Hid (zDe=zDe):=rfl
 unfold stV deV at *
 unfold SV.val at *
 clear h h2 hB hbs hbd hm
 go_enter Tryz.func36,Tryz.ntmps36
 go_upto_region 1 with fail
 rw[←hwb]
 clear hwb
 go_wp2_with fail
 refine ka.mono ?_
 rintro e w2 ⟨rfl,hB2⟩
 obtain⟨b0,b1⟩:=HBS.out w2 hB2
 have kg:=HG.out w2 hB2
 have HB2:Hid (Below wb.heap.size wb w2):=hB2
 clear ka hB2 HG HBS
 go_wp2_with fail
 refine kg.mono ?_
 rintro e w3 ⟨rfl,hB3⟩
 obtain⟨q1,q2,q3⟩:=HFI.out w3 zDe (bel_sm' HB2.out hB3)
 obtain⟨f0,f1,f2⟩:=q1.fz
 obtain⟨d0,d1,d2⟩:=q1.ce
 unfold zDe at d0 d1 d2
 have HF:=(show Hid _ from And.intro q2 q3)
 clear kg hB3 HB2 HFI q1 q2 q3
 go_wp2_with fail
 refine bodyPost_ret (res2 rfl _ _ (w.heap.size+1) 39 _ (0,0) _ rfl HF.out.1 Tryz.underlying39 rfl (by kernel_rfl)) rfl ?_
 exact⟨rfl,HF.out.2⟩
theorem rown_o (h:StAt w B tg S vo qs)(vt:SV)(o:Int)(o0:0≤o)(o1:o<18446744073709551616)(k:ByteArray)(hk:k.size≤maxLen) :
  Calls Tryz.prog 36 #[stV vo vt,.int .u64 o,.string k] w fun e w'=>e = .returned (.tuple #[deV (((soO S o).bind (fun x=>ownS x k)).getD zDe),.bool ((soO S o).bind (fun x=>ownS x k)).isSome])∧Below w.heap.size w w':=by
 cases hq:soO S o with
 | none=>exact rown_miss h vt o o0 o1 (soO_none hq o0 o1) k
 | some x =>
   obtain⟨i,h1,rfl,_⟩:=soO_some hq o0 o1
   show Calls Tryz.prog 36 _ w fun e w'=>e = .returned (.tuple #[deV ((ownS x k).getD zDe),.bool (ownS x k).isSome])∧Below w.heap.size w w'
   unfold ownS
   by_cases hk1:x.kind=1
   ·rw[if_pos hk1]
    by_cases hl:k=lenS
    ·rw[if_pos hl,hl]
     exact rown_len h vt h1 hk1
    ·rw[if_neg hl]
     cases hx:rxI k with
     | none=>exact rown_get h vt h1 hk1 k hk hl hx
     | some n =>
       simp only[Option.isSome_map]
       exact rown_el h vt h1 hk1 k hk hl hx
   ·rw[if_neg hk1]
    exact rown_plain h vt h1 hk1 k
end
def He.setO (H:He)(i:Nat)(ob:Ob):He:={ H with obs:=H.obs.set i ob }
def EndsH (H:He):Nat→Int→Prop
 | 0,o=>obO H o=none
 | n+1,o=>obO H o=none∨∃ob,obO H o=some ob∧EndsH H n ob.proto
theorem ends_step {H:He}{g:Nat}{o:Int}{ob:Ob}(he:EndsH H g o)(hq:obO H o=some ob):∃g',g=g'+1∧EndsH H g' ob.proto:=by
 cases g with
 | zero =>
   have he:obO H o=none:=he
   rw[hq] at he
   cases he
 | succ g' =>
   have he:obO H o=none∨∃ob,obO H o=some ob∧EndsH H g' ob.proto:=he
   rcases he with q | ⟨ob',q1,q2⟩
   ·rw[hq] at q;cases q
   ·rw[hq] at q1;cases q1;exact⟨g',rfl,q2⟩
def abvF (H:He)(o:Int):Nat→Int→Bool
 | 0,_=>false
 | n+1,p=>match obO H p with
   | none=>false
   | some ob=>if ob.proto=o then true else abvF H o n ob.proto
theorem abv_none {H:He}{o p:Int}(h:obO H p=none):∀n,abvF H o n p=false
 | 0=>rfl
 | n+1=>by unfold abvF;rw[h]
theorem abv_step {H:He}{o p:Int}{n:Nat}{ob:Ob}(h:obO H p=some ob):abvF H o (n+1) p=if ob.proto=o then true else abvF H o n ob.proto:=by
 rw[abvF,h]
def atV (H:He)(M:HV)(o:Int):Value:=match obI H o with
 | none => .pointer none
 | some i => .pointer (M.vo.ad.map (fun a=>⟨a.block,i*12,none⟩))
section
variable {w w' w1:World}{B hb:Nat}{O S:Nat→Prop}{H H':He}{M M':HV}{tg:Nat→Nat}
theorem at_any (h:HeapAt w B hb tg H M)(o:Int)(o0:0≤o)(o1:o<18446744073709551616) :
  Calls Tryz.prog 45 #[.pointer (some ⟨hb,0,none⟩),.int .u64 o] w fun e w'=>e = .returned (atV H M o)∧w'=w:=by
 unfold atV
 cases hq:obI H o with
 | none=>exact at_miss h o o0 o1 hq
 | some i =>
   obtain⟨ob,hi⟩:=obI_at hq
   obtain⟨g,cap,ov,hvo,_⟩:=h.obj hi
   have:=at_hit h o o0 o1 i g cap hq hvo
   simp only[hvo,Option.map_some]
   exact this
end
def lookF (H:He)(k:ByteArray):Nat→Int→Option (Int×De)
 | 0,_=>none
 | n+1,o=>match obO H o with
   | none=>none
   | some ob=>match ownO ob k with
     | some d=>some (o,d)
     | none=>lookF H k n ob.proto
theorem look_none {H:He}{k:ByteArray}{o:Int}(h:obO H o=none):∀n,lookF H k n o=none
 | 0=>rfl
 | n+1=>by unfold lookF;rw[h]
theorem look_step {H:He}{k:ByteArray}{n:Nat}{o:Int}{ob:Ob}(hq:obO H o=some ob):lookF H k (n+1) o=match ownO ob k with
  | some d=>some (o,d)
  | none=>lookF H k n ob.proto:=by
 rw[lookF,hq]
section
variable {w w' w1:World}{B hb:Nat}{O S:Nat→Prop}{H H':He}{M M':HV}{tg:Nat→Nat}
structure LkAt (w W:World)(H:He)(k:ByteArray)(R:Option (Int×De))(o:Int)(g:Nat):Prop where
 o0:0≤o
 o1:o<18446744073709551616
 bel:Below w.heap.size w W
 bx:Bx3 W w.heap.size zDe
 en:EndsH H g o
 lk:R=lookF H k g o
theorem lookup_at (h:HeapAt w B hb tg H M)(hn:H.neat)(o:Int)(o0:0≤o)(o1:o<18446744073709551616)(k:ByteArray)(hk:k.size≤maxLen)(N:Nat)(he:EndsH H N o) :
  Calls Tryz.prog 15 #[.pointer (some ⟨hb,0,none⟩),.int .u64 o,.string k] w fun e w'=>e = .returned (.tuple #[.int .u64 (((lookF H k N o).map Prod.fst).getD undW),deV (((lookF H k N o).map Prod.snd).getD zDe),.bool (lookF H k N o).isSome])∧Below w.heap.size w w':=by
 generalize hR:lookF H k N o=R at *
 obtain⟨wb,hwb⟩:∃wb,wb=w.alloc (.cells #[.int .u64 0,.int .u64 0,.int .i64 0] 39):=⟨_,rfl⟩
 have hB:Below w.heap.size w wb:=by rw[hwb];exact(Below.refl _ _).alloc (Nat.le_refl _) _
 have hbx:Bx3 wb w.heap.size zDe:=by rw[hwb];exact Bx3.new w
 have HS:Hid (LkAt w wb H k R o N):=⟨o0,o1,hB,hbx,he,hR.symm⟩
 have HH:Hid (HeapAt w B hb tg H M):=h
 have HN:Hid H.neat:=hn
 have HK:Hid (k.size≤maxLen):=hk
 clear h hn hk he hR hB hbx o0 o1
 go_enter Tryz.func15,Tryz.ntmps15
 go_wp2_with fail
 rw[←hwb]
 clear hwb
 go_loopg [1] N (fun g s1 W0=>∃o',s1 = .int .u64 o'∧Hid (LkAt w W0 H k R o' g))
 case atStart=>exact⟨o,rfl,HS⟩
 case round =>
  clear HS
  obtain⟨o',rfl,HL⟩:=hrel
  have hw:=HH.out.below HL.out.bel
  have ki:=isObject_at hw o' HL.out.o0 HL.out.o1
  cases hq:obO H o' with
  | none =>
    have HR:Hid (R=none):=by show R=_;rw[HL.out.lk];exact look_none hq _
    rw[hq] at ki
    simp only[Option.isSome_none] at ki
    obtain⟨f0,f1,f2⟩:=HL.out.bx.fz
    obtain⟨b0,b1,b2⟩:=HL.out.bx.ce
    unfold zDe at b0 b1 b2
    have HF:Hid (Bx3 (st3 wr w.heap.size zDe) w.heap.size zDe∧Below w.heap.size w (st3 wr w.heap.size zDe)):=⟨HL.out.bx.put _,st3_below HL.out.bel (Nat.le_refl _) _⟩
    clear HL hw HH HN HK hq
    go_wp2_with fail
    refine ki.mono ?_
    rintro e w2 ⟨rfl,rfl⟩
    clear ki
    go_wp2_with fail
    refine bodyPost_ret (res3 rfl _ _ w.heap.size 39 _ (0,0) _ rfl HF.out.1 Tryz.underlying39 rfl (by kernel_rfl)) rfl ?_
    rw[HR.out]
    exact⟨rfl,HF.out.2⟩
  | some ob =>
    rw[hq] at ki
    simp only[Option.isSome_some] at ki
    have ko:=own_at hw HN.out o' HL.out.o0 HL.out.o1 k HK.out
    have kp:=fun W (q:Below wr.heap.size wr W)=>proto_any (HH.out.below (HL.out.bel.trans (q.mono HL.out.bel.size))) o' HL.out.o0 HL.out.o1
    rw[hq] at kp
    simp only[Option.map_some,Option.getD_some] at kp
    have hoo:ownH H o' k=ownO ob k:=by unfold ownH;rw[hq];rfl
    rw[hoo] at ko
    obtain⟨g',rfl,hen⟩:=ends_step HL.out.en hq
    have hlk:=HL.out.lk
    rw[look_step hq] at hlk
    have hpr:=(HH.out.wf.ob ob (obO_mem hq)).pr
    have HBX:Hid (∀W,Below wr.heap.size wr W→∀d,Bx3 W w.heap.size zDe∧Bx3 (st3 W w.heap.size d) w.heap.size d∧Below w.heap.size w W∧Below w.heap.size w (st3 W w.heap.size d)):=fun W q d=>by
     have q2:=HL.out.bel.trans (q.mono HL.out.bel.size)
     exact⟨HL.out.bx.below q,(HL.out.bx.below q).put _,q2,st3_below q2 (Nat.le_refl _) _⟩
    cases hw2:ownO ob k with
    | some d =>
      rw[hw2] at hlk ko
      simp only[Option.getD_some,Option.isSome_some] at ko
      have HR:Hid (R=some (o',d)):=hlk
      clear hlk
      unfold deV at *
      clear HL hw HH HN HK hq kp hoo hen hpr hw2
      go_wp2_with fail
      refine ki.mono ?_
      rintro e w2 ⟨rfl,rfl⟩
      clear ki
      go_wp2_with fail
      refine ko.mono ?_
      rintro e w3 ⟨rfl,hB3⟩
      have hB4:Below w2.heap.size w2 (w3.alloc (.cells #[.int .u64 d.va,.int .u64 d.se,.int .i64 d.fl] 39)):=hB3.alloc hB3.size _
      have hb4:=Bx3.box w3 d
      obtain⟨q1,q2,q3,q4⟩:=HBX.out _ hB4 d
      obtain⟨f0,f1,f2⟩:=q1.fz
      obtain⟨b0,b1,b2⟩:=q1.ce
      unfold zDe at b0 b1 b2
      obtain⟨c0,c1,c2⟩:=hb4.ce
      have HF:Hid (Bx3 (st3 (w3.alloc (.cells #[.int .u64 d.va,.int .u64 d.se,.int .i64 d.fl] 39)) w.heap.size d) w.heap.size d∧Below w.heap.size w (st3 (w3.alloc (.cells #[.int .u64 d.va,.int .u64 d.se,.int .i64 d.fl] 39)) w.heap.size d)):=⟨q2,q4⟩
      clear ko HBX hB3 hB4 hb4 q1 q2 q3 q4
      go_wp2_with fail
      generalize w3.alloc (.cells #[.int .u64 d.va,.int .u64 d.se,.int .i64 d.fl] 39)=w4 at *
      go_region
      all_goals
       go_wp2_with fail
       refine bodyPost_ret (res3 rfl _ _ w.heap.size 39 _ (0,0) _ rfl HF.out.1 Tryz.underlying39 rfl (by kernel_rfl)) rfl ?_
       rw[HR.out]
       exact⟨rfl,⟨HF.out.2.os,HF.out.2.tape,HF.out.2.output,HF.out.2.size,HF.out.2.block⟩⟩
    | none =>
      rw[hw2] at hlk ko
      simp only[Option.getD_none,Option.isSome_none] at ko
      have HNX:Hid (∀W,Below wr.heap.size wr W→LkAt w W H k R ob.proto g'):=fun W q=>⟨hpr.1,hpr.2,(HBX.out W q zDe).2.2.1,(HBX.out W q zDe).1,hen,hlk⟩
      generalize ob.proto=o2 at *
      unfold deV zDe at ko
      clear HL hw HH HN HK hq hoo hen hpr hw2 hlk HBX
      go_wp2_with fail
      refine ki.mono ?_
      rintro e w2 ⟨rfl,rfl⟩
      clear ki
      go_wp2_with fail
      refine ko.mono ?_
      rintro e w3 ⟨rfl,hB3⟩
      have hB4:Below w2.heap.size w2 (w3.alloc (.cells #[.int .u64 0,.int .u64 0,.int .i64 0] 39)):=hB3.alloc hB3.size _
      have kp2:=kp _ hB4
      have HN2:Hid (LkAt w (w3.alloc (.cells #[.int .u64 0,.int .u64 0,.int .i64 0] 39)) H k R o2 g'):=HNX.out _ hB4
      clear ko kp hB4 HNX hB3
      go_wp2_with fail
      refine kp2.mono ?_
      rintro e w5 ⟨rfl,rfl⟩
      clear kp2
      go_wp2_with fail
      go_roundg g'
      case measure=>omega
      case rel=>exact⟨o2,rfl,HN2⟩
end
def atI (S:List So)(o:Int):Int:=match obS S o with
 | some i=>(i:Int)
 | none => -1
def lookS (S:List So)(k:ByteArray):Nat→Int→Option (Int×De)
 | 0,_=>none
 | n+1,o=>match soO S o with
   | none=>none
   | some x=>match ownS x k with
     | some d=>some (o,d)
     | none=>lookS S k n x.proto
theorem lookS_none {S:List So}{k:ByteArray}{o:Int}(h:soO S o=none):∀n,lookS S k n o=none
 | 0=>rfl
 | n+1=>by unfold lookS;rw[h]
theorem lookS_step {S:List So}{k:ByteArray}{n:Nat}{o:Int}{x:So}(hq:soO S o=some x):lookS S k (n+1) o=match ownS x k with
  | some d=>some (o,d)
  | none=>lookS S k n x.proto:=by
 rw[lookS,hq]
section
variable {w W W' w' w1:World}{B b n:Nat}{tg:Nat→Nat}{S:List So}{vo vt:SV}{qs:List QV}
theorem rat_o (h:StAt w B tg S vo qs)(vt:SV)(o:Int)(o0:0≤o)(o1:o<18446744073709551616) :
  Calls Tryz.prog 9 #[stV vo vt,.int .u64 o] w fun e w'=>e = .returned (.int .i64 (atI S o))∧Below w.heap.size w w':=by
 unfold atI
 cases hq:obS S o with
 | none=>exact rat_miss h vt o o0 o1 hq
 | some i =>
   obtain⟨h1,rfl⟩:=obS_some o0 o1 hq
   exact rat_any h vt h1
structure LkS (w W:World)(S:List So)(vo vt:SV)(k:ByteArray)(R:Option (Int×De))(o:Int)(j:Nat):Prop where
 o0:0≤o
 o1:o<18446744073709551616
 bel:Below w.heap.size w W
 bs:BxS W w.heap.size vo vt
 bx:Bx3 W (w.heap.size+1) zDe
 lk:R=lookS S k (S.length+1 - j) o
theorem rlookup_any (h:StAt w B tg S vo qs)(vt:SV)(hpr:∀x∈S,0≤x.proto∧x.proto<18446744073709551616)(o:Int)(o0:0≤o)(o1:o<18446744073709551616)(k:ByteArray)(hk:k.size≤maxLen) :
  Calls Tryz.prog 37 #[stV vo vt,.int .u64 o,.string k] w fun e w'=>e = .returned (.tuple #[.int .u64 (((lookS S k (S.length+1) o).map Prod.fst).getD undW),deV (((lookS S k (S.length+1) o).map Prod.snd).getD zDe),.bool (lookS S k (S.length+1) o).isSome])∧Below w.heap.size w w':=by
 generalize hR:lookS S k (S.length+1) o=R at *
 obtain⟨wb,hwb⟩:∃wb,wb=(w.alloc (.cells #[vo.val,vt.val] 33)).alloc (.cells #[.int .u64 0,.int .u64 0,.int .i64 0] 39):=⟨_,rfl⟩
 obtain⟨hbs,hbd,hB⟩:=boxSD w vo vt
 rw[←hwb] at hbs hbd hB
 have HS:Hid (LkS w wb S vo vt k R o 0):=⟨o0,o1,hB,hbs,hbd,hR.symm⟩
 have HH:Hid (StAt w B tg S vo qs):=h
 have HP:Hid (∀x∈S,0≤x.proto∧x.proto<18446744073709551616):=hpr
 have HK:Hid (k.size≤maxLen):=hk
 have hsl:(S.length:Int)≤65536:=by have:=h.big;omega
 obtain⟨ad,cap,hv,_,_⟩:=h.vol
 have HV:Hid (vo.val = .slice ad S.length cap):=by rw[hv];rfl
 unfold stV
 rw[HV.out]
 rw[HV.out,show vt.val = .slice vt.ad vt.len vt.cap from rfl] at hwb
 rw[show vt.val = .slice vt.ad vt.len vt.cap from rfl]
 clear h hk hpr hR hbs hbd hB o0 o1 hv
 go_enter Tryz.func37,Tryz.ntmps37
 go_wp2_with fail
 rw[←hwb]
 clear hwb
 go_loopw [1,9] (fun s1 s9 W0=>∃(o':Int) (j:Nat),j≤S.length+1∧s1 = .int .u64 o'∧s9 = .int .i64 (j:Int)∧Hid (LkS w W0 S vo vt k R o' j)) (fun s1 s9 W0=>((S.length:Int)+1 - intOf s9).toNat)
 case atStart=>exact⟨o,0,by omega,rfl,rfl,HS⟩
 case round =>
  clear HS
  obtain⟨o',j,hj,rfl,rfl,HL⟩:=hrel
  obtain⟨b0,b1⟩:=HL.out.bs.ce
  rw[HV.out] at b0
  rw[show vt.val = .slice vt.ad vt.len vt.cap from rfl] at b1
  obtain⟨f0,f1,f2⟩:=HL.out.bx.fz
  obtain⟨d0,d1,d2⟩:=HL.out.bx.ce
  unfold zDe at d0 d1 d2
  by_cases cj:j=S.length+1
  ·have hle:¬((j:Int)≤(S.length:Int)):=by omega
   have HR:Hid (R=none):=by
    show R=none
    rw[HL.out.lk,cj,Nat.sub_self]
    rfl
   have HF:Hid (Bx3 (st3 wr (w.heap.size+1) zDe) (w.heap.size+1) zDe∧Below w.heap.size w (st3 wr (w.heap.size+1) zDe)):=⟨HL.out.bx.put _,st3_below HL.out.bel (by omega) _⟩
   clear HL HH HP HK cj hj
   go_wp2_with fail
   refine bodyPost_ret (res3 rfl _ _ (w.heap.size+1) 39 _ (0,0) _ rfl HF.out.1 Tryz.underlying39 rfl (by kernel_rfl)) rfl ?_
   rw[HR.out]
   exact⟨rfl,HF.out.2⟩
  ·have hle:(j:Int)≤(S.length:Int):=by omega
   have hw1:IntKind.i64.wrap ((j:Int)+1)=((j+1:Nat):Int):=by rw[IntKind.wrap_i64];omega
   have ka:=rat_o (HH.out.below HL.out.bel) vt o' HL.out.o0 HL.out.o1
   unfold stV at ka
   rw[HV.out,show vt.val = .slice vt.ad vt.len vt.cap from rfl] at ka
   cases hq:soO S o' with
   | none =>
     have hat:atI S o' = -1:=by unfold atI;rw[soO_none hq HL.out.o0 HL.out.o1]
     rw[hat] at ka
     have HR:Hid (R=none):=by show R=none;rw[HL.out.lk];exact lookS_none hq _
     have HFI:Hid (∀W,Below wr.heap.size wr W→Bx3 W (w.heap.size+1) zDe∧Bx3 (st3 W (w.heap.size+1) zDe) (w.heap.size+1) zDe∧Below w.heap.size w (st3 W (w.heap.size+1) zDe)):=fun W q=>⟨HL.out.bx.below q,(HL.out.bx.below q).put _,st3_below (bel_sm' HL.out.bel q) (by omega) _⟩
     clear HL HH HP HK cj hj hat hq
     go_wp2_with fail
     refine ka.mono ?_
     rintro e w2 ⟨rfl,hB2⟩
     obtain⟨q1,q2,q3⟩:=HFI.out w2 hB2
     obtain⟨f0,f1,f2⟩:=q1.fz
     obtain⟨d0,d1,d2⟩:=q1.ce
     unfold zDe at d0 d1 d2
     have HF:=(show Hid _ from And.intro q2 q3)
     clear ka hB2 HFI q1 q2 q3
     go_wp2_with fail
     refine bodyPost_ret (res3 rfl _ _ (w.heap.size+1) 39 _ (0,0) _ rfl HF.out.1 Tryz.underlying39 rfl (by kernel_rfl)) rfl ?_
     rw[HR.out]
     exact⟨rfl,HF.out.2⟩
   | some x =>
     obtain⟨i,hi,hoi,hil⟩:=soO_some hq HL.out.o0 HL.out.o1
     have hat:atI S o'=(i:Int):=by
      unfold atI
      cases hz:obS S o' with
      | none=>unfold soO at hq;rw[hz] at hq;cases hq
      | some i' =>
        have:=(obS_some HL.out.o0 HL.out.o1 hz).2
        show(i':Int)=(i:Int)
        rw[hoi] at this
        unfold objW at this
        have:=(obS_some HL.out.o0 HL.out.o1 hz).1
        have:=HH.out.big
        omega
     rw[hat] at ka
     have h0i:(0:Int)≤(i:Int):=by omega
     have hx:=HP.out x (List.mem_of_getElem? hi)
     have hlk:=HL.out.lk
     rw[show S.length+1 - j=(S.length+1 - (j+1))+1 from by omega,lookS_step hq] at hlk
     have KO:Hid (∀W,Below wr.heap.size wr W→Calls Tryz.prog 36 #[.agg #[.slice ad S.length cap,.slice vt.ad vt.len vt.cap],.int .u64 o',.string k] W fun e w'=>e = .returned (.tuple #[deV ((ownS x k).getD zDe),.bool (ownS x k).isSome])∧Below W.heap.size W w'):=fun W q=>by
      have:=rown_o (HH.out.below (bel_sm' HL.out.bel q)) vt o' HL.out.o0 HL.out.o1 k HK.out
      rw[hq] at this
      unfold stV at this
      rw[HV.out] at this
      exact this
     have KP:Hid (∀W,Below wr.heap.size wr W→Calls Tryz.prog 76 #[.agg #[.slice ad S.length cap,.slice vt.ad vt.len vt.cap],.int .u64 o'] W fun e w'=>e = .returned (.int .u64 x.proto)∧Below W.heap.size W w'):=fun W q=>by
      have:=rproto_o (HH.out.below (bel_sm' HL.out.bel q)) vt o' HL.out.o0 HL.out.o1
      rw[hq] at this
      unfold stV at this
      rw[HV.out] at this
      exact this
     have HBX:Hid (∀W,Below wr.heap.size wr W→(W.cell? ⟨w.heap.size,0,none⟩=some (.slice ad S.length cap)∧W.cell? ⟨w.heap.size,1,none⟩=some (.slice vt.ad vt.len vt.cap))∧∀d,Bx3 W (w.heap.size+1) zDe∧Bx3 (st3 W (w.heap.size+1) d) (w.heap.size+1) d∧Below w.heap.size w W∧Below w.heap.size w (st3 W (w.heap.size+1) d)):=fun W q=>by
      have q2:=bel_sm' HL.out.bel q
      have q3:=(HL.out.bs.below q).ce
      rw[HV.out] at q3
      exact⟨q3,fun d=>⟨HL.out.bx.below q,(HL.out.bx.below q).put _,q2,st3_below q2 (by omega) _⟩⟩
     have HNX:Hid (∀W,Below wr.heap.size wr W→ownS x k=none→LkS w W S vo vt k R x.proto (j+1)):=fun W q e=>by
      rw[e] at hlk
      exact⟨hx.1,hx.2,bel_sm' HL.out.bel q,HL.out.bs.below q,HL.out.bx.below q,hlk⟩
     cases hw2:ownS x k with
     | some d =>
       rw[hw2] at hlk KO
       simp only[Option.getD_some,Option.isSome_some] at KO
       have HR:Hid (R=some (o',d)):=hlk
       clear hlk HL HH HP HK hq hat hi hoi hil hx KP HNX hw2 cj
       unfold deV at *
       go_wp2_with fail
       refine ka.mono ?_
       rintro e w2 ⟨rfl,hB2⟩
       obtain⟨⟨b0,b1⟩,_⟩:=HBX.out w2 hB2
       have ko:=KO.out w2 hB2
       have HB2:Hid (Below wr.heap.size wr w2):=hB2
       clear ka hB2 KO
       go_wp2_with fail
       refine ko.mono ?_
       rintro e w3 ⟨rfl,hB3⟩
       have hB4:Below wr.heap.size wr (w3.alloc (.cells #[.int .u64 d.va,.int .u64 d.se,.int .i64 d.fl] 39)):=bel_sm' HB2.out (hB3.alloc hB3.size _)
       have hb4:=Bx3.box w3 d
       obtain⟨_,hq2⟩:=HBX.out _ hB4
       obtain⟨q1,q2,q3,q4⟩:=hq2 d
       obtain⟨f0,f1,f2⟩:=q1.fz
       obtain⟨d0,d1,d2⟩:=q1.ce
       unfold zDe at d0 d1 d2
       obtain⟨c0,c1,c2⟩:=hb4.ce
       have HF:Hid (Bx3 (st3 (w3.alloc (.cells #[.int .u64 d.va,.int .u64 d.se,.int .i64 d.fl] 39)) (w.heap.size+1) d) (w.heap.size+1) d∧Below w.heap.size w (st3 (w3.alloc (.cells #[.int .u64 d.va,.int .u64 d.se,.int .i64 d.fl] 39)) (w.heap.size+1) d)):=⟨q2,q4⟩
       clear ko HBX hB3 hB4 hb4 q1 q2 q3 q4 hq2 HB2
       go_wp2_with fail
       generalize w3.alloc (.cells #[.int .u64 d.va,.int .u64 d.se,.int .i64 d.fl] 39)=w4 at *
       go_region
       all_goals
        go_wp2_with fail
        refine bodyPost_ret (res3 rfl _ _ (w.heap.size+1) 39 _ (0,0) _ rfl HF.out.1 Tryz.underlying39 rfl (by kernel_rfl)) rfl ?_
        rw[HR.out]
        exact⟨rfl,⟨HF.out.2.os,HF.out.2.tape,HF.out.2.output,HF.out.2.size,HF.out.2.block⟩⟩
     | none =>
       have HN2:Hid (∀W,Below wr.heap.size wr W→LkS w W S vo vt k R x.proto (j+1)):=fun W q=>HNX.out W q hw2
       rw[hw2] at KO
       simp only[Option.getD_none,Option.isSome_none] at KO
       have hjl:j≤S.length:=by omega
       generalize x.proto=o2 at *
       clear hlk HL HH HP HK hq hat hi hoi hil hx HNX hw2 cj
       unfold deV zDe at KO
       go_wp2_with fail
       refine ka.mono ?_
       rintro e w2 ⟨rfl,hB2⟩
       obtain⟨⟨b0,b1⟩,_⟩:=HBX.out w2 hB2
       have ko:=KO.out w2 hB2
       have HB2:Hid (Below wr.heap.size wr w2):=hB2
       clear ka hB2 KO
       go_wp2_with fail
       refine ko.mono ?_
       rintro e w3 ⟨rfl,hB3⟩
       have hB4:Below wr.heap.size wr (w3.alloc (.cells #[.int .u64 0,.int .u64 0,.int .i64 0] 39)):=bel_sm' HB2.out (hB3.alloc hB3.size _)
       have HB4:Hid (Below wr.heap.size wr (w3.alloc (.cells #[.int .u64 0,.int .u64 0,.int .i64 0] 39))):=hB4
       obtain⟨⟨b0,b1⟩,_⟩:=HBX.out _ hB4
       have kp:=KP.out _ hB4
       clear ko hB3 hB4 HBX KP HB2
       go_wp2_with fail
       refine kp.mono ?_
       rintro e w5 ⟨rfl,hB5⟩
       have HL5:Hid (LkS w w5 S vo vt k R o2 (j+1)):=HN2.out w5 (bel_sm' HB4.out hB5)
       clear kp hB5 HB4 HN2
       go_wp2_with fail
       refine⟨⟨o2,j+1,by omega,rfl,rfl,HL5⟩,?_⟩
       simp[intOf]
       omega
end
end Go.Proofs.YtahhionlbfhinabGreatDoor.Hp
