/- UE -/
import Derived.Test.YtahhionlbfhinabGreatDoorB19
import Derived.Test.YtahhionlbfhinabGreatDoorB13
set_option linter.unusedVariables false
set_option linter.unusedSimpArgs false
set_option maxRecDepth 100000
set_option maxHeartbeats 40000000
namespace Go.Proofs.YtahhionlbfhinabGreatDoor.Hp
open Go.RowKit
def upS (S:List So)(p:Int):Int:=((soO S p).map So.proto).getD 18445336698825998337
def repB (S:List So)(o:Int):Nat→Int→Bool
 | 0,_=>false
 | n+1,p=>if p=o then true else repB S o n (upS S p)
theorem repB_yes {S:List So}{o p:Int}{n:Nat}(h:p=o):repB S o (n+1) p=true:=by rw[repB,if_pos h]
theorem repB_no {S:List So}{o p:Int}{n:Nat}(h:¬p=o):repB S o (n+1) p=repB S o n (upS S p):=by rw[repB,if_neg h]
section
variable {w W W' w' w1:World}{B b:Nat}{tg:Nat→Nat}{S S':List So}{vo vt:SV}{qs:List QV}{i:Nat}{x x':So}{q:QV}
structure RpS (wb W:World)(S:List So)(o p u:Int)(j:Nat):Prop where
 u0:0≤u
 u1:u<18446744073709551616
 bel:Below wb.heap.size wb W
 eq:repB S o (S.length+1) p=repB S o (S.length+1 - j) u
theorem soP_proto {B:Nat}{x:So}{q:QV}{p:Int}:∀(W:World)(O:Nat→Prop)(c:Nat),SoP W B O x q c→SoP W B O { x with proto:=p } q c
 | _,_,0,h=>h
 | _,_,1,h=>h
 | _,_,2,h=>h
 | _,_,_+3,h=>h
theorem rrepro_null (h:StAt w B tg S vo qs)(vt:SV)(hpr:∀x∈S,0≤x.proto∧x.proto<18446744073709551616)(hi:S[i]?=some x)(p:Int)(p0:0≤p)(p1:p<18446744073709551616)(hnb:(p != 18445336698825998337)=false) :
  Calls Tryz.prog 77 #[stV vo vt,.int .u64 (objW (i:Int)),.int .u64 p] w fun e w'=>e = .returned (stV vo vt)∧SWent w B tg (if repB S (objW (i:Int)) (S.length+1) p=true then S else S.set i { x with proto:=p }) vo w':=by
 obtain⟨RS,hRS⟩:∃RS,RS=(if repB S (objW (i:Int)) (S.length+1) p=true then S else S.set i { x with proto:=p }):=⟨_,rfl⟩
 rw[←hRS]
 have HRS:Hid (RS=(if repB S (objW (i:Int)) (S.length+1) p=true then S else S.set i { x with proto:=p })):=hRS
 clear hRS
 obtain⟨wb,hwb⟩:∃wb,wb=(w.alloc (.cells #[vo.val,vt.val] 33)).alloc (.cells #[.slice none 0 0,.slice none 0 0] 33):=⟨_,rfl⟩
 obtain⟨hbs,hbr,hB⟩:=boxS2 w vo vt
 rw[←hwb] at hbs hbr hB
 have hil:i<S.length:=(List.getElem?_eq_some_iff.1 hi).1
 have h2:=h.below hB
 have ka:=rat_any h2 vt hil
 obtain⟨g,cap,q,hv,hq,t1,hgl,hcell,hfz,hl1,hl2,hrow⟩:=h2.obj hi
 have hbig:=h.big
 have hsame:=h.same x (List.mem_of_getElem? hi)
 have HBS:Hid (∀W,Below wb.heap.size wb W→W.cell? ⟨w.heap.size,0,none⟩=some vo.val∧W.cell? ⟨w.heap.size,1,none⟩=some vt.val):=fun W r=>(hbs.below r).ce
 have HN:Hid (∀W,Below wb.heap.size wb W→∀j u,(soC (x,q))[j]?=some u→W.cell? ⟨g,i*7+j,none⟩=some u):=fun W r j u hj=>cells_below r _ _ (hcell j u hj)
 have HW:Hid (∀W,Below wb.heap.size wb W→Calls Tryz.prog 81 #[stV vo vt,.int .i64 (i:Int),soV ({ x with proto:=p },q)] W fun e w'=>e = .returned (stV vo vt)∧SWent W B tg (S.set i { x with proto:=p }) vo w'):=fun W r=>with_same (h2.below r) vt hi hq soP_proto hsame
 have HE:Hid (∀W0 W' S',Below wb.heap.size wb W0→SWent W0 B tg S' vo W'→BxS W' (w.heap.size+1) .nil .nil∧BxS ((W'.setCell ⟨w.heap.size+1,0,none⟩ vo.val).setCell ⟨w.heap.size+1,1,none⟩ vt.val) (w.heap.size+1) vo vt∧SWent w B tg S' vo ((W'.setCell ⟨w.heap.size+1,0,none⟩ vo.val).setCell ⟨w.heap.size+1,1,none⟩ vt.val)):=fun W0 W' S' r s=>st_res h (bel_sm' hB r) (hbr.below r) s vt
 have HSA:Hid (∀W,Below wb.heap.size wb W→SWent W B tg S vo W):=fun W r=>SWent.same (h2.below r) (Below.refl _ _)
 have HPT:Hid (∀W u,Below wb.heap.size wb W→0≤u→u<18446744073709551616→Calls Tryz.prog 76 #[stV vo vt,.int .u64 u] W fun e w'=>e = .returned (.int .u64 (upS S u))∧Below W.heap.size W w'):=fun W u r u0 u1=>rproto_o (h2.below r) vt u u0 u1
 have HUP:Hid (∀u,0≤u→u<18446744073709551616→0≤upS S u∧upS S u<18446744073709551616):=fun u u0 u1=>by
  unfold upS
  cases hs:soO S u with
  | none=>exact⟨by decide,by decide⟩
  | some y =>
    obtain⟨k,e1,_,_⟩:=soO_some hs u0 u1
    exact hpr y (List.mem_of_getElem? e1)
 have HS0:Hid (∀W,Below wb.heap.size wb W→RpS wb W S (objW (i:Int)) p p 0):=fun W r=>⟨p0,p1,r,rfl⟩
 have HBIG:Hid (S.length≤65536):=hbig
 have hii:(i:Int)<(S.length:Int):=by omega
 have hsl:(S.length:Int)≤65536:=by omega
 obtain⟨b0,b1⟩:=hbs.ce
 have h0i:¬((i:Int)<0):=by omega
 have hidd:decide ((i:Int)<0)=false:=decide_eq_false h0i
 have hvv:vo.val = .slice (some ⟨g,0,none⟩) S.length cap:=by rw[hv];rfl
 have HVV:Hid (vo.val = .slice (some ⟨g,0,none⟩) S.length cap):=hvv
 unfold stV at ka ⊢
 rw[hvv] at hwb ka b0 ⊢
 rw[show vt.val = .slice vt.ad vt.len vt.cap from rfl] at *
 generalize objW (i:Int)=o at *
 have HIN:Hid (True∧x.ds.length=x.nm.length):=⟨trivial,hsame⟩
 clear h h2 hB hbs hbr hq t1 hgl hcell hfz hrow hi hsame hil hbig hv hvv hpr p0 p1
 go_enter Tryz.func77,Tryz.ntmps77
 go_upto_region 1 with fail
 rw[←hwb]
 clear hwb
 generalize hnul:(18445336698825998337:Int)=nul at *
 clear hnul
 go_wp2_with fail
 refine ka.mono ?_
 rintro e w2 ⟨rfl,hB2⟩
 obtain⟨b0,b1⟩:=HBS.out w2 hB2
 rw[HVV.out] at b0
 have HB2:Hid (Below wb.heap.size wb w2):=hB2
 clear ka hB2
 have HBX:=HB2
 have HS:Hid (RpS wb w2 S o p p 0):=HS0.out w2 HBX.out
 clear HS0
 go_wp2_with fail
 go_loopw [8,9] (fun a c wr=>∃(u:Int) (j:Nat),j≤S.length+1∧a = .int .u64 u∧c = .int .i64 (j:Int)∧Hid (RpS wb wr S o p u j)) (fun a c wr=>((S.length:Int)+1 - intOf c).toNat)
 case atStart=>exact⟨p,0,by omega,rfl,rfl,HS⟩
 case round =>
  clear HS
  obtain⟨u,j,hj,rfl,rfl,HL⟩:=hrel
  obtain⟨b0,b1⟩:=HBS.out wr HL.out.bel
  rw[HVV.out] at b0
  by_cases cj:j=S.length+1
  ·have hle:¬((j:Int)≤(S.length:Int)):=by omega
   have HR:Hid (repB S o (S.length+1) p=false):=by
    show _=_
    rw[HL.out.eq,cj,Nat.sub_self]
    rfl
   have hc:=HN.out wr HL.out.bel
   have c0:=hc 0 _ rfl
   have c1:=hc 1 _ rfl
   have c2:=hc 2 _ rfl
   have c3:=hc 3 _ rfl
   have c4:=hc 4 _ rfl
   have c5:=hc 5 _ rfl
   have c6:=hc 6 _ rfl
   simp only[Nat.add_zero] at c0 c3 c4 c5 c6
   unfold SV.val at c3 c4 c5 c6
   simp only at c0 c1 c2 c3 c4 c5 c6
   have HB2:Hid (Below wb.heap.size wb wr):=HL.out.bel
   clear hc HL HUP HPT HN HSA hj cj
   have HO3:Hid (BxO (wr.alloc (.cells #[.int .i64 x.kind,.int .u64 x.proto,.bool x.shut,.slice q.vn.ad q.vn.len q.vn.cap,.slice q.vd.ad q.vd.len q.vd.cap,.slice q.ve.ad q.ve.len q.ve.cap,.slice q.vi.ad q.vi.len q.vi.cap] 71)) wr.heap.size (x,q)):=BxO.new wr (x,q)
   have HB3:Hid (Below wb.heap.size wb (wr.alloc (.cells #[.int .i64 x.kind,.int .u64 x.proto,.bool x.shut,.slice q.vn.ad q.vn.len q.vn.cap,.slice q.vd.ad q.vd.len q.vd.cap,.slice q.ve.ad q.ve.len q.ve.cap,.slice q.vi.ad q.vi.len q.vi.cap] 71))∧wb.heap.size≤wr.heap.size):=⟨bel_sm' HB2.out ((Below.refl _ _).alloc (Nat.le_refl _) _),HB2.out.size⟩
   clear HB2
   go_upto_region 12 with fail
   generalize wr.alloc (.cells #[.int .i64 x.kind,.int .u64 x.proto,.bool x.shut,.slice q.vn.ad q.vn.len q.vn.cap,.slice q.vd.ad q.vd.len q.vd.cap,.slice q.ve.ad q.ve.len q.ve.cap,.slice q.vi.ad q.vi.len q.vi.cap] 71)=w3 at *
   generalize wr.heap.size=bo at *
   have e2:=HO3.out.fz 1
   have e3:w3.cell? ⟨bo,1,none⟩=some (.int .u64 x.proto):=HO3.out.ce.2.1
   have HO4:Hid (BxO (w3.setCell ⟨bo,1,none⟩ (.int .u64 p)) bo ({ x with proto:=p },q)):=heap_setCell_same _ bo 1 _ _ (.int .u64 p) HO3.out
   have HB4:Hid (Below wb.heap.size wb (w3.setCell ⟨bo,1,none⟩ (.int .u64 p))):=HB3.out.1.setCell HB3.out.2 _
   clear c0 c1 c2 c3 c4 c5 c6 b0 b1 HB3 HO3
   go_upto_region 13 with fail
   generalize w3.setCell ⟨bo,1,none⟩ (.int .u64 p)=w4 at *
   obtain⟨b0,b1⟩:=HBS.out w4 HB4.out
   rw[HVV.out] at b0
   obtain⟨c0,c1,c2,c3,c4,c5,c6⟩:=HO4.out.ce
   unfold SV.val at c3 c4 c5 c6
   simp only at c0 c1 c2 c3 c4 c5 c6
   have kw:=HW.out w4 HB4.out
   unfold stV soV at kw
   rw[HVV.out,show vt.val = .slice vt.ad vt.len vt.cap from rfl] at kw
   unfold SV.val at kw
   simp only at kw
   clear HW HO4 e2 e3 HBS
   go_wp2_with fail
   refine kw.mono ?_
   rintro e w5 ⟨rfl,hs5⟩
   obtain⟨k1,k2,k3⟩:=HE.out w4 w5 _ HB4.out hs5
   obtain⟨r0,r1⟩:=k1.ce
   obtain⟨f0,f1⟩:=k1.fz
   rw[HVV.out] at k2 k3
   have HF:=(show Hid _ from And.intro k2 k3)
   clear kw hs5 HE HB4 k1 k2 k3 b0 b1 c0 c1 c2 c3 c4 c5 c6
   unfold SV.nil SV.val at r0 r1
   simp only at r0 r1
   go_wp2_with fail
   refine bodyPost_ret (res1 rfl _ _ (w.heap.size+1) 33 _ (0,0) _ rfl HF.out.1 Tryz.underlying33 rfl (by kernel_rfl)) rfl ?_
   exact⟨by rw[HVV.out];rfl,by rw[HRS.out,if_neg (by rw[HR.out];decide)];exact HF.out.2⟩
  ·have hle:(j:Int)≤(S.length:Int):=by omega
   have hw1:IntKind.i64.wrap ((j:Int)+1)=((j+1:Nat):Int):=by rw[IntKind.wrap_i64];have:=HBIG.out;omega
   have HJ:Hid (j≤S.length):=by show _≤_;omega
   by_cases cu:u=o
   ·have hub:(u == o)=true:=by simpa using cu
    have HR:Hid (repB S o (S.length+1) p=true):=by
     show _=_
     rw[HL.out.eq,show S.length+1 - j=(S.length - j)+1 by omega,repB_yes cu]
    obtain⟨k1,k2,k3⟩:=HE.out wr wr S HL.out.bel (HSA.out wr HL.out.bel)
    obtain⟨r0,r1⟩:=k1.ce
    obtain⟨f0,f1⟩:=k1.fz
    rw[HVV.out] at k2 k3
    have HF:=(show Hid _ from And.intro k2 k3)
    clear HE k1 k2 k3 HL cu hj cj HUP HPT HW HN HBS HSA
    unfold SV.nil SV.val at r0 r1
    simp only at r0 r1
    go_wp2_with fail
    refine bodyPost_ret (res1 rfl _ _ (w.heap.size+1) 33 _ (0,0) _ rfl HF.out.1 Tryz.underlying33 rfl (by kernel_rfl)) rfl ?_
    exact⟨by rw[HVV.out];rfl,by rw[HRS.out,if_pos HR.out];exact HF.out.2⟩
   ·have hub:(u == o)=false:=by simpa using cu
    have kp:=HPT.out wr u HL.out.bel HL.out.u0 HL.out.u1
    unfold stV at kp
    rw[HVV.out,show vt.val = .slice vt.ad vt.len vt.cap from rfl] at kp
    have HNX:Hid (∀W,Below wr.heap.size wr W→RpS wb W S o p (upS S u) (j+1)):=fun W r=>⟨(HUP.out u HL.out.u0 HL.out.u1).1,(HUP.out u HL.out.u0 HL.out.u1).2,bel_sm' HL.out.bel r,by
     have:=HJ.out
     rw[HL.out.eq,show S.length+1 - j=(S.length+1 - (j+1))+1 by omega,repB_no cu]⟩
    clear HE HL cu hj cj HUP HPT HW HN HBS HSA
    go_wp2_with fail
    refine kp.mono ?_
    rintro e w3 ⟨rfl,hB3⟩
    have HN3:=(show Hid _ from HNX.out w3 hB3)
    clear kp hB3 HNX
    go_wp2_with fail
    refine⟨⟨_,j+1,by have:=HJ.out;omega,rfl,by first | rfl | trivial,HN3⟩,?_⟩
    have:=HJ.out
    simp[intOf]
    omega
theorem rrepro_obj (h:StAt w B tg S vo qs)(vt:SV)(hpr:∀x∈S,0≤x.proto∧x.proto<18446744073709551616)(hi:S[i]?=some x)(p:Int)(p0:0≤p)(p1:p<18446744073709551616)(hnb:(p != 18445336698825998337)=true){m:Nat}(hm:m<S.length)(hp:p=objW (m:Int)) :
  Calls Tryz.prog 77 #[stV vo vt,.int .u64 (objW (i:Int)),.int .u64 p] w fun e w'=>e = .returned (stV vo vt)∧SWent w B tg (if repB S (objW (i:Int)) (S.length+1) p=true then S else S.set i { x with proto:=p }) vo w':=by
 obtain⟨RS,hRS⟩:∃RS,RS=(if repB S (objW (i:Int)) (S.length+1) p=true then S else S.set i { x with proto:=p }):=⟨_,rfl⟩
 rw[←hRS]
 have HRS:Hid (RS=(if repB S (objW (i:Int)) (S.length+1) p=true then S else S.set i { x with proto:=p })):=hRS
 clear hRS
 obtain⟨wb,hwb⟩:∃wb,wb=(w.alloc (.cells #[vo.val,vt.val] 33)).alloc (.cells #[.slice none 0 0,.slice none 0 0] 33):=⟨_,rfl⟩
 obtain⟨hbs,hbr,hB⟩:=boxS2 w vo vt
 rw[←hwb] at hbs hbr hB
 have hil:i<S.length:=(List.getElem?_eq_some_iff.1 hi).1
 have h2:=h.below hB
 have ka:=rat_any h2 vt hil
 obtain⟨g,cap,q,hv,hq,t1,hgl,hcell,hfz,hl1,hl2,hrow⟩:=h2.obj hi
 have hbig:=h.big
 have hsame:=h.same x (List.mem_of_getElem? hi)
 have HBS:Hid (∀W,Below wb.heap.size wb W→W.cell? ⟨w.heap.size,0,none⟩=some vo.val∧W.cell? ⟨w.heap.size,1,none⟩=some vt.val):=fun W r=>(hbs.below r).ce
 have HN:Hid (∀W,Below wb.heap.size wb W→∀j u,(soC (x,q))[j]?=some u→W.cell? ⟨g,i*7+j,none⟩=some u):=fun W r j u hj=>cells_below r _ _ (hcell j u hj)
 have HW:Hid (∀W,Below wb.heap.size wb W→Calls Tryz.prog 81 #[stV vo vt,.int .i64 (i:Int),soV ({ x with proto:=p },q)] W fun e w'=>e = .returned (stV vo vt)∧SWent W B tg (S.set i { x with proto:=p }) vo w'):=fun W r=>with_same (h2.below r) vt hi hq soP_proto hsame
 have HE:Hid (∀W0 W' S',Below wb.heap.size wb W0→SWent W0 B tg S' vo W'→BxS W' (w.heap.size+1) .nil .nil∧BxS ((W'.setCell ⟨w.heap.size+1,0,none⟩ vo.val).setCell ⟨w.heap.size+1,1,none⟩ vt.val) (w.heap.size+1) vo vt∧SWent w B tg S' vo ((W'.setCell ⟨w.heap.size+1,0,none⟩ vo.val).setCell ⟨w.heap.size+1,1,none⟩ vt.val)):=fun W0 W' S' r s=>st_res h (bel_sm' hB r) (hbr.below r) s vt
 have HSA:Hid (∀W,Below wb.heap.size wb W→SWent W B tg S vo W):=fun W r=>SWent.same (h2.below r) (Below.refl _ _)
 have HPT:Hid (∀W u,Below wb.heap.size wb W→0≤u→u<18446744073709551616→Calls Tryz.prog 76 #[stV vo vt,.int .u64 u] W fun e w'=>e = .returned (.int .u64 (upS S u))∧Below W.heap.size W w'):=fun W u r u0 u1=>rproto_o (h2.below r) vt u u0 u1
 have HUP:Hid (∀u,0≤u→u<18446744073709551616→0≤upS S u∧upS S u<18446744073709551616):=fun u u0 u1=>by
  unfold upS
  cases hs:soO S u with
  | none=>exact⟨by decide,by decide⟩
  | some y =>
    obtain⟨k,e1,_,_⟩:=soO_some hs u0 u1
    exact hpr y (List.mem_of_getElem? e1)
 have HK2:Hid (∀W,Below wb.heap.size wb W→Calls Tryz.prog 9 #[stV vo vt,.int .u64 p] W fun e w'=>e = .returned (.int .i64 (m:Int))∧Below W.heap.size W w'):=fun W r=>by rw[hp];exact rat_any (h2.below r) vt hm
 have hmd:decide ((m:Int)<0)=false:=decide_eq_false (by omega)
 have HS0:Hid (∀W,Below wb.heap.size wb W→RpS wb W S (objW (i:Int)) p p 0):=fun W r=>⟨p0,p1,r,rfl⟩
 have HBIG:Hid (S.length≤65536):=hbig
 have hii:(i:Int)<(S.length:Int):=by omega
 have hsl:(S.length:Int)≤65536:=by omega
 obtain⟨b0,b1⟩:=hbs.ce
 have h0i:¬((i:Int)<0):=by omega
 have hidd:decide ((i:Int)<0)=false:=decide_eq_false h0i
 have hvv:vo.val = .slice (some ⟨g,0,none⟩) S.length cap:=by rw[hv];rfl
 have HVV:Hid (vo.val = .slice (some ⟨g,0,none⟩) S.length cap):=hvv
 unfold stV at ka ⊢
 rw[hvv] at hwb ka b0 ⊢
 rw[show vt.val = .slice vt.ad vt.len vt.cap from rfl] at *
 generalize objW (i:Int)=o at *
 have HIN:Hid (True∧x.ds.length=x.nm.length):=⟨trivial,hsame⟩
 clear h h2 hB hbs hbr hq t1 hgl hcell hfz hrow hi hsame hil hbig hv hvv hpr p0 p1 hp hm
 go_enter Tryz.func77,Tryz.ntmps77
 go_upto_region 1 with fail
 rw[←hwb]
 clear hwb
 generalize hnul:(18445336698825998337:Int)=nul at *
 clear hnul
 go_wp2_with fail
 refine ka.mono ?_
 rintro e w2 ⟨rfl,hB2⟩
 obtain⟨b0,b1⟩:=HBS.out w2 hB2
 rw[HVV.out] at b0
 have HB2:Hid (Below wb.heap.size wb w2):=hB2
 clear ka hB2
 have k2:=HK2.out w2 HB2.out
 unfold stV at k2
 rw[HVV.out,show vt.val = .slice vt.ad vt.len vt.cap from rfl] at k2
 clear HK2
 go_wp2_with fail
 refine k2.mono ?_
 rintro e w3 ⟨rfl,hB3⟩
 have HBX:Hid (Below wb.heap.size wb w3):=bel_sm' HB2.out hB3
 obtain⟨b0,b1⟩:=HBS.out w3 HBX.out
 rw[HVV.out] at b0
 clear k2 hB3 HB2
 have HS:Hid (RpS wb w3 S o p p 0):=HS0.out w3 HBX.out
 clear HS0
 go_wp2_with fail
 go_loopw [8,9] (fun a c wr=>∃(u:Int) (j:Nat),j≤S.length+1∧a = .int .u64 u∧c = .int .i64 (j:Int)∧Hid (RpS wb wr S o p u j)) (fun a c wr=>((S.length:Int)+1 - intOf c).toNat)
 case atStart=>exact⟨p,0,by omega,rfl,rfl,HS⟩
 case round =>
  clear HS
  obtain⟨u,j,hj,rfl,rfl,HL⟩:=hrel
  obtain⟨b0,b1⟩:=HBS.out wr HL.out.bel
  rw[HVV.out] at b0
  by_cases cj:j=S.length+1
  ·have hle:¬((j:Int)≤(S.length:Int)):=by omega
   have HR:Hid (repB S o (S.length+1) p=false):=by
    show _=_
    rw[HL.out.eq,cj,Nat.sub_self]
    rfl
   have hc:=HN.out wr HL.out.bel
   have c0:=hc 0 _ rfl
   have c1:=hc 1 _ rfl
   have c2:=hc 2 _ rfl
   have c3:=hc 3 _ rfl
   have c4:=hc 4 _ rfl
   have c5:=hc 5 _ rfl
   have c6:=hc 6 _ rfl
   simp only[Nat.add_zero] at c0 c3 c4 c5 c6
   unfold SV.val at c3 c4 c5 c6
   simp only at c0 c1 c2 c3 c4 c5 c6
   have HB2:Hid (Below wb.heap.size wb wr):=HL.out.bel
   clear hc HL HUP HPT HN HSA hj cj
   have HO3:Hid (BxO (wr.alloc (.cells #[.int .i64 x.kind,.int .u64 x.proto,.bool x.shut,.slice q.vn.ad q.vn.len q.vn.cap,.slice q.vd.ad q.vd.len q.vd.cap,.slice q.ve.ad q.ve.len q.ve.cap,.slice q.vi.ad q.vi.len q.vi.cap] 71)) wr.heap.size (x,q)):=BxO.new wr (x,q)
   have HB3:Hid (Below wb.heap.size wb (wr.alloc (.cells #[.int .i64 x.kind,.int .u64 x.proto,.bool x.shut,.slice q.vn.ad q.vn.len q.vn.cap,.slice q.vd.ad q.vd.len q.vd.cap,.slice q.ve.ad q.ve.len q.ve.cap,.slice q.vi.ad q.vi.len q.vi.cap] 71))∧wb.heap.size≤wr.heap.size):=⟨bel_sm' HB2.out ((Below.refl _ _).alloc (Nat.le_refl _) _),HB2.out.size⟩
   clear HB2
   go_upto_region 12 with fail
   generalize wr.alloc (.cells #[.int .i64 x.kind,.int .u64 x.proto,.bool x.shut,.slice q.vn.ad q.vn.len q.vn.cap,.slice q.vd.ad q.vd.len q.vd.cap,.slice q.ve.ad q.ve.len q.ve.cap,.slice q.vi.ad q.vi.len q.vi.cap] 71)=w3 at *
   generalize wr.heap.size=bo at *
   have e2:=HO3.out.fz 1
   have e3:w3.cell? ⟨bo,1,none⟩=some (.int .u64 x.proto):=HO3.out.ce.2.1
   have HO4:Hid (BxO (w3.setCell ⟨bo,1,none⟩ (.int .u64 p)) bo ({ x with proto:=p },q)):=heap_setCell_same _ bo 1 _ _ (.int .u64 p) HO3.out
   have HB4:Hid (Below wb.heap.size wb (w3.setCell ⟨bo,1,none⟩ (.int .u64 p))):=HB3.out.1.setCell HB3.out.2 _
   clear c0 c1 c2 c3 c4 c5 c6 b0 b1 HB3 HO3
   go_upto_region 13 with fail
   generalize w3.setCell ⟨bo,1,none⟩ (.int .u64 p)=w4 at *
   obtain⟨b0,b1⟩:=HBS.out w4 HB4.out
   rw[HVV.out] at b0
   obtain⟨c0,c1,c2,c3,c4,c5,c6⟩:=HO4.out.ce
   unfold SV.val at c3 c4 c5 c6
   simp only at c0 c1 c2 c3 c4 c5 c6
   have kw:=HW.out w4 HB4.out
   unfold stV soV at kw
   rw[HVV.out,show vt.val = .slice vt.ad vt.len vt.cap from rfl] at kw
   unfold SV.val at kw
   simp only at kw
   clear HW HO4 e2 e3 HBS
   go_wp2_with fail
   refine kw.mono ?_
   rintro e w5 ⟨rfl,hs5⟩
   obtain⟨k1,k2,k3⟩:=HE.out w4 w5 _ HB4.out hs5
   obtain⟨r0,r1⟩:=k1.ce
   obtain⟨f0,f1⟩:=k1.fz
   rw[HVV.out] at k2 k3
   have HF:=(show Hid _ from And.intro k2 k3)
   clear kw hs5 HE HB4 k1 k2 k3 b0 b1 c0 c1 c2 c3 c4 c5 c6
   unfold SV.nil SV.val at r0 r1
   simp only at r0 r1
   go_wp2_with fail
   refine bodyPost_ret (res1 rfl _ _ (w.heap.size+1) 33 _ (0,0) _ rfl HF.out.1 Tryz.underlying33 rfl (by kernel_rfl)) rfl ?_
   exact⟨by rw[HVV.out];rfl,by rw[HRS.out,if_neg (by rw[HR.out];decide)];exact HF.out.2⟩
  ·have hle:(j:Int)≤(S.length:Int):=by omega
   have hw1:IntKind.i64.wrap ((j:Int)+1)=((j+1:Nat):Int):=by rw[IntKind.wrap_i64];have:=HBIG.out;omega
   have HJ:Hid (j≤S.length):=by show _≤_;omega
   by_cases cu:u=o
   ·have hub:(u == o)=true:=by simpa using cu
    have HR:Hid (repB S o (S.length+1) p=true):=by
     show _=_
     rw[HL.out.eq,show S.length+1 - j=(S.length - j)+1 by omega,repB_yes cu]
    obtain⟨k1,k2,k3⟩:=HE.out wr wr S HL.out.bel (HSA.out wr HL.out.bel)
    obtain⟨r0,r1⟩:=k1.ce
    obtain⟨f0,f1⟩:=k1.fz
    rw[HVV.out] at k2 k3
    have HF:=(show Hid _ from And.intro k2 k3)
    clear HE k1 k2 k3 HL cu hj cj HUP HPT HW HN HBS HSA
    unfold SV.nil SV.val at r0 r1
    simp only at r0 r1
    go_wp2_with fail
    refine bodyPost_ret (res1 rfl _ _ (w.heap.size+1) 33 _ (0,0) _ rfl HF.out.1 Tryz.underlying33 rfl (by kernel_rfl)) rfl ?_
    exact⟨by rw[HVV.out];rfl,by rw[HRS.out,if_pos HR.out];exact HF.out.2⟩
   ·have hub:(u == o)=false:=by simpa using cu
    have kp:=HPT.out wr u HL.out.bel HL.out.u0 HL.out.u1
    unfold stV at kp
    rw[HVV.out,show vt.val = .slice vt.ad vt.len vt.cap from rfl] at kp
    have HNX:Hid (∀W,Below wr.heap.size wr W→RpS wb W S o p (upS S u) (j+1)):=fun W r=>⟨(HUP.out u HL.out.u0 HL.out.u1).1,(HUP.out u HL.out.u0 HL.out.u1).2,bel_sm' HL.out.bel r,by
     have:=HJ.out
     rw[HL.out.eq,show S.length+1 - j=(S.length+1 - (j+1))+1 by omega,repB_no cu]⟩
    clear HE HL cu hj cj HUP HPT HW HN HBS HSA
    go_wp2_with fail
    refine kp.mono ?_
    rintro e w3 ⟨rfl,hB3⟩
    have HN3:=(show Hid _ from HNX.out w3 hB3)
    clear kp hB3 HNX
    go_wp2_with fail
    refine⟨⟨_,j+1,by have:=HJ.out;omega,rfl,by first | rfl | trivial,HN3⟩,?_⟩
    have:=HJ.out
    simp[intOf]
    omega
end
end Go.Proofs.YtahhionlbfhinabGreatDoor.Hp
