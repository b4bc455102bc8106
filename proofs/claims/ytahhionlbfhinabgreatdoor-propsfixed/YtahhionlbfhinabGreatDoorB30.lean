/- KN, KL -/
import Derived.Test.YtahhionlbfhinabGreatDoorB14
import Derived.Test.YtahhionlbfhinabGreatDoorB29
import Derived.Test.YtahhionlbfhinabGreatDoorB22
import Derived.Test.YtahhionlbfhinabGreatDoorB25
import Derived.Test.YtahhionlbfhinabGreatDoorB28
set_option linter.unusedVariables false
set_option linter.unusedSimpArgs false
set_option maxRecDepth 100000
set_option maxHeartbeats 40000000
namespace Go.Proofs.YtahhionlbfhinabGreatDoor.Hp
open Go.RowKit
def payZ (a:Int):Int:=if isT a 65529 then wrap32 (a % 4294967296) else 0
theorem payI_any (a t:Int)(w:World)(h0:0≤a)(h1:a<18446744073709551616)(t0:0≤t)(t1:t<65536) :
  Calls Tryz.prog 110 #[.int .u64 a,.int .u64 t] w fun e w'=>e = .returned (.tuple #[.int .i32 (if isT a t then wrap32 (a % 4294967296) else 0),.bool (isT a t)])∧w'=w:=by
 have hw:IntKind.u64.wrap (t*65536)=t*65536:=by rw[IntKind.wrap_u64];omega
 have hu:wrap32 a=wrap32 (a % 4294967296):=by unfold wrap32;omega
 cases hc:isT a t with
 | true =>
   have hn:(a / 4294967296 != t*65536)=false:=by unfold isT at hc;rw[bne,hc];rfl
   rw[if_pos rfl,←hu]
   clear hc hu
   go_enter Tryz.func110,Tryz.ntmps110
   go_wp2
   go_ret2
   exact⟨rfl,rfl⟩
 | false =>
   have hn:(a / 4294967296 != t*65536)=true:=by unfold isT at hc;rw[bne,hc];rfl
   rw[if_neg (by decide)]
   clear hc hu
   go_enter Tryz.func110,Tryz.ntmps110
   go_wp2
   go_ret2
   exact⟨rfl,rfl⟩
theorem isInt_any (a:Int)(w:World)(h0:0≤a)(h1:a<18446744073709551616) :
  Calls Tryz.prog 92 #[.int .u64 a] w fun e w'=>e = .returned (.tuple #[.int .i32 (payZ a),.bool (isT a 65529)])∧w'=w:=by
 have c:=fun w=>payI_any a 65529 w h0 h1 (by omega) (by omega)
 unfold payZ
 generalize (if isT a 65529 then wrap32 (a % 4294967296) else 0)=x at *
 generalize isT a 65529=y at *
 go_enter Tryz.func92,Tryz.ntmps92
 go_wp2_with (go_at_call 110;refine(c _).mono ?_;rintro e w1 ⟨rfl,rfl⟩)
 go_ret2
 exact⟨rfl,rfl⟩
def layP (H:He)(i:Nat)(ob:Ob)(k:ByteArray)(d:De):Bool×He :=
 if ob.kind=1 then
  if k=lenS then
   if isT d.va 65529=true∧d.fl=1∧0≤payZ d.va∧payZ d.va≤4096 then (true,elH H i ob (resL ob.el (payZ d.va).toNat)) else (false,H)
  else match ixI k with
   | some n=>if d.fl=7 then (true,elH H i ob (setL ob.el n d.va)) else (false,H)
   | none=>(true,putH H i ob k d)
 else (true,putH H i ob k d)
theorem ix_lt {k:ByteArray}{n:Nat}(h:ixI k=some n):n<4096:=by
 rw[ix_same] at h
 unfold rxI at h
 split at h
 ·cases h
 ·obtain⟨_,h2⟩:=Option.filter_eq_some_iff.1 h
  exact of_decide_eq_true h2
section
variable {w w' w1:World}{B hb:Nat}{O S:Nat→Prop}{H H':He}{M M':HV}{tg:Nat→Nat}
theorem lay_at (h:HeapAt w B hb tg H M)(o:Int)(o0:0≤o)(o1:o<18446744073709551616){i:Nat}{ob:Ob}(ho:obI H o=some i)(hi:H.obs[i]?=some ob)(hnt:ob.neat)(hms:ob.shaped=true→ob.hm=false)(k:ByteArray)(hk:k.size≤maxLen)(d:De)(hv:ob.kind=1→k=lenS→0≤d.va∧d.va<18446744073709551616)(hnx:ob.next<2000000000000) :
  Calls Tryz.prog 61 #[.pointer (some ⟨hb,0,none⟩),.int .u64 o,.string k,deV d] w fun e w'=>e = .returned (.bool (layP H i ob k d).1)∧∃M',WentM w B hb tg (layP H i ob k d).2 M' w':=by
 obtain⟨wb,hwb⟩:∃wb,wb=w.alloc (.cells #[.int .u64 d.va,.int .u64 d.se,.int .i64 d.fl] 39):=⟨_,rfl⟩
 have hB:Below w.heap.size w wb:=by rw[hwb];exact(Below.refl _ _).alloc (Nat.le_refl _) _
 have hbx:Bx3 wb w.heap.size d:=by rw[hwb];exact Bx3.box w d
 have h2:=h.below hB
 have hq:obO H o=some ob:=by unfold obO;rw[ho];exact hi
 have ka:=isArray_at h2 o o0 o1
 have harr:arrB H o=(ob.kind == 1):=by unfold arrB;rw[hq];rfl
 rw[harr] at ka
 have kp:=put_any h2 o o0 o1 ho hi hnt hms k hk d hnx
 obtain⟨x0,x1,x2⟩:=hbx.ce
 have HW0:Hid (∃M',WentM w B hb tg H M' wb):=⟨M,WentM.same h hB⟩
 have HBW:Hid (∀H' M' w',WentM wb B hb tg H' M' w'→WentM w B hb tg H' M' w'):=fun H' M' w' q=>q.behind hB
 unfold layP
 unfold deV at *
 by_cases ck:ob.kind=1
 ·rw[show(ob.kind == 1)=true from by simpa using ck] at ka
  rw[if_pos ck]
  by_cases cl:k=lenS
  ·rw[if_pos cl]
   have hee:(k.toList == [108,101,110,103,116,104])=true:=by rw[cl,lenS_l];rfl
   have hv:=hv ck cl
   have ki:=fun w=>isInt_any d.va w hv.1 hv.2
   by_cases ct:isT d.va 65529=true
   ·rw[ct] at ki
    by_cases cf:d.fl=1
    ·by_cases cn:0≤payZ d.va∧payZ d.va≤4096
     ·rw[if_pos ⟨ct,cf,cn⟩]
      have hcv:IntKind.i64.wrap (payZ d.va)=payZ d.va:=by rw[IntKind.wrap_i64];omega
      obtain⟨n,hn⟩:∃n:Nat,payZ d.va=n:=⟨(payZ d.va).toNat,by omega⟩
      rw[hn] at ki cn
      have ks:=setLen_at h2 o o0 o1 ho hi n (by omega)
      rw[hn,Int.toNat_natCast]
      have cf1:(d.fl == 1)=true:=by rw[cf];rfl
      have hnn:(n:Int)≤4096:=by omega
      generalize elH H i ob (resL ob.el n)=HR at *
      clear h h2 hB hbx hq harr kp ho hi hnt hms hk hv hnx ck cl ct cf cn hcv hn HW0
      go_enter Tryz.func61,Tryz.ntmps61
      go_upto_region 1 with fail
      rw[←hwb]
      clear hwb
      go_wp2_with fail
      refine ka.mono ?_
      rintro e w2 ⟨rfl,rfl⟩
      clear ka
      go_wp2_with fail
      refine(ki _).mono ?_
      rintro e w2 ⟨rfl,rfl⟩
      clear ki
      go_wp2_with fail
      refine ks.mono ?_
      rintro e w3 ⟨rfl,M3,hw3⟩
      have HW3:=(show Hid _ from HBW.out _ _ _ hw3)
      clear ks hw3 HBW
      go_wp2_with fail
      go_ret
      exact⟨rfl,M3,HW3.out⟩
     ·rw[if_neg (fun q=>cn q.2.2)]
      have ks:=setLen_no h2 o o0 o1 ho hi (payZ d.va) (by omega)
      have cf1:(d.fl == 1)=true:=by rw[cf];rfl
      have hr : -2147483648≤payZ d.va∧payZ d.va≤2147483647:=by unfold payZ;split <;> (try unfold wrap32) <;> omega
      have HZ:=(show Hid _ from hr)
      obtain⟨hr1,hr2⟩:=hr
      generalize payZ d.va=z at *
      clear h h2 hB hbx hq harr kp ho hi hnt hms hk hv hnx ck cl ct cf cn HBW
      go_enter Tryz.func61,Tryz.ntmps61
      go_upto_region 1 with fail
      rw[←hwb]
      clear hwb
      go_wp2_with fail
      refine ka.mono ?_
      rintro e w2 ⟨rfl,rfl⟩
      clear ka
      go_wp2_with fail
      refine(ki _).mono ?_
      rintro e w2 ⟨rfl,rfl⟩
      clear ki
      go_wp2_with fail
      refine ks.mono ?_
      rintro e w3 ⟨rfl,rfl⟩
      clear ks
      go_wp2_with fail
      go_ret
      exact⟨rfl,HW0.out⟩
    ·rw[if_neg (fun q=>cf q.2.1)]
     have cf1:(d.fl == 1)=false:=by simpa using cf
     generalize payZ d.va=z at *
     clear h h2 hB hbx hq harr kp ho hi hnt hms hk hv hnx ck cl ct cf HBW
     go_enter Tryz.func61,Tryz.ntmps61
     go_upto_region 1 with fail
     rw[←hwb]
     clear hwb
     go_wp2_with fail
     refine ka.mono ?_
     rintro e w2 ⟨rfl,rfl⟩
     clear ka
     go_wp2_with fail
     refine(ki _).mono ?_
     rintro e w2 ⟨rfl,rfl⟩
     clear ki
     go_wp2_with fail
     go_ret
     exact⟨rfl,HW0.out⟩
   ·rw[if_neg (fun q=>ct q.1)]
    rw[show isT d.va 65529=false from by simpa using ct] at ki
    generalize payZ d.va=z at *
    clear h h2 hB hbx hq harr kp ho hi hnt hms hk hv hnx ck cl ct HBW
    go_enter Tryz.func61,Tryz.ntmps61
    go_upto_region 1 with fail
    rw[←hwb]
    clear hwb
    go_wp2_with fail
    refine ka.mono ?_
    rintro e w2 ⟨rfl,rfl⟩
    clear ka
    go_wp2_with fail
    refine(ki _).mono ?_
    rintro e w2 ⟨rfl,rfl⟩
    clear ki
    go_wp2_with fail
    go_ret
    exact⟨rfl,HW0.out⟩
  ·rw[if_neg cl]
   have hee:(k.toList == [108,101,110,103,116,104])=false:=by rw[←lenS_l];exact Sp.bytes_no cl
   have kx:=fun w=>index_any k w hk
   cases hx:ixI k with
   | some n =>
     rw[hx] at kx
     simp only[Option.getD_some,Option.isSome_some] at kx
     have hn4:=ix_lt hx
     by_cases cf:d.fl=7
     ·have ks:=setElem_at h2 o o0 o1 ho hi n hn4 d.va
      simp only[if_pos cf]
      have cf1:(d.fl == 7)=true:=by rw[cf];rfl
      generalize elH H i ob (setL ob.el n d.va)=HR at *
      clear h h2 hB hbx hq harr kp ho hi hnt hms hk hv hnx ck cl cf HW0 hx hn4
      go_enter Tryz.func61,Tryz.ntmps61
      go_upto_region 1 with fail
      rw[←hwb]
      clear hwb
      go_wp2_with fail
      refine ka.mono ?_
      rintro e w2 ⟨rfl,rfl⟩
      clear ka
      go_wp2_with fail
      refine(kx _).mono ?_
      rintro e w2 ⟨rfl,rfl⟩
      clear kx
      go_wp2_with fail
      refine ks.mono ?_
      rintro e w3 ⟨rfl,M3,hw3⟩
      have HW3:=(show Hid _ from HBW.out _ _ _ hw3)
      clear ks hw3 HBW
      go_wp2_with fail
      go_ret
      exact⟨rfl,M3,HW3.out⟩
     ·simp only[if_neg cf]
      have cf1:(d.fl == 7)=false:=by simpa using cf
      clear h h2 hB hbx hq harr kp ho hi hnt hms hk hv hnx ck cl cf HBW hx hn4
      go_enter Tryz.func61,Tryz.ntmps61
      go_upto_region 1 with fail
      rw[←hwb]
      clear hwb
      go_wp2_with fail
      refine ka.mono ?_
      rintro e w2 ⟨rfl,rfl⟩
      clear ka
      go_wp2_with fail
      refine(kx _).mono ?_
      rintro e w2 ⟨rfl,rfl⟩
      clear kx
      go_wp2_with fail
      go_ret
      exact⟨rfl,HW0.out⟩
   | none =>
     rw[hx] at kx
     simp only[Option.getD_none,Option.isSome_none] at kx
     simp only
     generalize putH H i ob k d=HR at *
     clear h h2 hB hbx hq harr ho hi hnt hms hk hv hnx ck cl HW0 hx
     go_enter Tryz.func61,Tryz.ntmps61
     go_upto_region 1 with fail
     rw[←hwb]
     clear hwb
     go_wp2_with fail
     refine ka.mono ?_
     rintro e w2 ⟨rfl,rfl⟩
     clear ka
     go_wp2_with fail
     refine(kx _).mono ?_
     rintro e w2 ⟨rfl,rfl⟩
     clear kx
     go_wp2_with fail
     refine kp.mono ?_
     rintro e w3 ⟨rfl,M3,_,hw3⟩
     have HW3:=(show Hid _ from HBW.out _ _ _ hw3)
     clear kp hw3 HBW
     go_wp2_with fail
     go_ret
     exact⟨rfl,M3,HW3.out⟩
 ·rw[show(ob.kind == 1)=false from by simpa using ck] at ka
  rw[if_neg ck]
  generalize putH H i ob k d=HR at *
  clear h h2 hB hbx hq harr ho hi hnt hms hk hv hnx ck HW0
  go_enter Tryz.func61,Tryz.ntmps61
  go_upto_region 1 with fail
  rw[←hwb]
  clear hwb
  go_wp2_with fail
  refine ka.mono ?_
  rintro e w2 ⟨rfl,rfl⟩
  clear ka
  go_wp2_with fail
  refine kp.mono ?_
  rintro e w3 ⟨rfl,M3,_,hw3⟩
  have HW3:=(show Hid _ from HBW.out _ _ _ hw3)
  clear kp hw3 HBW
  go_wp2_with fail
  go_ret
  exact⟨rfl,M3,HW3.out⟩
end
def FpAt (w:World):Prop:=∃t fr,w.heap[0]?=some (.cells #[.int .i64 2,.int .i64 1,.int .i64 4,.int .i64 2,.int .i64 8,.int .i64 4] t fr)
theorem FpAt.lt {w:World}(h:FpAt w):0<w.heap.size:=by
 obtain⟨t,fr,h⟩:=h
 exact(Array.getElem?_eq_some_iff.1 h).1
theorem FpAt.below {w w':World}(h:FpAt w)(hb:Below w.heap.size w w'):FpAt w':=by
 obtain⟨t,fr,k⟩:=h
 exact⟨t,fr,(hb.block 0 (FpAt.lt ⟨t,fr,k⟩)).trans k⟩
theorem FpAt.cells {w:World}(h:FpAt w):w.cell? ⟨0,0,none⟩=some (.int .i64 2)∧w.cell? ⟨0,1,none⟩=some (.int .i64 1)∧w.cell? ⟨0,2,none⟩=some (.int .i64 4)∧w.cell? ⟨0,3,none⟩=some (.int .i64 2)∧w.cell? ⟨0,4,none⟩=some (.int .i64 8)∧w.cell? ⟨0,5,none⟩=some (.int .i64 4):=by
 obtain⟨t,fr,k⟩:=h
 exact⟨cell_of_row w 0 0 _ t fr k,cell_of_row w 0 1 _ t fr k,cell_of_row w 0 2 _ t fr k,cell_of_row w 0 3 _ t fr k,cell_of_row w 0 4 _ t fr k,cell_of_row w 0 5 _ t fr k⟩
def stF (u:Ws)(c p fl:Int):Int:=if (bits .and .i64 u.has c != 0)=true then bits .or .i64 (bits .andNot .i64 fl p) (bits .and .i64 u.fl p) else fl
def flR (u:Ws)(fl:Int):Nat→Int
 | 0=>fl
 | 1=>stF u 2 1 fl
 | 2=>stF u 4 2 (stF u 2 1 fl)
 | _=>stF u 8 4 (stF u 4 2 (stF u 2 1 fl))
def wishD (d:De)(u:Ws):De:=⟨if (bits .and .i64 u.has 16 != 0)=true then u.ge else if (bits .and .i64 u.has 1 != 0)=true then u.va else (turnD d u).va,if (bits .and .i64 u.has 32 != 0)=true then u.se else (turnD d u).se,flR u (turnD d u).fl 3⟩
structure WiAt (w W:World)(t:De)(u:Ws)(i:Nat):Prop where
 bx:Bxs w W ⟨t.va,t.se,flR u t.fl i⟩ u zDe
theorem wished_any (w:World)(hF:FpAt w)(d:De)(u:Ws):Calls Tryz.prog 62 #[deV d,wsV u] w fun e w'=>e = .returned (deV (wishD d u))∧Below w.heap.size w w':=by
 obtain⟨wb,hwb⟩:∃wb,wb=w3b w d u:=⟨_,rfl⟩
 have h:=bxs_new w d u
 rw[←hwb] at h
 have kt:=turned_any wb d u
 have HN:Hid (∀W,Below wb.heap.size wb W→Bxs w W d u zDe):=fun W q=>h.below q
 have HFP:Hid (FpAt w):=hF
 obtain⟨x0,x1,x2⟩:=h.x.ce
 obtain⟨y0,y1,y2,y3,y4⟩:=h.y.ce
 unfold w3b at hwb
 have HE:Hid (wishD d u=⟨if (bits .and .i64 u.has 16 != 0)=true then u.ge else if (bits .and .i64 u.has 1 != 0)=true then u.va else (turnD d u).va,if (bits .and .i64 u.has 32 != 0)=true then u.se else (turnD d u).se,flR u (turnD d u).fl 3⟩):=rfl
 generalize hT:turnD d u=t at *
 generalize hW:wishD d u=R at *
 unfold deV wsV at *
 clear h hF hT hW
 have i0:∀w,(Instr.index 153 (.agg #[.int .i64 2,.int .i64 1,.int .i64 4,.int .i64 2,.int .i64 8,.int .i64 4]) (.int .i64 0)).run Tryz.prog w = .ok (.agg #[.int .i64 2,.int .i64 1]) w:=fun _=>by kernel_rfl
 have i1:∀w,(Instr.index 153 (.agg #[.int .i64 2,.int .i64 1,.int .i64 4,.int .i64 2,.int .i64 8,.int .i64 4]) (.int .i64 1)).run Tryz.prog w = .ok (.agg #[.int .i64 4,.int .i64 2]) w:=fun _=>by kernel_rfl
 have i2:∀w,(Instr.index 153 (.agg #[.int .i64 2,.int .i64 1,.int .i64 4,.int .i64 2,.int .i64 8,.int .i64 4]) (.int .i64 2)).run Tryz.prog w = .ok (.agg #[.int .i64 8,.int .i64 4]) w:=fun _=>by kernel_rfl
 go_enter Tryz.func62,Tryz.ntmps62
 go_upto_region 1 with fail
 rw[←hwb]
 clear hwb
 go_wp2_with fail
 refine kt.mono ?_
 rintro e w2 ⟨rfl,hB2⟩
 have hx:=HN.out w2 hB2
 obtain⟨x0,x1,x2⟩:=hx.x.ce
 obtain⟨f0,f1,f2⟩:=hx.x.fz
 have HX3:Hid (WiAt w (st3 w2 w.heap.size t) t u 0):=⟨hx.set _⟩
 clear kt hB2 hx HN y0 y1 y2 y3 y4
 go_upto_region 2 with fail
 generalize hw3:((w2.setCell ⟨w.heap.size,0,none⟩ (.int .u64 t.va)).setCell ⟨w.heap.size,1,none⟩ (.int .u64 t.se)).setCell ⟨w.heap.size,2,none⟩ (.int .i64 t.fl)=w3 at *
 have HX3:Hid (WiAt w w3 t u 0):=by rw[←hw3];exact HX3.out
 obtain⟨g0,g1,g2,g3,g4,g5⟩:=(HFP.out.below HX3.out.bx.bel).cells
 clear hw3 x0 x1 x2 f0 f1 f2
 go_wp2_with fail
 go_loopw [11] (fun p wr=>∃(i:Nat),i≤3∧p = .int .i64 (i:Int)∧Hid (WiAt w wr t u i)) (fun p wr=>(3 - intOf p).toNat)
 case atStart=>exact⟨0,by omega,rfl,HX3⟩
 case round =>
  clear HX3 g0 g1 g2 g3 g4 g5
  obtain⟨i,hi,rfl,HW⟩:=hrel
  have hii:i=0∨i=1∨i=2∨i=3:=by omega
  rcases hii with rfl | rfl | rfl | rfl
  ·have hal:Below wr.heap.size wr (wr.alloc (.cells #[.int .i64 2,.int .i64 1] 152)):=(Below.refl _ _).alloc (Nat.le_refl _) _
   have hx:=HW.out.bx.below hal
   obtain⟨x0,x1,x2⟩:=hx.x.ce
   obtain⟨f0,f1,f2⟩:=hx.x.fz
   obtain⟨y0,y1,y2,y3,y4⟩:=hx.y.ce
   have n0:=box_new wr #[.int .i64 2,.int .i64 1] 152 0 _ rfl
   have n1:=box_new wr #[.int .i64 2,.int .i64 1] 152 1 _ rfl
   have HX:Hid (Bxs w (wr.alloc (.cells #[.int .i64 2,.int .i64 1] 152)) ⟨t.va,t.se,flR u t.fl 0⟩ u zDe):=hx
   clear hal hx HW
   simp only at x0 x1 x2
   cases hc:(bits .and .i64 u.has 2 != 0) with
   | true =>
     have HNX:Hid (∀W,Bxs w W ⟨t.va,t.se,bits .or .i64 (bits .andNot .i64 (flR u t.fl 0) 1) (bits .and .i64 u.fl 1)⟩ u zDe→WiAt w W t u 1):=fun W q=>⟨by
      have e:flR u t.fl 1=stF u 2 1 (flR u t.fl 0):=rfl
      unfold stF at e
      rw[if_pos hc] at e
      rw[e]
      exact q⟩
     generalize flR u t.fl 0=fl at *
     have HP:=(show Hid _ from HX.out.one 2 _ (HX.out.x.pfl (bits .or .i64 (bits .andNot .i64 fl 1) (bits .and .i64 u.fl 1))))
     clear HX
     go_wp2_with fail
     refine⟨⟨1,by omega,rfl,HNX.out _ HP.out⟩,?_⟩
     simp[intOf]
   | false =>
     have HNX:Hid (∀W,Bxs w W ⟨t.va,t.se,flR u t.fl 0⟩ u zDe→WiAt w W t u 1):=fun W q=>⟨by
      have e:flR u t.fl 1=stF u 2 1 (flR u t.fl 0):=rfl
      unfold stF at e
      rw[if_neg (by rw[hc];simp)] at e
      rw[e]
      exact q⟩
     generalize flR u t.fl 0=fl at *
     go_wp2_with fail
     refine⟨⟨1,by omega,rfl,HNX.out _ HX.out⟩,?_⟩
     simp[intOf]
  ·have hal:Below wr.heap.size wr (wr.alloc (.cells #[.int .i64 4,.int .i64 2] 152)):=(Below.refl _ _).alloc (Nat.le_refl _) _
   have hx:=HW.out.bx.below hal
   obtain⟨x0,x1,x2⟩:=hx.x.ce
   obtain⟨f0,f1,f2⟩:=hx.x.fz
   obtain⟨y0,y1,y2,y3,y4⟩:=hx.y.ce
   have n0:=box_new wr #[.int .i64 4,.int .i64 2] 152 0 _ rfl
   have n1:=box_new wr #[.int .i64 4,.int .i64 2] 152 1 _ rfl
   have HX:Hid (Bxs w (wr.alloc (.cells #[.int .i64 4,.int .i64 2] 152)) ⟨t.va,t.se,flR u t.fl 1⟩ u zDe):=hx
   clear hal hx HW
   simp only at x0 x1 x2
   cases hc:(bits .and .i64 u.has 4 != 0) with
   | true =>
     have HNX:Hid (∀W,Bxs w W ⟨t.va,t.se,bits .or .i64 (bits .andNot .i64 (flR u t.fl 1) 2) (bits .and .i64 u.fl 2)⟩ u zDe→WiAt w W t u 2):=fun W q=>⟨by
      have e:flR u t.fl 2=stF u 4 2 (flR u t.fl 1):=rfl
      unfold stF at e
      rw[if_pos hc] at e
      rw[e]
      exact q⟩
     generalize flR u t.fl 1=fl at *
     have HP:=(show Hid _ from HX.out.one 2 _ (HX.out.x.pfl (bits .or .i64 (bits .andNot .i64 fl 2) (bits .and .i64 u.fl 2))))
     clear HX
     go_wp2_with fail
     refine⟨⟨2,by omega,rfl,HNX.out _ HP.out⟩,?_⟩
     simp[intOf]
   | false =>
     have HNX:Hid (∀W,Bxs w W ⟨t.va,t.se,flR u t.fl 1⟩ u zDe→WiAt w W t u 2):=fun W q=>⟨by
      have e:flR u t.fl 2=stF u 4 2 (flR u t.fl 1):=rfl
      unfold stF at e
      rw[if_neg (by rw[hc];simp)] at e
      rw[e]
      exact q⟩
     generalize flR u t.fl 1=fl at *
     go_wp2_with fail
     refine⟨⟨2,by omega,rfl,HNX.out _ HX.out⟩,?_⟩
     simp[intOf]
  ·have hal:Below wr.heap.size wr (wr.alloc (.cells #[.int .i64 8,.int .i64 4] 152)):=(Below.refl _ _).alloc (Nat.le_refl _) _
   have hx:=HW.out.bx.below hal
   obtain⟨x0,x1,x2⟩:=hx.x.ce
   obtain⟨f0,f1,f2⟩:=hx.x.fz
   obtain⟨y0,y1,y2,y3,y4⟩:=hx.y.ce
   have n0:=box_new wr #[.int .i64 8,.int .i64 4] 152 0 _ rfl
   have n1:=box_new wr #[.int .i64 8,.int .i64 4] 152 1 _ rfl
   have HX:Hid (Bxs w (wr.alloc (.cells #[.int .i64 8,.int .i64 4] 152)) ⟨t.va,t.se,flR u t.fl 2⟩ u zDe):=hx
   clear hal hx HW
   simp only at x0 x1 x2
   cases hc:(bits .and .i64 u.has 8 != 0) with
   | true =>
     have HNX:Hid (∀W,Bxs w W ⟨t.va,t.se,bits .or .i64 (bits .andNot .i64 (flR u t.fl 2) 4) (bits .and .i64 u.fl 4)⟩ u zDe→WiAt w W t u 3):=fun W q=>⟨by
      have e:flR u t.fl 3=stF u 8 4 (flR u t.fl 2):=rfl
      unfold stF at e
      rw[if_pos hc] at e
      rw[e]
      exact q⟩
     generalize flR u t.fl 2=fl at *
     have HP:=(show Hid _ from HX.out.one 2 _ (HX.out.x.pfl (bits .or .i64 (bits .andNot .i64 fl 4) (bits .and .i64 u.fl 4))))
     clear HX
     go_wp2_with fail
     refine⟨⟨3,by omega,rfl,HNX.out _ HP.out⟩,?_⟩
     simp[intOf]
   | false =>
     have HNX:Hid (∀W,Bxs w W ⟨t.va,t.se,flR u t.fl 2⟩ u zDe→WiAt w W t u 3):=fun W q=>⟨by
      have e:flR u t.fl 3=stF u 8 4 (flR u t.fl 2):=rfl
      unfold stF at e
      rw[if_neg (by rw[hc];simp)] at e
      rw[e]
      exact q⟩
     generalize flR u t.fl 2=fl at *
     go_wp2_with fail
     refine⟨⟨3,by omega,rfl,HNX.out _ HX.out⟩,?_⟩
     simp[intOf]
  ·obtain⟨x0,x1,x2⟩:=HW.out.bx.x.ce
   obtain⟨f0,f1,f2⟩:=HW.out.bx.x.fz
   obtain⟨y0,y1,y2,y3,y4⟩:=HW.out.bx.y.ce
   obtain⟨z0,z1,z2⟩:=HW.out.bx.z.ce
   obtain⟨k0,k1,k2⟩:=HW.out.bx.z.fz
   unfold zDe at z0 z1 z2
   simp only at x0 x1 x2
   have HB:=(show Hid _ from HW.out.bx)
   generalize flR u t.fl 3=fl at *
   clear HW i0 i1 i2
   cases ha:(bits .and .i64 u.has 1 != 0) with
   | true =>
     cases hb:(bits .and .i64 u.has 16 != 0) with
     | true =>
       cases hc:(bits .and .i64 u.has 32 != 0) with
       | true =>
         have HB1:=(show Hid _ from HB.out.one 0 _ (HB.out.x.pva u.va))
         have HB2:=(show Hid _ from HB1.out.one 0 _ (HB1.out.x.pva u.ge))
         have HB3:=(show Hid _ from HB2.out.one 1 _ (HB2.out.x.pse u.se))
         have HFI:Hid (Bxs w _ _ u ⟨u.ge,u.se,fl⟩):=HB3.out.res ⟨u.ge,u.se,fl⟩
         have HR:Hid (R=⟨u.ge,u.se,fl⟩):=by show R=_;rw[HE.out,if_pos hb,if_pos hc]
         clear HE HB HB1 HB2 HB3
         go_wp2_with fail
         refine bodyPost_ret (res1 rfl _ _ (w.heap.size+2) 39 _ (0,0) _ rfl HFI.out.z Tryz.underlying39 rfl (by kernel_rfl)) rfl ?_
         rw[HR.out]
         exact⟨rfl,HFI.out.bel⟩
       | false =>
         have HB1:=(show Hid _ from HB.out.one 0 _ (HB.out.x.pva u.va))
         have HB2:=(show Hid _ from HB1.out.one 0 _ (HB1.out.x.pva u.ge))
         have HFI:Hid (Bxs w _ _ u ⟨u.ge,t.se,fl⟩):=HB2.out.res ⟨u.ge,t.se,fl⟩
         have HR:Hid (R=⟨u.ge,t.se,fl⟩):=by show R=_;rw[HE.out,if_pos hb,if_neg (by rw[hc];simp)]
         clear HE HB HB1 HB2
         go_wp2_with fail
         refine bodyPost_ret (res1 rfl _ _ (w.heap.size+2) 39 _ (0,0) _ rfl HFI.out.z Tryz.underlying39 rfl (by kernel_rfl)) rfl ?_
         rw[HR.out]
         exact⟨rfl,HFI.out.bel⟩
     | false =>
       cases hc:(bits .and .i64 u.has 32 != 0) with
       | true =>
         have HB1:=(show Hid _ from HB.out.one 0 _ (HB.out.x.pva u.va))
         have HB2:=(show Hid _ from HB1.out.one 1 _ (HB1.out.x.pse u.se))
         have HFI:Hid (Bxs w _ _ u ⟨u.va,u.se,fl⟩):=HB2.out.res ⟨u.va,u.se,fl⟩
         have HR:Hid (R=⟨u.va,u.se,fl⟩):=by show R=_;rw[HE.out,if_neg (by rw[hb];simp),if_pos ha,if_pos hc]
         clear HE HB HB1 HB2
         go_wp2_with fail
         refine bodyPost_ret (res1 rfl _ _ (w.heap.size+2) 39 _ (0,0) _ rfl HFI.out.z Tryz.underlying39 rfl (by kernel_rfl)) rfl ?_
         rw[HR.out]
         exact⟨rfl,HFI.out.bel⟩
       | false =>
         have HB1:=(show Hid _ from HB.out.one 0 _ (HB.out.x.pva u.va))
         have HFI:Hid (Bxs w _ _ u ⟨u.va,t.se,fl⟩):=HB1.out.res ⟨u.va,t.se,fl⟩
         have HR:Hid (R=⟨u.va,t.se,fl⟩):=by show R=_;rw[HE.out,if_neg (by rw[hb];simp),if_pos ha,if_neg (by rw[hc];simp)]
         clear HE HB HB1
         go_wp2_with fail
         refine bodyPost_ret (res1 rfl _ _ (w.heap.size+2) 39 _ (0,0) _ rfl HFI.out.z Tryz.underlying39 rfl (by kernel_rfl)) rfl ?_
         rw[HR.out]
         exact⟨rfl,HFI.out.bel⟩
   | false =>
     cases hb:(bits .and .i64 u.has 16 != 0) with
     | true =>
       cases hc:(bits .and .i64 u.has 32 != 0) with
       | true =>
         have HB1:=(show Hid _ from HB.out.one 0 _ (HB.out.x.pva u.ge))
         have HB2:=(show Hid _ from HB1.out.one 1 _ (HB1.out.x.pse u.se))
         have HFI:Hid (Bxs w _ _ u ⟨u.ge,u.se,fl⟩):=HB2.out.res ⟨u.ge,u.se,fl⟩
         have HR:Hid (R=⟨u.ge,u.se,fl⟩):=by show R=_;rw[HE.out,if_pos hb,if_pos hc]
         clear HE HB HB1 HB2
         go_wp2_with fail
         refine bodyPost_ret (res1 rfl _ _ (w.heap.size+2) 39 _ (0,0) _ rfl HFI.out.z Tryz.underlying39 rfl (by kernel_rfl)) rfl ?_
         rw[HR.out]
         exact⟨rfl,HFI.out.bel⟩
       | false =>
         have HB1:=(show Hid _ from HB.out.one 0 _ (HB.out.x.pva u.ge))
         have HFI:Hid (Bxs w _ _ u ⟨u.ge,t.se,fl⟩):=HB1.out.res ⟨u.ge,t.se,fl⟩
         have HR:Hid (R=⟨u.ge,t.se,fl⟩):=by show R=_;rw[HE.out,if_pos hb,if_neg (by rw[hc];simp)]
         clear HE HB HB1
         go_wp2_with fail
         refine bodyPost_ret (res1 rfl _ _ (w.heap.size+2) 39 _ (0,0) _ rfl HFI.out.z Tryz.underlying39 rfl (by kernel_rfl)) rfl ?_
         rw[HR.out]
         exact⟨rfl,HFI.out.bel⟩
     | false =>
       cases hc:(bits .and .i64 u.has 32 != 0) with
       | true =>
         have HB1:=(show Hid _ from HB.out.one 1 _ (HB.out.x.pse u.se))
         have HFI:Hid (Bxs w _ _ u ⟨t.va,u.se,fl⟩):=HB1.out.res ⟨t.va,u.se,fl⟩
         have HR:Hid (R=⟨t.va,u.se,fl⟩):=by show R=_;rw[HE.out,if_neg (by rw[hb];simp),if_neg (by rw[ha];simp),if_pos hc]
         clear HE HB HB1
         go_wp2_with fail
         refine bodyPost_ret (res1 rfl _ _ (w.heap.size+2) 39 _ (0,0) _ rfl HFI.out.z Tryz.underlying39 rfl (by kernel_rfl)) rfl ?_
         rw[HR.out]
         exact⟨rfl,HFI.out.bel⟩
       | false =>
         have HFI:Hid (Bxs w _ _ u ⟨t.va,t.se,fl⟩):=HB.out.res ⟨t.va,t.se,fl⟩
         have HR:Hid (R=⟨t.va,t.se,fl⟩):=by show R=_;rw[HE.out,if_neg (by rw[hb];simp),if_neg (by rw[ha];simp),if_neg (by rw[hc];simp)]
         clear HE HB
         go_wp2_with fail
         refine bodyPost_ret (res1 rfl _ _ (w.heap.size+2) 39 _ (0,0) _ rfl HFI.out.z Tryz.underlying39 rfl (by kernel_rfl)) rfl ?_
         rw[HR.out]
         exact⟨rfl,HFI.out.bel⟩
end Go.Proofs.YtahhionlbfhinabGreatDoor.Hp
