/- KO -/
import Derived.Test.YtahhionlbfhinabGreatDoorB13
import Derived.Test.YtahhionlbfhinabGreatDoorB30
set_option linter.unusedVariables false
set_option linter.unusedSimpArgs false
set_option maxRecDepth 100000
set_option maxHeartbeats 40000000
namespace Go.Proofs.YtahhionlbfhinabGreatDoor.Hp
open Go.RowKit
structure He.gd (H:He)(n:Int):Prop where
 neat:H.neat
 hms:∀ob∈H.obs,ob.shaped=true→ob.hm=false
 nx:∀ob∈H.obs,ob.next≤n
structure Ws.ok (u:Ws):Prop where
 va:0≤u.va∧u.va<18446744073709551616
 ge:0≤u.ge∧u.ge<18446744073709551616
def newD:De:=⟨undW,undW,0⟩
def defP (H:He)(o:Int)(k:ByteArray)(u:Ws):Bool×He :=
 match obI H o with
 | none=>(false,H)
 | some i=>match H.obs[i]? with
   | none=>(false,H)
   | some ob =>
     if (bits .and .i64 u.has 48 != 0)=true∧(bits .and .i64 u.has 3 != 0)=true then (false,H)
     else match ownO ob k with
      | none=>if ob.shut=true then (false,H) else layP H i ob k (wishD newD u)
      | some old=>if mayD old (wishD old u)=true then layP H i ob k (wishD old u) else (false,H)
theorem wish_va (d:De)(u:Ws)(hu:u.ok)(hd:0≤d.va∧d.va<18446744073709551616):0≤(wishD d u).va∧(wishD d u).va<18446744073709551616:=by
 unfold wishD
 simp only
 split
 ·exact hu.ge
 ·split
  ·exact hu.va
  ·unfold turnD
   by_cases c:(bits .and .i64 u.has (if accB d=true then 3 else 48) == 0)=true
   ·rw[if_pos c];exact hd
   ·rw[if_neg c];exact⟨(by decide:(0:Int)≤undW),(by decide:undW<18446744073709551616)⟩
theorem intW_rng (n:Int):0≤intW n∧intW n<18446744073709551616:=by unfold intW;omega
section
variable {w w' w1:World}{B hb:Nat}{O S:Nat→Prop}{H H':He}{M M':HV}{tg:Nat→Nat}
theorem lay_of (h:HeapAt w B hb tg H M){n:Int}(hg:H.gd n)(hn:n<2000000000000)(o:Int)(o0:0≤o)(o1:o<18446744073709551616){i:Nat}{ob:Ob}(ho:obI H o=some i)(hi:H.obs[i]?=some ob)(k:ByteArray)(hk:k.size≤maxLen)(d:De)(hv:ob.kind=1→k=lenS→0≤d.va∧d.va<18446744073709551616) :
  Calls Tryz.prog 61 #[.pointer (some ⟨hb,0,none⟩),.int .u64 o,.string k,deV d] w fun e w'=>e = .returned (.bool (layP H i ob k d).1)∧∃M',WentM w B hb tg (layP H i ob k d).2 M' w' :=
 lay_at h o o0 o1 ho hi (hg.neat ob (List.mem_of_getElem? hi)) (hg.hms ob (List.mem_of_getElem? hi)) k hk d hv (by have:=hg.nx ob (List.mem_of_getElem? hi);omega)
theorem define_at (h:HeapAt w B hb tg H M)(hF:FpAt w){n:Int}(hg:H.gd n)(hn:n<2000000000000)(o:Int)(o0:0≤o)(o1:o<18446744073709551616)(k:ByteArray)(hk:k.size≤maxLen)(u:Ws)(hu:u.ok) :
  Calls Tryz.prog 28 #[.pointer (some ⟨hb,0,none⟩),.int .u64 o,.string k,wsV u] w fun e w'=>e = .returned (.bool (defP H o k u).1)∧∃M',WentM w B hb tg (defP H o k u).2 M' w':=by
 obtain⟨wb,hwb⟩:∃wb,wb=w.alloc (.cells #[.int .i64 u.has,.int .u64 u.va,.int .u64 u.ge,.int .u64 u.se,.int .i64 u.fl] 26):=⟨_,rfl⟩
 have hB:Below w.heap.size w wb:=by rw[hwb];exact(Below.refl _ _).alloc (Nat.le_refl _) _
 have hbx:Bx5 wb w.heap.size u:=by rw[hwb];exact at_new _ _
 have h2:=h.below hB
 have ki:=isObject_at h2 o o0 o1
 obtain⟨y0,y1,y2,y3,y4⟩:=hbx.ce
 have HW:Hid (∀W,Below wb.heap.size wb W→HeapAt W B hb tg H M∧Bx5 W w.heap.size u∧FpAt W∧Below w.heap.size w W):=fun W q=>⟨h2.below q,hbx.below q,(hF.below hB).below q,hB.trans (q.mono hB.size)⟩
 have HS:Hid (∀W,Below wb.heap.size wb W→∃M',WentM w B hb tg H M' W):=fun W q=>⟨M,WentM.same h (hB.trans (q.mono hB.size))⟩
 have HT:Hid (∀W H' M' W',Below wb.heap.size wb W→WentM W B hb tg H' M' W'→WentM w B hb tg H' M' W'):=fun W H' M' W' q r=>r.behind (hB.trans (q.mono hB.size))
 cases hq:obO H o with
 | none =>
   have hd:defP H o k u=(false,H):=by unfold defP;rw[obO_none hq]
   rw[hd]
   rw[hq] at ki
   simp only[Option.isSome_none] at ki
   have HR:Hid (∃M',WentM w B hb tg H M' wb):=HS.out wb (Below.refl _ _)
   unfold wsV
   clear h h2 hB hbx hq hd HW HS HT
   go_enter Tryz.func28,Tryz.ntmps28
   go_upto_region 1 with fail
   rw[←hwb]
   clear hwb
   go_wp2_with fail
   refine ki.mono ?_
   rintro e w2 ⟨rfl,rfl⟩
   clear ki
   go_wp2_with fail
   go_ret
   exact⟨rfl,HR.out⟩
 | some ob =>
   obtain⟨i,ho,hi⟩:=obO_some hq
   rw[hq] at ki
   simp only[Option.isSome_some] at ki
   have hd:defP H o k u=if (bits .and .i64 u.has 48 != 0)=true∧(bits .and .i64 u.has 3 != 0)=true then (false,H)
    else match ownO ob k with
     | none=>if ob.shut=true then (false,H) else layP H i ob k (wishD newD u)
     | some old=>if mayD old (wishD old u)=true then layP H i ob k (wishD old u) else (false,H):=by
    unfold defP
    rw[ho]
    simp only[hi]
   rw[hd]
   clear hd
   by_cases c1:(bits .and .i64 u.has 48 != 0)=true∧(bits .and .i64 u.has 3 != 0)=true
   ·rw[if_pos c1]
    obtain⟨ca,cb⟩:=c1
    have HR:Hid (∃M',WentM w B hb tg H M' wb):=HS.out wb (Below.refl _ _)
    unfold wsV
    clear h h2 hB hbx hq HW HS HT
    go_enter Tryz.func28,Tryz.ntmps28
    go_upto_region 1 with fail
    rw[←hwb]
    clear hwb
    go_wp2_with fail
    refine ki.mono ?_
    rintro e w2 ⟨rfl,rfl⟩
    clear ki
    go_wp2_with fail
    go_ret
    exact⟨rfl,HR.out⟩
   ·rw[if_neg c1]
    have hoo:ownH H o k=ownO ob k:=by unfold ownH;rw[hq];rfl
    have ko:=own_at h2 hg.neat o o0 o1 k hk
    rw[hoo] at ko
    have kop:=fun W (q:Below wb.heap.size wb W)=>open_any (h2.below q) o o0 o1
    rw[hq] at kop
    simp only[Option.map_some,Option.getD_some] at kop
    rcases (show(bits .and .i64 u.has 48 != 0)=false∨(bits .and .i64 u.has 48 != 0)=true∧(bits .and .i64 u.has 3 != 0)=false by
     cases hA:(bits .and .i64 u.has 48 != 0) with
     | false=>exact Or.inl rfl
     | true =>
       cases hB:(bits .and .i64 u.has 3 != 0) with
       | false=>exact Or.inr ⟨rfl,rfl⟩
       | true=>exact absurd ⟨hA,hB⟩ c1) with ca | ⟨ca,cb⟩
    ·clear c1
     have HLY:Hid (∀old:De,(ob.kind=1→k=lenS→0≤old.va∧old.va<18446744073709551616)→∀W,Below wb.heap.size wb W→Calls Tryz.prog 61 #[.pointer (some ⟨hb,0,none⟩),.int .u64 o,.string k,deV (wishD old u)] W fun e w'=>e = .returned (.bool (layP H i ob k (wishD old u)).1)∧∃M',WentM w B hb tg (layP H i ob k (wishD old u)).2 M' w'):=fun old q W r=>(lay_of (HW.out W r).1 hg hn o o0 o1 ho hi k hk (wishD old u) (fun a b=>wish_va old u hu (q a b))).mono fun e w' ⟨e1,M',e2⟩=>⟨e1,M',HT.out W _ _ _ r e2⟩
     have HWI:Hid (∀(old:De) W,Below wb.heap.size wb W→Calls Tryz.prog 62 #[deV old,wsV u] W fun e w'=>e = .returned (deV (wishD old u))∧Below W.heap.size W w'):=fun old W r=>wished_any W (HW.out W r).2.2.1 old u
     have HOB:Hid (Below wb.heap.size wb wb):=Below.refl _ _
     cases hw:ownO ob k with
     | none =>
       rw[hw] at ko
       simp only[Option.getD_none,Option.isSome_none] at ko
       simp only
       have HNV:Hid (ob.kind=1→k=lenS→0≤newD.va∧newD.va<18446744073709551616):=fun _ _=>⟨(by decide:(0:Int)≤undW),(by decide:undW<18446744073709551616)⟩
       unfold zDe deV at ko
       unfold wsV at *
       cases hsh:ob.shut with
       | true =>
         rw[hsh] at kop
         simp only[Bool.not_true,if_true] at kop ⊢
         have HKO:Hid (∀W,Below wb.heap.size wb W→Calls Tryz.prog 60 #[.pointer (some ⟨hb,0,none⟩),.int .u64 o] W fun e w'=>e = .returned (.bool false)∧w'=W):=kop
         clear h h2 hB hbx hq hoo HLY HWI HNV HT HW ho hi hw hsh kop hg hF hk hu
         go_enter Tryz.func28,Tryz.ntmps28
         go_upto_region 1 with fail
         rw[←hwb]
         clear hwb
         go_wp2_with fail
         refine ki.mono ?_
         rintro e w2 ⟨rfl,rfl⟩
         clear ki
         go_wp2_with fail
         refine ko.mono ?_
         rintro e w3 ⟨rfl,hB3⟩
         have hB4:=hB3.alloc hB3.size (.cells #[.int .u64 0,.int .u64 0,.int .i64 0] 39)
         have kop2:=HKO.out _ hB4
         have HR:=(show Hid _ from HS.out _ hB4)
         clear ko hB3 hB4 HS HKO
         go_wp2_with fail
         refine kop2.mono ?_
         rintro e w5 ⟨rfl,rfl⟩
         clear kop2
         go_wp2_with fail
         go_ret
         exact⟨rfl,HR.out⟩
       | false =>
         rw[hsh] at kop
         simp only[Bool.not_false,Bool.false_eq_true,if_false] at kop ⊢
         have HKO:Hid (∀W,Below wb.heap.size wb W→Calls Tryz.prog 60 #[.pointer (some ⟨hb,0,none⟩),.int .u64 o] W fun e w'=>e = .returned (.bool true)∧w'=W):=kop
         have HL2:=(show Hid _ from HLY.out newD HNV.out)
         have HW2:=(show Hid _ from HWI.out newD)
         have kd:=fun W=>dataOf_any W 18445336698825998336 0
         rw[show(⟨18445336698825998336,undW,0⟩:De)=newD from rfl] at kd
         generalize hl1:(layP H i ob k (wishD newD u)).1=lb at *
         generalize hl2:(layP H i ob k (wishD newD u)).2=lh at *
         generalize hwd:wishD newD u=nd at *
         unfold newD undW at kd HW2
         unfold deV at *
         simp only at kd
         clear h h2 hB hbx hq hoo HLY HWI HNV HT ho hi hw hsh kop hg hF hk hu hl1 hl2 hwd
         go_enter Tryz.func28,Tryz.ntmps28
         go_upto_region 1 with fail
         rw[←hwb]
         clear hwb
         go_wp2_with fail
         refine ki.mono ?_
         rintro e w2 ⟨rfl,rfl⟩
         clear ki
         go_wp2_with fail
         refine ko.mono ?_
         rintro e w3 ⟨rfl,hB3⟩
         have hB4:=hB3.alloc hB3.size (.cells #[.int .u64 0,.int .u64 0,.int .i64 0] 39)
         have kop2:=HKO.out _ hB4
         have HB4:Hid (Below w2.heap.size w2 (w3.alloc (.cells #[.int .u64 0,.int .u64 0,.int .i64 0] 39))):=hB4
         clear ko hB3 hB4 HS HKO
         go_wp2_with fail
         refine kop2.mono ?_
         rintro e w5 ⟨rfl,rfl⟩
         generalize (w3.alloc (.cells #[.int .u64 0,.int .u64 0,.int .i64 0] 39))=w4 at *
         obtain⟨y0,y1,y2,y3,y4⟩:=(HW.out _ HB4.out).2.1.ce
         clear kop2
         go_wp2_with fail
         go_region_with (first | (go_at_call 22;refine(kd _).mono ?_;rintro e w6 ⟨rfl,hB6⟩;have HB6:Hid (Below w2.heap.size w2 w6):=bel_dr HB4.out hB6;obtain⟨y0,y1,y2,y3,y4⟩:=(HW.out _ HB6.out).2.1.ce;clear hB6) | (go_at_call 62;refine(HW2.out _ HB6.out).mono ?_;rintro e w7 ⟨rfl,hB7⟩;have HB7:Hid (Below w2.heap.size w2 w7):=bel_sm HB6.out hB7;clear hB7) | (go_at_call 61;refine(HL2.out _ HB7.out).mono ?_;rintro e w8 ⟨rfl,M8,hw8⟩;have HW8:=(show Hid _ from hw8);clear hw8))
         all_goals
          go_wp2_with fail
          go_ret
          exact⟨rfl,M8,HW8.out⟩
     | some old =>
       rw[hw] at ko
       simp only[Option.getD_some,Option.isSome_some] at ko
       simp only
       have HOV:Hid (ob.kind=1→k=lenS→0≤old.va∧old.va<18446744073709551616):=fun a b=>by
        unfold ownO at hw
        rw[if_pos a,if_pos b] at hw
        have e:=Option.some.inj hw
        rw[←e]
        exact intW_rng _
       have HL2:=(show Hid _ from HLY.out old HOV.out)
       have HW2:=(show Hid _ from HWI.out old)
       have km:=fun W=>may_any W old (wishD old u)
       generalize hl1:(layP H i ob k (wishD old u)).1=lb at *
       generalize hl2:(layP H i ob k (wishD old u)).2=lh at *
       generalize hl3:layP H i ob k (wishD old u)=lp at *
       generalize hwd:wishD old u=nd at *
       unfold wsV deV at *
       cases hm:mayD old nd with
       | true =>
         rw[hm] at km
         simp only[if_true]
         have HL4:Hid (lp.1=lb∧lp.2=lh):=⟨hl1,hl2⟩
         clear h h2 hB hbx hq hoo HLY HWI HOV HT ho hi hw kop hg hF hk hu hl1 hl2 hl3 hwd hm HS
         go_enter Tryz.func28,Tryz.ntmps28
         go_upto_region 1 with fail
         rw[←hwb]
         clear hwb
         go_wp2_with fail
         refine ki.mono ?_
         rintro e w2 ⟨rfl,rfl⟩
         clear ki
         go_wp2_with fail
         refine ko.mono ?_
         rintro e w3 ⟨rfl,hB3⟩
         have hB4:=hB3.alloc hB3.size (.cells #[.int .u64 old.va,.int .u64 old.se,.int .i64 old.fl] 39)
         have hx:=Bx3.box w3 old
         have kw:=HW2.out _ hB4
         obtain⟨y0,y1,y2,y3,y4⟩:=(HW.out _ hB4).2.1.ce
         obtain⟨x0,x1,x2⟩:=hx.ce
         have HB4:Hid (Below w2.heap.size w2 (w3.alloc (.cells #[.int .u64 old.va,.int .u64 old.se,.int .i64 old.fl] 39))∧Bx3 (w3.alloc (.cells #[.int .u64 old.va,.int .u64 old.se,.int .i64 old.fl] 39)) w3.heap.size old):=⟨hB4,hx⟩
         clear ko hB3 hB4 hx HW HW2
         go_wp2_with fail
         refine kw.mono ?_
         rintro e w5 ⟨rfl,hB5⟩
         have hb5:Below w2.heap.size w2 w5:=HB4.out.1.trans (hB5.mono HB4.out.1.size)
         have hB6:=hb5.alloc hb5.size (.cells #[.int .u64 nd.va,.int .u64 nd.se,.int .i64 nd.fl] 39)
         have hy:=Bx3.box w5 nd
         have hx:Bx3 (w5.alloc (.cells #[.int .u64 nd.va,.int .u64 nd.se,.int .i64 nd.fl] 39)) w3.heap.size old:=(HB4.out.2.below hB5).below ((Below.refl _ _).alloc (Nat.le_refl _) _)
         obtain⟨x0,x1,x2⟩:=hx.ce
         obtain⟨z0,z1,z2⟩:=hy.ce
         have HB6:Hid (Below w2.heap.size w2 (w5.alloc (.cells #[.int .u64 nd.va,.int .u64 nd.se,.int .i64 nd.fl] 39))∧Bx3 (w5.alloc (.cells #[.int .u64 nd.va,.int .u64 nd.se,.int .i64 nd.fl] 39)) w5.heap.size nd):=⟨hB6,hy⟩
         clear kw hb5 hB5 hB6 hx hy HB4
         go_wp2_with fail
         refine(km _).mono ?_
         rintro e w7 ⟨rfl,hB7⟩
         obtain⟨z0,z1,z2⟩:=(HB6.out.2.below hB7).ce
         have kl:=HL2.out w7 (HB6.out.1.trans (hB7.mono HB6.out.1.size))
         clear km hB7 HL2 HB6 x0 x1 x2
         go_wp2_with fail
         refine kl.mono ?_
         rintro e w8 ⟨rfl,M8,hw8⟩
         have HW8:=(show Hid _ from hw8)
         clear kl hw8
         go_wp2_with fail
         go_ret
         rw[HL4.out.1,HL4.out.2]
         exact⟨rfl,M8,HW8.out⟩
       | false =>
         rw[hm] at km
         simp only[Bool.false_eq_true,if_false]
         clear h h2 hB hbx hq hoo HLY HWI HOV HT ho hi hw kop hg hF hk hu hl1 hl2 hl3 hwd hm HL2
         go_enter Tryz.func28,Tryz.ntmps28
         go_upto_region 1 with fail
         rw[←hwb]
         clear hwb
         go_wp2_with fail
         refine ki.mono ?_
         rintro e w2 ⟨rfl,rfl⟩
         clear ki
         go_wp2_with fail
         refine ko.mono ?_
         rintro e w3 ⟨rfl,hB3⟩
         have hB4:=hB3.alloc hB3.size (.cells #[.int .u64 old.va,.int .u64 old.se,.int .i64 old.fl] 39)
         have hx:=Bx3.box w3 old
         have kw:=HW2.out _ hB4
         obtain⟨y0,y1,y2,y3,y4⟩:=(HW.out _ hB4).2.1.ce
         obtain⟨x0,x1,x2⟩:=hx.ce
         have HB4:Hid (Below w2.heap.size w2 (w3.alloc (.cells #[.int .u64 old.va,.int .u64 old.se,.int .i64 old.fl] 39))∧Bx3 (w3.alloc (.cells #[.int .u64 old.va,.int .u64 old.se,.int .i64 old.fl] 39)) w3.heap.size old):=⟨hB4,hx⟩
         clear ko hB3 hB4 hx HW HW2
         go_wp2_with fail
         refine kw.mono ?_
         rintro e w5 ⟨rfl,hB5⟩
         have hb5:Below w2.heap.size w2 w5:=HB4.out.1.trans (hB5.mono HB4.out.1.size)
         have hB6:=hb5.alloc hb5.size (.cells #[.int .u64 nd.va,.int .u64 nd.se,.int .i64 nd.fl] 39)
         have hy:=Bx3.box w5 nd
         have hx:Bx3 (w5.alloc (.cells #[.int .u64 nd.va,.int .u64 nd.se,.int .i64 nd.fl] 39)) w3.heap.size old:=(HB4.out.2.below hB5).below ((Below.refl _ _).alloc (Nat.le_refl _) _)
         obtain⟨x0,x1,x2⟩:=hx.ce
         obtain⟨z0,z1,z2⟩:=hy.ce
         have HB6:Hid (Below w2.heap.size w2 (w5.alloc (.cells #[.int .u64 nd.va,.int .u64 nd.se,.int .i64 nd.fl] 39))):=hB6
         clear kw hb5 hB5 hB6 hx hy HB4
         go_wp2_with fail
         refine(km _).mono ?_
         rintro e w7 ⟨rfl,hB7⟩
         have HR:=(show Hid _ from HS.out w7 (HB6.out.trans (hB7.mono HB6.out.size)))
         clear km hB7 HB6 x0 x1 x2 z0 z1 z2
         go_wp2_with fail
         go_ret
         exact⟨rfl,HR.out⟩
    ·clear c1
     have HLY:Hid (∀old:De,(ob.kind=1→k=lenS→0≤old.va∧old.va<18446744073709551616)→∀W,Below wb.heap.size wb W→Calls Tryz.prog 61 #[.pointer (some ⟨hb,0,none⟩),.int .u64 o,.string k,deV (wishD old u)] W fun e w'=>e = .returned (.bool (layP H i ob k (wishD old u)).1)∧∃M',WentM w B hb tg (layP H i ob k (wishD old u)).2 M' w'):=fun old q W r=>(lay_of (HW.out W r).1 hg hn o o0 o1 ho hi k hk (wishD old u) (fun a b=>wish_va old u hu (q a b))).mono fun e w' ⟨e1,M',e2⟩=>⟨e1,M',HT.out W _ _ _ r e2⟩
     have HWI:Hid (∀(old:De) W,Below wb.heap.size wb W→Calls Tryz.prog 62 #[deV old,wsV u] W fun e w'=>e = .returned (deV (wishD old u))∧Below W.heap.size W w'):=fun old W r=>wished_any W (HW.out W r).2.2.1 old u
     have HOB:Hid (Below wb.heap.size wb wb):=Below.refl _ _
     cases hw:ownO ob k with
     | none =>
       rw[hw] at ko
       simp only[Option.getD_none,Option.isSome_none] at ko
       simp only
       have HNV:Hid (ob.kind=1→k=lenS→0≤newD.va∧newD.va<18446744073709551616):=fun _ _=>⟨(by decide:(0:Int)≤undW),(by decide:undW<18446744073709551616)⟩
       unfold zDe deV at ko
       unfold wsV at *
       cases hsh:ob.shut with
       | true =>
         rw[hsh] at kop
         simp only[Bool.not_true,if_true] at kop ⊢
         have HKO:Hid (∀W,Below wb.heap.size wb W→Calls Tryz.prog 60 #[.pointer (some ⟨hb,0,none⟩),.int .u64 o] W fun e w'=>e = .returned (.bool false)∧w'=W):=kop
         clear h h2 hB hbx hq hoo HLY HWI HNV HT HW ho hi hw hsh kop hg hF hk hu
         go_enter Tryz.func28,Tryz.ntmps28
         go_upto_region 1 with fail
         rw[←hwb]
         clear hwb
         go_wp2_with fail
         refine ki.mono ?_
         rintro e w2 ⟨rfl,rfl⟩
         clear ki
         go_wp2_with fail
         refine ko.mono ?_
         rintro e w3 ⟨rfl,hB3⟩
         have hB4:=hB3.alloc hB3.size (.cells #[.int .u64 0,.int .u64 0,.int .i64 0] 39)
         have kop2:=HKO.out _ hB4
         have HR:=(show Hid _ from HS.out _ hB4)
         clear ko hB3 hB4 HS HKO
         go_wp2_with fail
         refine kop2.mono ?_
         rintro e w5 ⟨rfl,rfl⟩
         clear kop2
         go_wp2_with fail
         go_ret
         exact⟨rfl,HR.out⟩
       | false =>
         rw[hsh] at kop
         simp only[Bool.not_false,Bool.false_eq_true,if_false] at kop ⊢
         have HKO:Hid (∀W,Below wb.heap.size wb W→Calls Tryz.prog 60 #[.pointer (some ⟨hb,0,none⟩),.int .u64 o] W fun e w'=>e = .returned (.bool true)∧w'=W):=kop
         have HL2:=(show Hid _ from HLY.out newD HNV.out)
         have HW2:=(show Hid _ from HWI.out newD)
         have kd:=fun W=>dataOf_any W 18445336698825998336 0
         rw[show(⟨18445336698825998336,undW,0⟩:De)=newD from rfl] at kd
         generalize hl1:(layP H i ob k (wishD newD u)).1=lb at *
         generalize hl2:(layP H i ob k (wishD newD u)).2=lh at *
         generalize hwd:wishD newD u=nd at *
         unfold newD undW at kd HW2
         unfold deV at *
         simp only at kd
         clear h h2 hB hbx hq hoo HLY HWI HNV HT ho hi hw hsh kop hg hF hk hu hl1 hl2 hwd
         go_enter Tryz.func28,Tryz.ntmps28
         go_upto_region 1 with fail
         rw[←hwb]
         clear hwb
         go_wp2_with fail
         refine ki.mono ?_
         rintro e w2 ⟨rfl,rfl⟩
         clear ki
         go_wp2_with fail
         refine ko.mono ?_
         rintro e w3 ⟨rfl,hB3⟩
         have hB4:=hB3.alloc hB3.size (.cells #[.int .u64 0,.int .u64 0,.int .i64 0] 39)
         have kop2:=HKO.out _ hB4
         have HB4:Hid (Below w2.heap.size w2 (w3.alloc (.cells #[.int .u64 0,.int .u64 0,.int .i64 0] 39))):=hB4
         clear ko hB3 hB4 HS HKO
         go_wp2_with fail
         refine kop2.mono ?_
         rintro e w5 ⟨rfl,rfl⟩
         generalize (w3.alloc (.cells #[.int .u64 0,.int .u64 0,.int .i64 0] 39))=w4 at *
         obtain⟨y0,y1,y2,y3,y4⟩:=(HW.out _ HB4.out).2.1.ce
         clear kop2
         go_wp2_with fail
         go_region_with (first | (go_at_call 22;refine(kd _).mono ?_;rintro e w6 ⟨rfl,hB6⟩;have HB6:Hid (Below w2.heap.size w2 w6):=bel_dr HB4.out hB6;obtain⟨y0,y1,y2,y3,y4⟩:=(HW.out _ HB6.out).2.1.ce;clear hB6) | (go_at_call 62;refine(HW2.out _ HB6.out).mono ?_;rintro e w7 ⟨rfl,hB7⟩;have HB7:Hid (Below w2.heap.size w2 w7):=bel_sm HB6.out hB7;clear hB7) | (go_at_call 61;refine(HL2.out _ HB7.out).mono ?_;rintro e w8 ⟨rfl,M8,hw8⟩;have HW8:=(show Hid _ from hw8);clear hw8))
         all_goals
          go_wp2_with fail
          go_ret
          exact⟨rfl,M8,HW8.out⟩
     | some old =>
       rw[hw] at ko
       simp only[Option.getD_some,Option.isSome_some] at ko
       simp only
       have HOV:Hid (ob.kind=1→k=lenS→0≤old.va∧old.va<18446744073709551616):=fun a b=>by
        unfold ownO at hw
        rw[if_pos a,if_pos b] at hw
        have e:=Option.some.inj hw
        rw[←e]
        exact intW_rng _
       have HL2:=(show Hid _ from HLY.out old HOV.out)
       have HW2:=(show Hid _ from HWI.out old)
       have km:=fun W=>may_any W old (wishD old u)
       generalize hl1:(layP H i ob k (wishD old u)).1=lb at *
       generalize hl2:(layP H i ob k (wishD old u)).2=lh at *
       generalize hl3:layP H i ob k (wishD old u)=lp at *
       generalize hwd:wishD old u=nd at *
       unfold wsV deV at *
       cases hm:mayD old nd with
       | true =>
         rw[hm] at km
         simp only[if_true]
         have HL4:Hid (lp.1=lb∧lp.2=lh):=⟨hl1,hl2⟩
         clear h h2 hB hbx hq hoo HLY HWI HOV HT ho hi hw kop hg hF hk hu hl1 hl2 hl3 hwd hm HS
         go_enter Tryz.func28,Tryz.ntmps28
         go_upto_region 1 with fail
         rw[←hwb]
         clear hwb
         go_wp2_with fail
         refine ki.mono ?_
         rintro e w2 ⟨rfl,rfl⟩
         clear ki
         go_wp2_with fail
         refine ko.mono ?_
         rintro e w3 ⟨rfl,hB3⟩
         have hB4:=hB3.alloc hB3.size (.cells #[.int .u64 old.va,.int .u64 old.se,.int .i64 old.fl] 39)
         have hx:=Bx3.box w3 old
         have kw:=HW2.out _ hB4
         obtain⟨y0,y1,y2,y3,y4⟩:=(HW.out _ hB4).2.1.ce
         obtain⟨x0,x1,x2⟩:=hx.ce
         have HB4:Hid (Below w2.heap.size w2 (w3.alloc (.cells #[.int .u64 old.va,.int .u64 old.se,.int .i64 old.fl] 39))∧Bx3 (w3.alloc (.cells #[.int .u64 old.va,.int .u64 old.se,.int .i64 old.fl] 39)) w3.heap.size old):=⟨hB4,hx⟩
         clear ko hB3 hB4 hx HW HW2
         go_wp2_with fail
         refine kw.mono ?_
         rintro e w5 ⟨rfl,hB5⟩
         have hb5:Below w2.heap.size w2 w5:=HB4.out.1.trans (hB5.mono HB4.out.1.size)
         have hB6:=hb5.alloc hb5.size (.cells #[.int .u64 nd.va,.int .u64 nd.se,.int .i64 nd.fl] 39)
         have hy:=Bx3.box w5 nd
         have hx:Bx3 (w5.alloc (.cells #[.int .u64 nd.va,.int .u64 nd.se,.int .i64 nd.fl] 39)) w3.heap.size old:=(HB4.out.2.below hB5).below ((Below.refl _ _).alloc (Nat.le_refl _) _)
         obtain⟨x0,x1,x2⟩:=hx.ce
         obtain⟨z0,z1,z2⟩:=hy.ce
         have HB6:Hid (Below w2.heap.size w2 (w5.alloc (.cells #[.int .u64 nd.va,.int .u64 nd.se,.int .i64 nd.fl] 39))∧Bx3 (w5.alloc (.cells #[.int .u64 nd.va,.int .u64 nd.se,.int .i64 nd.fl] 39)) w5.heap.size nd):=⟨hB6,hy⟩
         clear kw hb5 hB5 hB6 hx hy HB4
         go_wp2_with fail
         refine(km _).mono ?_
         rintro e w7 ⟨rfl,hB7⟩
         obtain⟨z0,z1,z2⟩:=(HB6.out.2.below hB7).ce
         have kl:=HL2.out w7 (HB6.out.1.trans (hB7.mono HB6.out.1.size))
         clear km hB7 HL2 HB6 x0 x1 x2
         go_wp2_with fail
         refine kl.mono ?_
         rintro e w8 ⟨rfl,M8,hw8⟩
         have HW8:=(show Hid _ from hw8)
         clear kl hw8
         go_wp2_with fail
         go_ret
         rw[HL4.out.1,HL4.out.2]
         exact⟨rfl,M8,HW8.out⟩
       | false =>
         rw[hm] at km
         simp only[Bool.false_eq_true,if_false]
         clear h h2 hB hbx hq hoo HLY HWI HOV HT ho hi hw kop hg hF hk hu hl1 hl2 hl3 hwd hm HL2
         go_enter Tryz.func28,Tryz.ntmps28
         go_upto_region 1 with fail
         rw[←hwb]
         clear hwb
         go_wp2_with fail
         refine ki.mono ?_
         rintro e w2 ⟨rfl,rfl⟩
         clear ki
         go_wp2_with fail
         refine ko.mono ?_
         rintro e w3 ⟨rfl,hB3⟩
         have hB4:=hB3.alloc hB3.size (.cells #[.int .u64 old.va,.int .u64 old.se,.int .i64 old.fl] 39)
         have hx:=Bx3.box w3 old
         have kw:=HW2.out _ hB4
         obtain⟨y0,y1,y2,y3,y4⟩:=(HW.out _ hB4).2.1.ce
         obtain⟨x0,x1,x2⟩:=hx.ce
         have HB4:Hid (Below w2.heap.size w2 (w3.alloc (.cells #[.int .u64 old.va,.int .u64 old.se,.int .i64 old.fl] 39))∧Bx3 (w3.alloc (.cells #[.int .u64 old.va,.int .u64 old.se,.int .i64 old.fl] 39)) w3.heap.size old):=⟨hB4,hx⟩
         clear ko hB3 hB4 hx HW HW2
         go_wp2_with fail
         refine kw.mono ?_
         rintro e w5 ⟨rfl,hB5⟩
         have hb5:Below w2.heap.size w2 w5:=HB4.out.1.trans (hB5.mono HB4.out.1.size)
         have hB6:=hb5.alloc hb5.size (.cells #[.int .u64 nd.va,.int .u64 nd.se,.int .i64 nd.fl] 39)
         have hy:=Bx3.box w5 nd
         have hx:Bx3 (w5.alloc (.cells #[.int .u64 nd.va,.int .u64 nd.se,.int .i64 nd.fl] 39)) w3.heap.size old:=(HB4.out.2.below hB5).below ((Below.refl _ _).alloc (Nat.le_refl _) _)
         obtain⟨x0,x1,x2⟩:=hx.ce
         obtain⟨z0,z1,z2⟩:=hy.ce
         have HB6:Hid (Below w2.heap.size w2 (w5.alloc (.cells #[.int .u64 nd.va,.int .u64 nd.se,.int .i64 nd.fl] 39))):=hB6
         clear kw hb5 hB5 hB6 hx hy HB4
         go_wp2_with fail
         refine(km _).mono ?_
         rintro e w7 ⟨rfl,hB7⟩
         have HR:=(show Hid _ from HS.out w7 (HB6.out.trans (hB7.mono HB6.out.size)))
         clear km hB7 HB6 x0 x1 x2 z0 z1 z2
         go_wp2_with fail
         go_ret
         exact⟨rfl,HR.out⟩
end
end Go.Proofs.YtahhionlbfhinabGreatDoor.Hp
