/- XK, YA, YB, YC, MF -/
import Derived.Test.YtihmdcdifakepaaGreatXJ
import Derived.RangeFuncNested
import Derived.RangeFuncBound
import Derived.RangeFuncCalls
import Derived.RangeFuncLeaves
import Derived.RangeFuncWrites
import Derived.Shelf.Abstract
import Derived.Shelf.RegionOpen
import Derived.OwnWalkIn
import Derived.TacticsInMore
import Derived.LoopNIn
import Derived.LoopIn
import Derived.Maps.OwnSet
import Derived.Test.YtihmdcdifakepaaGreatB9
set_option linter.unusedVariables false
set_option linter.unusedSimpArgs false
set_option maxRecDepth 100000
set_option maxHeartbeats 40000000
namespace Go.Proofs.YtihmdcdifakepaaGreat.Sc
open Go.RowKit
theorem part_all {B cb mu md:Nat}{W0:World}(hBE:B=W0.heap.size)(n:Nat):∀(t:Tr n)(p:UInt8),p∈letters→okT n W0 t→PC B cb mu md W0 25 #[.pointer (some ⟨cb,0,none⟩),.int .u8 p.toNat,valT n t] (fun star st=>partP n p t star st) (szT n t):=by
 induction n with
 | zero=>intro t;exact nomatch (t:Empty)
 | succ n ih =>
   rintro⟨x,s⟩ p hp hok
   refine part_pc hBE x s hok p hp ?_
   intro w star st m hb hck hm
   obtain⟨kind,pl,name,num,op⟩:=x
   obtain⟨ad,cap,xs⟩:=s
   exact right_loop hBE ih kind pl num name op ad cap xs hok.1 hok.2.1 hok.2.2 star st m w hb hck hm
theorem right_all {B cb mu md:Nat}{W0:World}(hBE:B=W0.heap.size)(n:Nat)(x:Nd)(s:Sli (Tr n))(hok:okT (n+1) W0 ((x,s):Nd×Sli (Tr n))) :
  PC B cb mu md W0 15 #[.pointer (some ⟨cb,0,none⟩),valT (n+1) ((x,s):Nd×Sli (Tr n))] (fun star st=>rightP (kidT n) (partP n) x s.xs star st) (szT (n+1) ((x,s):Nd×Sli (Tr n))):=by
 intro w star st m hb hck hm
 obtain⟨kind,pl,name,num,op⟩:=x
 obtain⟨ad,cap,xs⟩:=s
 exact right_loop hBE (part_all hBE n) kind pl num name op ad cap xs hok.1 hok.2.1 hok.2.2 star st m w hb hck hm
theorem heap_new (w:World)(o:Obj):(w.alloc o).heap.size=w.heap.size+1:=by simp
theorem made_ck {B:Nat}(w:World)(hB:B≤w.heap.size) :
  CkAt B (w.heap.size+2) w.heap.size (w.heap.size+1) (((w.alloc (.map #[] 0)).alloc (.map #[] 0)).alloc (.cells #[.bool false,.map (some w.heap.size),.map (some (w.heap.size+1))] 66)) false ([],[]) 0:=by
 have s1:SetAt (w.alloc (.map #[] 0)) w.heap.size 0 []:=SetAt.made w
 have s2:SetAt ((w.alloc (.map #[] 0)).alloc (.map #[] 0)) (w.heap.size+1) 0 []:=by
  have:=SetAt.made (w.alloc (.map #[] 0))
  rw[heap_new] at this
  exact this
 have hsz:((w.alloc (.map #[] 0)).alloc (.map #[] 0)).heap.size=w.heap.size+2:=by simp
 have hb:∀(v:World) (o:Obj),Chg (fun _=>False) v (v.alloc o):=fun v o=>Chg.of_below ((Below.refl _ _).alloc (Nat.le_refl _) _)
 have bx:=box_new ((w.alloc (.map #[] 0)).alloc (.map #[] 0)) #[.bool false,.map (some w.heap.size),.map (some (w.heap.size+1))] 66
 have fz:=frozen_new ((w.alloc (.map #[] 0)).alloc (.map #[] 0)) #[.bool false,.map (some w.heap.size),.map (some (w.heap.size+1))] 66 0
 rw[hsz] at bx fz
 exact⟨[],[],rfl,bx 0 _ rfl,fz,bx 1 _ rfl,bx 2 _ rfl,(s1.kept (hb _ _) (fun q=>q)).kept (hb _ _) (fun q=>q),s2.kept (hb _ _) (fun q=>q),by omega,by omega,by omega,by omega,by omega,by omega⟩
theorem Right_any (n:Nat)(t:Tr n)(w:World)(hok:okT n w t):Calls Tryz.prog 9 #[valT n t] w fun e w'=>e = .returned (.bool (rootP n t))∧Below w.heap.size w w':=by
 cases n with
 | zero=>exact nomatch (t:Empty)
 | succ n =>
   obtain⟨⟨kind,pl,name,num,op⟩,⟨ad,cap,xs⟩⟩:=t
   obtain⟨R,hR⟩:∃R,R=rootP (n+1) ((⟨kind,pl,name,num,op⟩,⟨ad,cap,xs⟩):Nd×Sli (Tr n)):=⟨_,rfl⟩
   rw[←hR]
   obtain⟨Q,hQ⟩:∃Q,Q=holdsT (n+1) 300 ((⟨kind,pl,name,num,op⟩,⟨ad,cap,xs⟩):Nd×Sli (Tr n)) 131072:=⟨_,rfl⟩
   have HR:Hid (R=(kind == 47 && Q.1 && (rightP (kidT n) (partP n) ⟨kind,pl,name,num,op⟩ xs false ([],[])).isSome)):=by
    show _=_
    rw[hR,hQ]
    rfl
   have HQ:Hid (Q=holdsT (n+1) 300 ((⟨kind,pl,name,num,op⟩,⟨ad,cap,xs⟩):Nd×Sli (Tr n)) 131072):=hQ
   have HOK:Hid (okT (n+1) w ((⟨kind,pl,name,num,op⟩,⟨ad,cap,xs⟩):Nd×Sli (Tr n))):=hok
   have hsz:Q.1=true→szT (n+1) ((⟨kind,pl,name,num,op⟩,⟨ad,cap,xs⟩):Nd×Sli (Tr n))≤131072:=by
    intro h
    have h1:=holds_count (n+1) ((⟨kind,pl,name,num,op⟩,⟨ad,cap,xs⟩):Nd×Sli (Tr n)) 131072 300
    rw[←hQ,h] at h1
    have h2:0≤countT (n+1) 300 ((⟨kind,pl,name,num,op⟩,⟨ad,cap,xs⟩):Nd×Sli (Tr n)) 131072:=by simpa using h1.symm
    have h3:=count_sz (n+1) 300 _ 131072 h2
    omega
   have HSZ:Hid (Q.1=true→szT (n+1) ((⟨kind,pl,name,num,op⟩,⟨ad,cap,xs⟩):Nd×Sli (Tr n))≤131072):=hsz
   clear hok hR hsz
   rw[val_succ]
   simp only
   obtain⟨wl,hwl⟩:∃wl,wl=(w.alloc (.cells #[.int .i64 kind,.int .i64 pl,.string name,.int .u64 num,.string op,.slice ad xs.length cap] 25)).alloc (.cells #[.int .i64 131072] 62):=⟨_,rfl⟩
   have hszl:wl.heap.size=w.heap.size+2:=by rw[hwl];simp
   obtain⟨wp,hwp⟩:∃wp,wp=((wl.alloc (.map #[] 0)).alloc (.map #[] 0)).alloc (.cells #[.bool false,.map (some (w.heap.size+2)),.map (some (w.heap.size+3))] 66):=⟨_,rfl⟩
   have hbl:Below w.heap.size w wl:=by rw[hwl];exact((Below.refl w.heap.size w).alloc (Nat.le_refl _) _).alloc (by simp) _
   have hblp:Below wl.heap.size wl wp:=by rw[hwp];exact(((Below.refl wl.heap.size wl).alloc (Nat.le_refl _) _).alloc (by simp) _).alloc (by simp;omega) _
   have hck:CkAt w.heap.size (w.heap.size+4) (w.heap.size+2) (w.heap.size+3) wp false ([],[]) 0:=by
    have:=made_ck (B:=w.heap.size) wl (by omega)
    rw[hszl,show w.heap.size+2+2=w.heap.size+4 from rfl,show w.heap.size+2+1=w.heap.size+3 from rfl,←hwp] at this
    exact this
   have hlc:wl.cell? ⟨w.heap.size+1,0,none⟩=some (.int .i64 131072):=by
    rw[hwl]
    have:=box_new (w.alloc (.cells #[.int .i64 kind,.int .i64 pl,.string name,.int .u64 num,.string op,.slice ad xs.length cap] 25)) #[.int .i64 131072] 62 0 _ rfl
    rw[heap_new] at this
    exact this
   have hlf:wl.frozen? ⟨w.heap.size+1,0,none⟩=false:=by
    rw[hwl]
    have:=frozen_new (w.alloc (.cells #[.int .i64 kind,.int .i64 pl,.string name,.int .u64 num,.string op,.slice ad xs.length cap] 25)) #[.int .i64 131072] 62 0
    rw[heap_new] at this
    exact this
   have lc:=cells_below hblp _ _ hlc
   have lf:wp.frozen? ⟨w.heap.size+1,0,none⟩=false:=by rw[hblp.frozen (p:=⟨w.heap.size+1,0,none⟩) (by show w.heap.size+1<wl.heap.size;omega)];exact hlf
   have hbox:∀i v,(#[.int .i64 kind,.int .i64 pl,.string name,.int .u64 num,.string op,.slice ad xs.length cap]:Array Value)[i]?=some v→wp.cell? ⟨w.heap.size,i,none⟩=some v:=by
    intro i v h
    refine cells_below hblp _ _ ?_
    rw[hwl]
    exact cells_below ((Below.refl _ _).alloc (Nat.le_refl _) _) _ _ (box_new w _ 25 i v h)
   have hbp:Below w.heap.size w wp:=hbl.trans (hblp.mono hbl.size)
   have HW:Hid (Below w.heap.size w wp∧CkAt w.heap.size (w.heap.size+4) (w.heap.size+2) (w.heap.size+3) wp false ([],[]) 0∧(∀i v,(#[.int .i64 kind,.int .i64 pl,.string name,.int .u64 num,.string op,.slice ad xs.length cap]:Array Value)[i]?=some v→wp.cell? ⟨w.heap.size,i,none⟩=some v)):=⟨hbp,hck,hbox⟩
   have b0:wp.cell? ⟨w.heap.size,0,none⟩=some (.int .i64 kind):=hbox 0 _ rfl
   have b1:wp.cell? ⟨w.heap.size,1,none⟩=some (.int .i64 pl):=hbox 1 _ rfl
   have b2:wp.cell? ⟨w.heap.size,2,none⟩=some (.string name):=hbox 2 _ rfl
   have b3:wp.cell? ⟨w.heap.size,3,none⟩=some (.int .u64 num):=hbox 3 _ rfl
   have b4:wp.cell? ⟨w.heap.size,4,none⟩=some (.string op):=hbox 4 _ rfl
   have b5:wp.cell? ⟨w.heap.size,5,none⟩=some (.slice ad xs.length cap):=hbox 5 _ rfl
   have hho:=holds_any (n+1) w.heap.size (w.heap.size+1) w rfl (by omega) ((⟨kind,pl,name,num,op⟩,⟨ad,cap,xs⟩):Nd×Sli (Tr n)) 300 131072 wp HOK.out hbp (Nat.le_refl _) (Nat.le_refl _) lc lf
   rw[val_succ,show((300:Nat):Int)=300 from rfl,←hQ] at hho
   simp only at hho
   rw[hwl] at hwp
   clear hck hlc hlf hbox hbp hbl hblp hQ hwl hszl
   have hmm:=@run_makeMap Tryz.prog
   obtain⟨Q1,Q2⟩:=Q
   simp only at hho
   by_cases h47:kind=47
   ·subst h47
    cases Q1 with
    | false =>
      have e:R=false:=by rw[HR.out];rfl
      rw[e]
      go_enter Tryz.func9,Tryz.ntmps9
      go_upto_region 3 with fail
      rw[←hwp]
      clear hwp
      go_wp2_with fail
      refine hho.mono ?_
      rintro e w2 ⟨rfl,_,_,hc2⟩
      have HB:Hid (Below w.heap.size w w2):=hc2.below HW.out.1 HW.out.1.size (fun k q=>by omega)
      clear hc2 hho
      go_wp2_with fail
      go_ret
      exact⟨rfl,HB.out⟩
    | true =>
      have hszz:=HSZ.out rfl
      have hra:=right_all (B:=w.heap.size) (cb:=w.heap.size+4) (mu:=w.heap.size+2) (md:=w.heap.size+3) (W0:=w) rfl n ⟨47,pl,name,num,op⟩ ⟨ad,cap,xs⟩ HOK.out
      obtain⟨A,hA⟩:∃A,A=rightP (kidT n) (partP n) ⟨47,pl,name,num,op⟩ xs false ([],[]):=⟨_,rfl⟩
      have e:R=A.isSome:=by rw[HR.out,hA];rfl
      rw[e]
      have HA:Hid (A=rightP (kidT n) (partP n) ⟨47,pl,name,num,op⟩ xs false ([],[])):=hA
      have HRA:Hid (PC w.heap.size (w.heap.size+4) (w.heap.size+2) (w.heap.size+3) w 15 #[.pointer (some ⟨w.heap.size+4,0,none⟩),.agg #[.int .i64 47,.int .i64 pl,.string name,.int .u64 num,.string op,.slice ad xs.length cap]] (fun star st=>rightP (kidT n) (partP n) ⟨47,pl,name,num,op⟩ xs star st) (szT (n+1) ((⟨47,pl,name,num,op⟩,⟨ad,cap,xs⟩):Nd×Sli (Tr n)))):=hra
      have HS2:Hid (szT (n+1) ((⟨47,pl,name,num,op⟩,⟨ad,cap,xs⟩):Nd×Sli (Tr n))≤131072):=hszz
      clear hra hszz hA e
      go_enter Tryz.func9,Tryz.ntmps9
      go_upto_region 3 with fail
      rw[←hwp]
      clear hwp
      go_wp2_with fail
      refine hho.mono ?_
      rintro e w2 ⟨rfl,_,_,hc2⟩
      have HB:Hid (Below w.heap.size w w2):=hc2.below HW.out.1 HW.out.1.size (fun k q=>by omega)
      have hck2:CkAt w.heap.size (w.heap.size+4) (w.heap.size+2) (w.heap.size+3) w2 false ([],[]) 0:=by
       obtain⟨U,D,e,h1⟩:=HW.out.2.1.mem
       exact⟨U,D,e,h1.kept hc2 (by rintro k (q | q | q) z <;> omega)⟩
      have hbx:∀i v,(#[.int .i64 47,.int .i64 pl,.string name,.int .u64 num,.string op,.slice ad xs.length cap]:Array Value)[i]?=some v→w2.cell? ⟨w.heap.size,i,none⟩=some v:=fun i v h=>hc2.cell (HW.out.2.2 i v h) (by show ¬(w.heap.size=w.heap.size+1);omega)
      have d0:w2.cell? ⟨w.heap.size,0,none⟩=some (.int .i64 47):=hbx 0 _ rfl
      have d1:w2.cell? ⟨w.heap.size,1,none⟩=some (.int .i64 pl):=hbx 1 _ rfl
      have d2:w2.cell? ⟨w.heap.size,2,none⟩=some (.string name):=hbx 2 _ rfl
      have d3:w2.cell? ⟨w.heap.size,3,none⟩=some (.int .u64 num):=hbx 3 _ rfl
      have d4:w2.cell? ⟨w.heap.size,4,none⟩=some (.string op):=hbx 4 _ rfl
      have d5:w2.cell? ⟨w.heap.size,5,none⟩=some (.slice ad xs.length cap):=hbx 5 _ rfl
      have hcall:=HRA.out w2 false ([],[]) 0 HB.out hck2 (by have:=HS2.out;omega)
      simp only at hcall
      rw[←HA.out] at hcall
      clear hc2 hho hck2 hbx b0 b1 b2 b3 b4 b5 lc lf
      go_wp2_with fail
      refine hcall.mono ?_
      rintro e w3 ⟨rfl,h3,_⟩
      have HX:Hid (Below w.heap.size w w3):=h3.below HB.out HB.out.size (by rintro k (q | q | q) <;> omega)
      clear h3 hcall
      go_wp2_with fail
      go_ret
      exact⟨rfl,HX.out⟩
   ·have h47':(kind == 47)=false:=by simpa using h47
    have e:R=false:=by rw[HR.out,h47'];rfl
    rw[e]
    go_enter Tryz.func9,Tryz.ntmps9
    go_upto_region 3 with fail
    rw[←hwp]
    clear hwp
    go_wp2_with fail
    go_ret
    exact⟨rfl,HW.out.1⟩
def namesL:List (List UInt8):=[[79,98,106,101,99,116],[70,117,110,99,116,105,111,110],[65,114,114,97,121],[83,116,114,105,110,103],[78,117,109,98,101,114],[66,111,111,108,101,97,110],[77,97,116,104],[69,114,114,111,114],[84,121,112,101,69,114,114,111,114],[82,97,110,103,101,69,114,114,111,114],[82,101,102,101,114,101,110,99,101,69,114,114,111,114],[112,114,105,110,116],[78,97,78],[73,110,102,105,110,105,116,121]]
def namesB:List ByteArray:=namesL.map bs
def idxI (s:ByteArray):Int:=Lib.idxOfS namesB s
theorem builtins_any (w:World):Calls Tryz.prog 13 #[] w fun e w'=>e = .returned (.slice (some ⟨w.heap.size,0,none⟩) 14 14)∧StrsAt w' (some ⟨w.heap.size,0,none⟩) namesB∧Below w.heap.size w w':=by
 go_enter Tryz.func13,Tryz.ntmps13
 go_wp2_with fail
 go_ret
 exact⟨rfl,strs_new w namesB,(Below.refl _ _).alloc (Nat.le_refl _) _⟩
theorem names_any (w:World):Calls Tryz.prog 89 #[] w fun e w'=>e = .returned (.slice (some ⟨w.heap.size,0,none⟩) 14 14)∧StrsAt w' (some ⟨w.heap.size,0,none⟩) namesB∧Below w.heap.size w w':=by
 go_enter Tryz.func89,Tryz.ntmps89
 go_wp2_with fail
 go_ret
 exact⟨rfl,strs_new w namesB,(Below.refl _ _).alloc (Nat.le_refl _) _⟩
theorem index_any (b:Nat)(s:ByteArray)(w:World)(hz:StrsAt w (some ⟨b,0,none⟩) namesB):Calls Tryz.prog 79 #[.slice (some ⟨b,0,none⟩) 14 14,.string s] w fun e w'=>e = .returned (.int .i64 (idxI s))∧w'=w:=by
 obtain⟨b',off',e1,hc⟩:=hz (by decide)
 cases e1
 have hlen:namesB.length=14:=rfl
 have:=Tryz.slices_Index_string b 0 14 14 namesB s w (by rw[hlen];exact Nat.le_refl _) (by omega) (fun j hj=>by
  have:=hc j _ (List.getElem?_eq_getElem hj)
  rw[this]
  simp[List.getD,List.getElem?_eq_getElem hj])
 rw[show namesB.take 14=namesB from rfl] at this
 exact this
theorem idxFrom_range (s:ByteArray):∀(zs:List ByteArray)(i:Nat),Lib.idxFromS zs s i = -1∨((i:Int)≤Lib.idxFromS zs s i∧Lib.idxFromS zs s i<(i:Int)+zs.length):=by
 intro zs
 induction zs with
 | nil=>intro i;left;rfl
 | cons z zs ih =>
   intro i
   by_cases hz:z=s
   ·right
    simp[Lib.idxFromS,hz]
    omega
   ·rcases ih (i+1) with h | h
    ·left;simp[Lib.idxFromS,hz,h]
    ·right
     simp only[Lib.idxFromS,hz,if_false,List.length_cons]
     omega
theorem idx_range (s:ByteArray) : -1≤idxI s∧idxI s≤13:=by
 have:=idxFrom_range s namesB 0
 have hl:namesB.length=14:=rfl
 rw[hl] at this
 unfold idxI Lib.idxOfS
 omega
theorem builtin_any (s:ByteArray)(w:World):Calls Tryz.prog 99 #[.string s] w fun e w'=>e = .returned (.tuple #[.int .i64 (max (idxI s) 0),.bool (decide (0≤idxI s))])∧Below w.heap.size w w':=by
 have hb:=builtins_any w
 have hx:=fun b w1=>index_any b s w1
 have HX:Hid (∀b w1,StrsAt w1 (some ⟨b,0,none⟩) namesB→Calls Tryz.prog 79 #[.slice (some ⟨b,0,none⟩) 14 14,.string s] w1 fun e w'=>e = .returned (.int .i64 (idxI s))∧w'=w1):=hx
 have hr:=idx_range s
 generalize idxI s=i at *
 clear hx
 by_cases c:0≤i
 ·have e1:max i 0=i:=by omega
  have e2:decide (0≤i)=true:=by simpa using c
  rw[e1,e2]
  go_enter Tryz.func99,Tryz.ntmps99
  go_wp2_with fail
  refine hb.mono ?_
  rintro e w1 ⟨rfl,h1,h2⟩
  have hc:=HX.out _ _ h1
  have HB:Hid (Below w.heap.size w w1):=h2
  clear h1 h2 hb
  go_wp2_with fail
  refine hc.mono ?_
  rintro e w2 ⟨rfl,rfl⟩
  clear hc
  go_wp2_with fail
  go_ret2
  exact⟨rfl,HB.out⟩
 ·have e1:max i 0=0:=by omega
  have e2:decide (0≤i)=false:=by simpa using c
  rw[e1,e2]
  go_enter Tryz.func99,Tryz.ntmps99
  go_wp2_with fail
  refine hb.mono ?_
  rintro e w1 ⟨rfl,h1,h2⟩
  have hc:=HX.out _ _ h1
  have HB:Hid (Below w.heap.size w w1):=h2
  clear h1 h2 hb
  go_wp2_with fail
  refine hc.mono ?_
  rintro e w2 ⟨rfl,rfl⟩
  clear hc
  go_wp2_with fail
  go_ret2
  exact⟨rfl,HB.out⟩
theorem refBuiltin_any (s:ByteArray)(w:World):Calls Tryz.prog 73 #[.string s] w fun e w'=>e = .returned (.tuple #[.int .i64 (max (idxI s) 0),.bool (decide (0≤idxI s))])∧Below w.heap.size w w':=by
 have hb:=names_any w
 obtain⟨X,hX⟩:∃X:Value,X = .tuple #[.int .i64 (max (idxI s) 0),.bool (decide (0≤idxI s))]:=⟨_,rfl⟩
 rw[←hX]
 have HX:Hid (X = .tuple #[.int .i64 (max (idxI s) 0),.bool (decide (0≤idxI s))]):=hX
 clear hX
 have hhit:∀k:Nat,k<14→(∀j,j<k→namesB.getD j ByteArray.empty≠s)→namesB.getD k ByteArray.empty=s→idxI s=k:=by
  intro k hk h1 h2
  have:=Lib.idxOfS_hit namesB 14 k s hk (by decide) h2 h1
  rw[show namesB.take 14=namesB from rfl] at this
  exact this
 have hmiss:(∀j,j<14→namesB.getD j ByteArray.empty≠s)→idxI s = -1:=by
  intro h
  have:=Lib.idxOfS_miss namesB 14 s h
  rw[show namesB.take 14=namesB from rfl] at this
  exact this
 have HH:Hid ((∀k:Nat,k<14→(∀j,j<k→namesB.getD j ByteArray.empty≠s)→namesB.getD k ByteArray.empty=s→idxI s=k)∧((∀j,j<14→namesB.getD j ByteArray.empty≠s)→idxI s = -1)):=⟨hhit,hmiss⟩
 clear hhit hmiss
 go_enter Tryz.func73,Tryz.ntmps73
 go_wp2_with fail
 refine hb.mono ?_
 rintro e w1 ⟨rfl,h1,h2⟩
 have HS:Hid (StrsAt w1 (some ⟨w.heap.size,0,none⟩) namesB∧Below w.heap.size w w1):=⟨h1,h2⟩
 clear h1 h2 hb
 go_wp2_with fail
 go_loopw [5] (fun i wr=>∃k:Nat,(k≤14∧Hid (∀j,j<k→namesB.getD j ByteArray.empty≠s)∧wr=w1)∧i = .int .i64 k) (fun i wr=>14 - (intOf i).toNat)
 case atStart=>exact⟨0,⟨Nat.zero_le _,fun j hj=>absurd hj (by omega),rfl⟩,rfl⟩
 case round =>
  obtain⟨k,⟨ple,HN,rfl⟩,rfl⟩:=hrel
  rcases Nat.lt_or_ge k 14 with c | c
  ·obtain⟨y,hy⟩:∃y,y=namesB.getD k ByteArray.empty:=⟨_,rfl⟩
   have hyk:namesB[k]?=some y:=by
    rw[hy,List.getD,List.getElem?_eq_getElem (by rw[show namesB.length=14 from rfl];exact c)]
    rfl
   obtain⟨b',off',e1,hc⟩:=HS.out.1 (by decide)
   cases e1
   have c0:=hc k y hyk
   simp only[Nat.zero_add] at c0
   have HY:Hid (y=namesB.getD k ByteArray.empty):=hy
   clear hy hyk hc
   cases t:(y.toList == s.toList)
   ·have HN2:Hid (∀j,j<k+1→namesB.getD j ByteArray.empty≠s):=by
     intro j hj e
     rcases Nat.lt_or_ge j k with q | q
     ·exact HN.out j q e
     ·obtain rfl:j=k:=by omega
      rw[←HY.out] at e
      rw[e] at t
      simp at t
    go_wp2_with fail
    refine⟨⟨k+1,⟨c,HN2,trivial⟩,by go_num⟩,?_⟩
    simp[intOf]
    omega
   ·have HE:Hid (X = .tuple #[.int .i64 k,.bool true]):=by
     have h:=HH.out.1 k c HN.out (by rw[←HY.out];exact bytes_eq y s (by simpa using t))
     show _=_
     rw[HX.out,h,show max (k:Int) 0=k by omega,show decide (0≤(k:Int))=true by simp]
    go_wp2_with fail
    go_ret2
    rw[HE.out]
    exact⟨rfl,HS.out.2⟩
  ·have HE:Hid (X = .tuple #[.int .i64 0,.bool false]):=by
    have h:=HH.out.2 (fun j hj=>HN.out j (by omega))
    show _=_
    rw[HX.out,h]
    rfl
   have hk:¬(k:Int)<14:=by omega
   go_wp2_with fail
   go_ret2
   rw[HE.out]
   exact⟨rfl,HS.out.2⟩
end Go.Proofs.YtihmdcdifakepaaGreat.Sc
namespace Go.Proofs.YtihmdcdifakepaaGreat.Sc
open Go.RowKit Go.Shelf
attribute [local go_sem] Oper.semAt_some
theorem back_in (F:Fence)(n:Nat)(h91:F.fn 98)(hro:F.round=none)(a:Option Addr)(len cap:Nat)(w:World) :
  CallsIn F n Tryz.prog 98 #[.slice a len cap] w fun e w'=>e = .returned (.func (.func 103) #[] #[.pointer (some ⟨w.heap.size,0,none⟩)])∧w'=w.alloc (.cells #[.slice a len cap] 40):=by
 refine callsIn_of_wp Tryz.func98 rfl h91 ?_ hro
 simp only[Tryz.ntmps98,List.size_toArray,List.length_cons,List.length_nil,Nat.reduceAdd,Nat.reduceSub,Array.replicate_succ,Array.replicate_zero,List.push_toArray,List.append_toArray,List.nil_append,List.cons_append]
 gi_wp2
 go_ret
 exact⟨rfl,rfl⟩
attribute [local go_sem] Oper.semAt_some
theorem zero3 (w:World):(zeroValue 3).run Tryz.prog w = .ok (.int .i64 0) w:=by
 kernel_rfl
end Go.Proofs.YtihmdcdifakepaaGreat.Sc
namespace Go.Proofs.YtihmdcdifakepaaGreat.Rv
open Go.RowKit Go.Shelf Go.Proofs.YtihmdcdifakepaaGreat.Sc Go.Proofs.YtihmdcdifakepaaGreat.Rz
attribute [local go_sem] Oper.semAt_some
def revT (k m:Nat):List (Fin k):=((List.finRange k).drop m).reverse
theorem revT_all (k:Nat):revT k k=[]:=by unfold revT;rw[List.drop_eq_nil_of_le (by simp)];rfl
theorem revT_next (k m:Nat)(h:m<k):revT k m=revT k (m+1)++[⟨m,h⟩]:=by
 unfold revT
 rw[List.drop_eq_getElem_cons (by simpa using h),List.reverse_cons]
 congr 2
 simp
theorem revT_len (k m:Nat):(revT k m).length=k - m:=by unfold revT;simp
def encB {ms:List (Option Nat)}(x:Fin ms.length):Array Value:=#[.int .i64 ((x.val:Nat):Int),.map ms[x.val]]
theorem backn_in (F:Fence)(n:Nat)(h95:F.fn 103)(hro:F.round=none)(hn:1≤n)(l Bs n₀ b cap:Nat)(ms:List (Option Nat))(hb:ms≠[]→b<n₀)(hBl:Bs<n₀)(hcm:ms.length≤cap∧cap≤maxLen)(J Jx:List (Fin ms.length)→World→Prop)
  (hY:∀pre x W,J pre W→pre.length<ms.length→YieldAt F (n - 1) Tryz.prog l (encB x) W fun e W' =>
   (e = .returned (.bool true)∧J (pre++[x]) W'∧Below n₀ W W')∨(e = .returned (.bool false)∧Jx (pre++[x]) W'))
  (ad:Option Addr) (W:World) (hBs:W.cell? ⟨Bs,0,none⟩=some (.slice ad ms.length cap)) (had:ms≠[]→ad=some ⟨b,0,none⟩) (hc:∀(i:Nat) (m:Option Nat),ms[i]?=some m→W.cell? ⟨b,i,none⟩=some (.map m)) (h0:J [] W) :
  CallsIn F n Tryz.prog 103 #[.func (.yield l) #[] #[],.pointer (some ⟨Bs,0,none⟩)] W fun e W'=>(∃v,e = .returned v)∧((∃xs,xs=revT ms.length 0∧J xs W')∨∃pre,(∃m,m<ms.length∧pre=revT ms.length m)∧Jx pre W'):=by
 refine callsIn_of_wp Tryz.func103 rfl h95 ?_ hro
 have hlim:(ms.length:Int)≤9223372036854775807:=by have:=hcm.2;unfold maxLen at this;omega
 have HC:Hid (∀wr,Below n₀ W wr→wr.cell? ⟨Bs,0,none⟩=some (.slice ad ms.length cap)∧∀(i:Nat) (m:Option Nat),ms[i]?=some m→wr.cell? ⟨b,i,none⟩=some (.map m)):=fun wr hw=>⟨(hw.cell (p:=⟨Bs,0,none⟩) hBl).trans hBs,fun i m q=>(hw.cell (p:=⟨b,i,none⟩) (hb (fun e=>by rw[e] at q;simp at q))).trans (hc i m q)⟩
 have HAD:=(show Hid _ from had)
 have HY:=(show Hid _ from hY)
 clear hc had hY hcm hb
 simp only[Tryz.ntmps103,List.size_toArray,List.length_cons,List.length_nil,Nat.reduceAdd,Nat.reduceSub,Array.replicate_succ,Array.replicate_zero,List.push_toArray,List.append_toArray,List.nil_append,List.cons_append]
 gi_wp2
 gi_loopw [3] (fun i wr=>∃m:Nat,m≤ms.length∧i = .int .i64 ((m:Int) - 1)∧J (revT ms.length m) wr∧Below n₀ W wr) (fun i _=>(intOf i+1).toNat)
 case atStart=>exact⟨ms.length,Nat.le_refl _,rfl,by rw[revT_all];exact h0,Below.refl _ _⟩
 case round =>
  obtain⟨m,hm,rfl,hJ,hB⟩:=hrel
  cases m with
  | zero =>
    have HJ:Hid (J (revT ms.length 0) wr):=hJ
    clear hJ HC HAD HY hBs
    simp only[Int.natCast_zero,Int.zero_sub]
    gi_wp2
    go_end0
    exact⟨⟨_,rfl⟩,.inl ⟨_,rfl,HJ.out⟩⟩
  | succ m =>
    have hml:m<ms.length:=by omega
    have e1:((m+1:Nat):Int) - 1=(m:Int):=by omega
    rw[e1]
    obtain rfl:=HAD.out (fun e=>by rw[e] at hml;simp at hml)
    obtain⟨x1,x2⟩:=HC.out wr hB
    have x3:=x2 m _ (List.getElem?_eq_getElem hml)
    have hmi:(m:Int)<ms.length:=by omega
    obtain⟨fn,tmps,assign,body,hy,hR⟩:=HY.out (revT ms.length (m+1)) ⟨m,hml⟩ wr hJ (by rw[revT_len];omega)
    unfold encB at hy
    have HB:Hid (Below n₀ W wr):=hB
    have HN:Hid (revT ms.length m=revT ms.length (m+1)++[⟨m,hml⟩]):=revT_next _ m hml
    clear x2 hJ hB HC HAD HY e1 hBs
    gi_wp2
    refine hR.mono ?_
    rintro e W3 (⟨rfl,hJ3,hk3⟩ | ⟨rfl,hJx3⟩)
    ·have HJ3:Hid (J (revT ms.length m) W3∧Below n₀ W W3):=⟨by rw[HN.out];exact hJ3,HB.out.trans hk3⟩
     clear hJ3 hk3
     gi_wp2
     go_roundw
     case rel=>exact⟨m,by omega,by rfl,HJ3.out.1,HJ3.out.2⟩
     case measure=>simp[intOf]
    ·have HJ3:Hid (Jx (revT ms.length m) W3):=by show Jx _ _;rw[HN.out];exact hJx3
     clear hJx3
     gi_wp2
     refine bodyPost_ret (results_none rfl _ _ _) rfl ?_
     exact⟨⟨_,rfl⟩,.inr ⟨_,⟨m,hml,rfl⟩,HJ3.out⟩⟩
end Go.Proofs.YtihmdcdifakepaaGreat.Rv
