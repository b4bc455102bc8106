/- WM -/
import Derived.Test.YtihmdcdifakepaaGreatWL
set_option linter.unusedVariables false
set_option linter.unusedSimpArgs false
set_option maxRecDepth 100000
set_option maxHeartbeats 40000000
namespace Go.Proofs.YtihmdcdifakepaaGreat.Sc
open Go.RowKit
theorem term_name {B pb:Nat}{W0:World}{n:Nat}(H:KidsRC B pb W0 n)(hB:B=W0.heap.size)(pl num:Int)(name op:ByteArray)(ad:Option Addr)(cap:Nat)(xs:List (Tr n))(gen:Bool)(hsl:Sli.ok (encT n) 6 W0 ⟨ad,cap,xs⟩)(hk:∀y∈xs,okT n W0 y)(hcond:(shapeR (⟨3,pl,name,num,op⟩:Nd)).2.2=true∧¬(xs.length:Int)<(shapeR (⟨3,pl,name,num,op⟩:Nd)).1∧¬(0≤(shapeR (⟨3,pl,name,num,op⟩:Nd)).2.1∧(shapeR (⟨3,pl,name,num,op⟩:Nd)).2.1<(xs.length:Int)))
  (w:World) (vU vV:Value) (s:St) (m:Nat) (hb:Below B W0 w) (hp:PlAt B pb w (some s) m vU vV) (hm:m+(1+szL xs)≤1000000) (hl:xs.length≤2 ^ 63 - 1) :
  Calls Tryz.prog 32 #[.pointer (some ⟨pb,0,none⟩),.agg #[.int .i64 3,.int .i64 pl,.string name,.int .u64 num,.string op,.slice ad xs.length cap],.bool gen] w fun e w'=>e = .returned (.tuple #[])∧∃vU' vV',PlAt B pb w' (foldR (termKidR (semR n) ⟨3,pl,name,num,op⟩ gen) xs (useR pl (some s))) (m+(1+szL xs)) vU' vV'∧Stp pb w vU vV w' vU' vV'∧Below B W0 w':=by
 have HH:Hid (KidsRC B pb W0 n):=H
 have HBE:Hid (B=W0.heap.size):=hB
 have HS:Hid (Sli.ok (encT n) 6 W0 ⟨ad,cap,xs⟩∧∀y∈xs,okT n W0 y):=⟨hsl,hk⟩
 have HM:Hid (m+(1+szL xs)≤1000000):=hm
 have HB:Hid (Below B W0 w∧PlAt B pb w (some s) m vU vV):=⟨hb,hp⟩
 clear hb hp H hB hm hsl hk
 obtain⟨wb,hwb⟩:∃wb,wb=w.alloc (.cells #[.int .i64 3,.int .i64 pl,.string name,.int .u64 num,.string op,.slice ad xs.length cap] 25):=⟨_,rfl⟩
 have FR:Hid (Fr B pb W0 w vU vV w.heap.size #[.int .i64 3,.int .i64 pl,.string name,.int .u64 num,.string op,.slice ad xs.length cap] wb vU vV (some s) m):=by rw[hwb];exact Fr.start HB.out.1 HB.out.2 _ _
 obtain⟨b0,b1,b2,b3,b4,b5⟩:=six FR.out.box
 obtain⟨c2,f2⟩:=FR.out.pl.bad
 simp only[Option.isNone_some] at c2
 have hsh:=shape_any (⟨3,pl,name,num,op⟩:Nd) ad xs.length cap wb
 simp only at hsh
 obtain⟨lo,hlo⟩:∃lo,lo=(shapeR (⟨3,pl,name,num,op⟩:Nd)).1:=⟨_,rfl⟩
 obtain⟨hi,hhi⟩:∃hi,hi=(shapeR (⟨3,pl,name,num,op⟩:Nd)).2.1:=⟨_,rfl⟩
 obtain⟨okk,hokk⟩:∃okk,okk=(shapeR (⟨3,pl,name,num,op⟩:Nd)).2.2:=⟨_,rfl⟩
 unfold ShPost at hsh
 rw[←hlo,←hhi,←hokk] at hsh
 rw[←hlo,←hhi,←hokk] at hcond
 clear hlo hhi hokk
 obtain⟨hok1,hok2,hok3⟩:=hcond
 subst hok1
 go_enter Tryz.func32,Tryz.ntmps32
 go_upto_region 1 with fail
 rw[←hwb]
 clear hwb
 go_wp2_with fail
 refine hsh.mono ?_
 rintro e w2 ⟨sb,zs,rfl,hstr,hany,hzl,hbel⟩
 have FR2:Hid (Fr B pb W0 w vU vV w.heap.size #[.int .i64 3,.int .i64 pl,.string name,.int .u64 num,.string op,.slice ad xs.length cap] w2 vU vV (some s) m):=FR.out.new hbel
 obtain⟨b0',b1',b2',b3',b4',b5'⟩:=six FR2.out.box
 obtain⟨g2,h2⟩:=FR2.out.pl.bad
 simp only[Option.isNone_some] at g2
 have ham:=among_any op (some ⟨sb,0,none⟩) zs.length zs w2 hstr hzl
 rw[hany] at ham
 clear hsh hstr hany hbel b0 b1 b2 b3 b4 b5 c2 f2
 go_wp2_with fail
 refine ham.mono ?_
 rintro e w3 ⟨rfl,rfl⟩
 clear ham
 go_upto_region 8 with fail
 go_cut [58] from 39 to 58 (fun c wx=>c = .bool false∧wx=w3)
 case first =>
  have hok4:decide ((xs.length:Int)<lo)=false:=by simpa using hok2
  by_cases q:0≤hi
  ·have q2:¬hi<(xs.length:Int):=fun z=>hok3 ⟨q,z⟩
   go_wp2_with fail
   go_meet
   exact⟨rfl,rfl⟩
  ·have q3:decide (0≤hi)=false:=by simpa using q
   go_wp2_with fail
   go_meet
   exact⟨rfl,rfl⟩
 case rest =>
  obtain⟨rfl,rfl⟩:=hcut
  clear hok2 hok3
  have hu:=used_rc B pb W0 pl wc vU vV (some s) m FR2.out.bel FR2.out.pl (by have:=HM.out;omega)
  go_wp2_with fail
  refine hu.mono ?_
  rintro e w5 ⟨rfl,vU5,vV5,p5,s5,q5⟩
  have FR5:Hid (Fr B pb W0 w vU vV w.heap.size #[.int .i64 3,.int .i64 pl,.string name,.int .u64 num,.string op,.slice ad xs.length cap] w5 vU5 vV5 (useR pl (some s)) (m+1)):=FR2.out.call p5 s5 q5
  have b0'':w5.cell? ⟨w.heap.size,0,none⟩=some (.int .i64 3):=FR5.out.box 0 _ rfl
  have HI:Hid (TmAt B pb W0 w vU vV #[.int .i64 3,.int .i64 pl,.string name,.int .u64 num,.string op,.slice ad xs.length cap] (termKidR (semR n) (⟨3,pl,name,num,op⟩:Nd) gen) xs (useR pl (some s)) m 0 w5 vU5 vV5 (useR pl (some s)) (m+1)):=⟨Nat.zero_le _,rfl,FR5.out,by simp only[List.drop_zero];omega⟩
  clear p5 s5 q5 hu
  go_wp2_with fail
  go_loopw [10] (fun i wr=>∃(k:Nat) (vU' vV':Value) (st':RS) (m':Nat),TmAt B pb W0 w vU vV #[.int .i64 3,.int .i64 pl,.string name,.int .u64 num,.string op,.slice ad xs.length cap] (termKidR (semR n) (⟨3,pl,name,num,op⟩:Nd) gen) xs (useR pl (some s)) m k wr vU' vV' st' m'∧i = .int .i64 k) (fun i wr=>xs.length - (intOf i).toNat)
  case atStart=>exact⟨0,_,_,_,_,HI.out,rfl⟩
  case round =>
   obtain⟨k,vU1,vV1,st1,m1,hr,rfl⟩:=hrel
   have ple:=hr.le
   have HR:Hid (TmAt B pb W0 w vU vV #[.int .i64 3,.int .i64 pl,.string name,.int .u64 num,.string op,.slice ad xs.length cap] (termKidR (semR n) (⟨3,pl,name,num,op⟩:Nd) gen) xs (useR pl (some s)) m k wr vU1 vV1 st1 m1):=hr
   have d0:wr.cell? ⟨w.heap.size,0,none⟩=some (.int .i64 3):=hr.fr.box 0 _ rfl
   have d5:wr.cell? ⟨w.heap.size,5,none⟩=some (.slice ad xs.length cap):=hr.fr.box 5 _ rfl
   clear hr
   rcases Nat.lt_or_ge k xs.length with c | c
   ·obtain⟨y,hy,hd⟩:=kid_get c
    obtain⟨b,off,e1,hlie⟩:=kids_lie HS.out.1 (by intro e;simp only at e;rw[e] at c;simp at c)
    simp only at e1 hlie
    subst e1
    obtain⟨y0,y1,y2,y3,y4,y5⟩:=hlie k y hy B wr HBE.out HR.out.fr.bel
    have HY:Hid (xs.drop k=y :: xs.drop (k+1)∧okT n W0 y):=⟨hd,HS.out.2 y (List.mem_of_getElem? hy)⟩
    clear hy hd hlie
    obtain⟨wk,hwk⟩:∃wk,wk=wr.alloc (.cells #[.int .i64 (ndT n y).kind,.int .i64 (ndT n y).pl,.string (ndT n y).name,.int .u64 (ndT n y).num,.string (ndT n y).op,.slice (atT n y) (nkT n y) (capT n y)] 25):=⟨_,rfl⟩
    have hbl:Below wr.heap.size wr wk:=by rw[hwk];exact(Below.refl _ _).alloc (Nat.le_refl _) _
    have FC:Hid (Fr B pb W0 w vU vV w.heap.size #[.int .i64 3,.int .i64 pl,.string name,.int .u64 num,.string op,.slice (some ⟨b,off,none⟩) xs.length cap] wk vU1 vV1 st1 m1):=HR.out.fr.new hbl
    have e0:wk.cell? ⟨w.heap.size,0,none⟩=some (.int .i64 3):=FC.out.box 0 _ rfl
    obtain⟨x0,x1,x2,x3,x4,x5⟩:=six_new hwk
    have hc:=HH.out.term y gen HY.out.2 wk vU1 vV1 st1 m1 FC.out.bel FC.out.pl (by have h1:=HR.out.bud;have:=HM.out;rw[HY.out.1,szL_cons] at h1;omega)
    have HG:Hid (semR n 0 y gen st1=termKidR (semR n) (⟨3,pl,name,num,op⟩:Nd) gen y st1):=by show _=(if _ then _ else _);rw[if_neg (by simp),if_neg (by simp)]
    clear hbl
    go_upto_region 20 with fail
    rw[←hwk]
    clear hwk
    go_wp2_with fail
    refine hc.mono ?_
    rintro e w4 ⟨rfl,vU4,vV4,p4,s4,q4⟩
    have HX:Hid (TmAt B pb W0 w vU vV #[.int .i64 3,.int .i64 pl,.string name,.int .u64 num,.string op,.slice (some ⟨b,off,none⟩) xs.length cap] (termKidR (semR n) (⟨3,pl,name,num,op⟩:Nd) gen) xs (useR pl (some s)) m (k+1) w4 vU4 vV4 (termKidR (semR n) (⟨3,pl,name,num,op⟩:Nd) gen y st1) (m1+szT n y)) :=
     HR.out.next HY.out.1 c (by rw[←HG.out];exact FC.out.call p4 s4 q4) (Nat.le_refl _)
    clear p4 s4 q4 hc
    go_wp2_with fail
    refine⟨⟨k+1,_,_,_,_,HX.out,by go_num⟩,?_⟩
    simp[intOf]
    omega
   ·have HE:Hid (foldR (termKidR (semR n) (⟨3,pl,name,num,op⟩:Nd) gen) xs (useR pl (some s))=st1):=by
     show _=_
     rw[HR.out.val,List.drop_of_length_le c]
     rfl
    go_wp2_with fail
    go_end0
    rw[HE.out]
    exact⟨rfl,HR.out.fr.done rfl (by have:=HR.out.bud;omega)⟩
theorem term_yieldyes {B pb:Nat}{W0:World}{n:Nat}(H:KidsRC B pb W0 n)(hB:B=W0.heap.size)(pl num:Int)(name op:ByteArray)(ad:Option Addr)(cap:Nat)(xs:List (Tr n))(gen:Bool)(hsl:Sli.ok (encT n) 6 W0 ⟨ad,cap,xs⟩)(hk:∀y∈xs,okT n W0 y)(hcond:(shapeR (⟨22,pl,name,num,op⟩:Nd)).2.2=true∧¬(xs.length:Int)<(shapeR (⟨22,pl,name,num,op⟩:Nd)).1∧¬(0≤(shapeR (⟨22,pl,name,num,op⟩:Nd)).2.1∧(shapeR (⟨22,pl,name,num,op⟩:Nd)).2.1<(xs.length:Int)))(hg:gen=true)
  (w:World) (vU vV:Value) (s:St) (m:Nat) (hb:Below B W0 w) (hp:PlAt B pb w (some s) m vU vV) (hm:m+(1+szL xs)≤1000000) (hl:xs.length≤2 ^ 63 - 1) :
  Calls Tryz.prog 32 #[.pointer (some ⟨pb,0,none⟩),.agg #[.int .i64 22,.int .i64 pl,.string name,.int .u64 num,.string op,.slice ad xs.length cap],.bool gen] w fun e w'=>e = .returned (.tuple #[])∧∃vU' vV',PlAt B pb w' (foldR (termKidR (semR n) ⟨22,pl,name,num,op⟩ gen) xs (some s)) (m+(1+szL xs)) vU' vV'∧Stp pb w vU vV w' vU' vV'∧Below B W0 w':=by
 have HH:Hid (KidsRC B pb W0 n):=H
 have HBE:Hid (B=W0.heap.size):=hB
 have HS:Hid (Sli.ok (encT n) 6 W0 ⟨ad,cap,xs⟩∧∀y∈xs,okT n W0 y):=⟨hsl,hk⟩
 have HM:Hid (m+(1+szL xs)≤1000000):=hm
 have HB:Hid (Below B W0 w∧PlAt B pb w (some s) m vU vV):=⟨hb,hp⟩
 clear hb hp H hB hm hsl hk
 obtain⟨wb,hwb⟩:∃wb,wb=w.alloc (.cells #[.int .i64 22,.int .i64 pl,.string name,.int .u64 num,.string op,.slice ad xs.length cap] 25):=⟨_,rfl⟩
 have FR:Hid (Fr B pb W0 w vU vV w.heap.size #[.int .i64 22,.int .i64 pl,.string name,.int .u64 num,.string op,.slice ad xs.length cap] wb vU vV (some s) m):=by rw[hwb];exact Fr.start HB.out.1 HB.out.2 _ _
 obtain⟨b0,b1,b2,b3,b4,b5⟩:=six FR.out.box
 obtain⟨c2,f2⟩:=FR.out.pl.bad
 simp only[Option.isNone_some] at c2
 subst hg
 have hsh:=shape_any (⟨22,pl,name,num,op⟩:Nd) ad xs.length cap wb
 simp only at hsh
 obtain⟨lo,hlo⟩:∃lo,lo=(shapeR (⟨22,pl,name,num,op⟩:Nd)).1:=⟨_,rfl⟩
 obtain⟨hi,hhi⟩:∃hi,hi=(shapeR (⟨22,pl,name,num,op⟩:Nd)).2.1:=⟨_,rfl⟩
 obtain⟨okk,hokk⟩:∃okk,okk=(shapeR (⟨22,pl,name,num,op⟩:Nd)).2.2:=⟨_,rfl⟩
 unfold ShPost at hsh
 rw[←hlo,←hhi,←hokk] at hsh
 rw[←hlo,←hhi,←hokk] at hcond
 clear hlo hhi hokk
 obtain⟨hok1,hok2,hok3⟩:=hcond
 subst hok1
 go_enter Tryz.func32,Tryz.ntmps32
 go_upto_region 1 with fail
 rw[←hwb]
 clear hwb
 go_wp2_with fail
 refine hsh.mono ?_
 rintro e w2 ⟨sb,zs,rfl,hstr,hany,hzl,hbel⟩
 have FR2:Hid (Fr B pb W0 w vU vV w.heap.size #[.int .i64 22,.int .i64 pl,.string name,.int .u64 num,.string op,.slice ad xs.length cap] w2 vU vV (some s) m):=FR.out.new hbel
 obtain⟨b0',b1',b2',b3',b4',b5'⟩:=six FR2.out.box
 obtain⟨g2,h2⟩:=FR2.out.pl.bad
 simp only[Option.isNone_some] at g2
 have ham:=among_any op (some ⟨sb,0,none⟩) zs.length zs w2 hstr hzl
 rw[hany] at ham
 clear hsh hstr hany hbel b0 b1 b2 b3 b4 b5 c2 f2
 go_wp2_with fail
 refine ham.mono ?_
 rintro e w3 ⟨rfl,rfl⟩
 clear ham
 go_upto_region 8 with fail
 go_cut [58] from 39 to 58 (fun c wx=>c = .bool false∧wx=w3)
 case first =>
  have hok4:decide ((xs.length:Int)<lo)=false:=by simpa using hok2
  by_cases q:0≤hi
  ·have q2:¬hi<(xs.length:Int):=fun z=>hok3 ⟨q,z⟩
   go_wp2_with fail
   go_meet
   exact⟨rfl,rfl⟩
  ·have q3:decide (0≤hi)=false:=by simpa using q
   go_wp2_with fail
   go_meet
   exact⟨rfl,rfl⟩
 case rest =>
  obtain⟨rfl,rfl⟩:=hcut
  clear hok2 hok3
  have HI:Hid (TmAt B pb W0 w vU vV #[.int .i64 22,.int .i64 pl,.string name,.int .u64 num,.string op,.slice ad xs.length cap] (termKidR (semR n) (⟨22,pl,name,num,op⟩:Nd) true) xs (some s) m 0 wc vU vV (some s) (m)):=⟨Nat.zero_le _,rfl,FR2.out,by simp only[List.drop_zero];omega⟩
  go_wp2_with fail
  go_loopw [10] (fun i wr=>∃(k:Nat) (vU' vV':Value) (st':RS) (m':Nat),TmAt B pb W0 w vU vV #[.int .i64 22,.int .i64 pl,.string name,.int .u64 num,.string op,.slice ad xs.length cap] (termKidR (semR n) (⟨22,pl,name,num,op⟩:Nd) true) xs (some s) m k wr vU' vV' st' m'∧i = .int .i64 k) (fun i wr=>xs.length - (intOf i).toNat)
  case atStart=>exact⟨0,_,_,_,_,HI.out,rfl⟩
  case round =>
   obtain⟨k,vU1,vV1,st1,m1,hr,rfl⟩:=hrel
   have ple:=hr.le
   have HR:Hid (TmAt B pb W0 w vU vV #[.int .i64 22,.int .i64 pl,.string name,.int .u64 num,.string op,.slice ad xs.length cap] (termKidR (semR n) (⟨22,pl,name,num,op⟩:Nd) true) xs (some s) m k wr vU1 vV1 st1 m1):=hr
   have d0:wr.cell? ⟨w.heap.size,0,none⟩=some (.int .i64 22):=hr.fr.box 0 _ rfl
   have d5:wr.cell? ⟨w.heap.size,5,none⟩=some (.slice ad xs.length cap):=hr.fr.box 5 _ rfl
   clear hr
   rcases Nat.lt_or_ge k xs.length with c | c
   ·obtain⟨y,hy,hd⟩:=kid_get c
    obtain⟨b,off,e1,hlie⟩:=kids_lie HS.out.1 (by intro e;simp only at e;rw[e] at c;simp at c)
    simp only at e1 hlie
    subst e1
    obtain⟨y0,y1,y2,y3,y4,y5⟩:=hlie k y hy B wr HBE.out HR.out.fr.bel
    have HY:Hid (xs.drop k=y :: xs.drop (k+1)∧okT n W0 y):=⟨hd,HS.out.2 y (List.mem_of_getElem? hy)⟩
    clear hy hd hlie
    obtain⟨wk,hwk⟩:∃wk,wk=wr.alloc (.cells #[.int .i64 (ndT n y).kind,.int .i64 (ndT n y).pl,.string (ndT n y).name,.int .u64 (ndT n y).num,.string (ndT n y).op,.slice (atT n y) (nkT n y) (capT n y)] 25):=⟨_,rfl⟩
    have hbl:Below wr.heap.size wr wk:=by rw[hwk];exact(Below.refl _ _).alloc (Nat.le_refl _) _
    have FC:Hid (Fr B pb W0 w vU vV w.heap.size #[.int .i64 22,.int .i64 pl,.string name,.int .u64 num,.string op,.slice (some ⟨b,off,none⟩) xs.length cap] wk vU1 vV1 st1 m1):=HR.out.fr.new hbl
    have e0:wk.cell? ⟨w.heap.size,0,none⟩=some (.int .i64 22):=FC.out.box 0 _ rfl
    obtain⟨x0,x1,x2,x3,x4,x5⟩:=six_new hwk
    have hc:=HH.out.perh y true HY.out.2 wk vU1 vV1 st1 m1 FC.out.bel FC.out.pl (by have h1:=HR.out.bud;have:=HM.out;rw[HY.out.1,szL_cons] at h1;omega)
    have HG:Hid (semR n 1 y true st1=termKidR (semR n) (⟨22,pl,name,num,op⟩:Nd) true y st1):=by show _=(if _ then _ else _);rw[if_neg (by simp),if_pos rfl]
    clear hbl
    go_upto_region 20 with fail
    rw[←hwk]
    clear hwk
    go_wp2_with fail
    refine hc.mono ?_
    rintro e w4 ⟨rfl,vU4,vV4,p4,s4,q4⟩
    have HX:Hid (TmAt B pb W0 w vU vV #[.int .i64 22,.int .i64 pl,.string name,.int .u64 num,.string op,.slice (some ⟨b,off,none⟩) xs.length cap] (termKidR (semR n) (⟨22,pl,name,num,op⟩:Nd) true) xs (some s) m (k+1) w4 vU4 vV4 (termKidR (semR n) (⟨22,pl,name,num,op⟩:Nd) true y st1) (m1+szT n y)) :=
     HR.out.next HY.out.1 c (by rw[←HG.out];exact FC.out.call p4 s4 q4) (Nat.le_refl _)
    clear p4 s4 q4 hc
    go_wp2_with fail
    refine⟨⟨k+1,_,_,_,_,HX.out,by go_num⟩,?_⟩
    simp[intOf]
    omega
   ·have HE:Hid (foldR (termKidR (semR n) (⟨22,pl,name,num,op⟩:Nd) true) xs (some s)=st1):=by
     show _=_
     rw[HR.out.val,List.drop_of_length_le c]
     rfl
    go_wp2_with fail
    go_end0
    rw[HE.out]
    exact⟨rfl,HR.out.fr.done rfl (by have:=HR.out.bud;omega)⟩
theorem term_yieldno {B pb:Nat}{W0:World}{n:Nat}(H:KidsRC B pb W0 n)(hB:B=W0.heap.size)(pl num:Int)(name op:ByteArray)(ad:Option Addr)(cap:Nat)(xs:List (Tr n))(gen:Bool)(hsl:Sli.ok (encT n) 6 W0 ⟨ad,cap,xs⟩)(hk:∀y∈xs,okT n W0 y)(hcond:(shapeR (⟨22,pl,name,num,op⟩:Nd)).2.2=true∧¬(xs.length:Int)<(shapeR (⟨22,pl,name,num,op⟩:Nd)).1∧¬(0≤(shapeR (⟨22,pl,name,num,op⟩:Nd)).2.1∧(shapeR (⟨22,pl,name,num,op⟩:Nd)).2.1<(xs.length:Int)))(hg:gen=false)
  (w:World) (vU vV:Value) (s:St) (m:Nat) (hb:Below B W0 w) (hp:PlAt B pb w (some s) m vU vV) (hm:m+(1+szL xs)≤1000000) (hl:xs.length≤2 ^ 63 - 1) :
  Calls Tryz.prog 32 #[.pointer (some ⟨pb,0,none⟩),.agg #[.int .i64 22,.int .i64 pl,.string name,.int .u64 num,.string op,.slice ad xs.length cap],.bool gen] w fun e w'=>e = .returned (.tuple #[])∧∃vU' vV',PlAt B pb w' (foldR (termKidR (semR n) ⟨22,pl,name,num,op⟩ gen) xs (none)) (m+(1+szL xs)) vU' vV'∧Stp pb w vU vV w' vU' vV'∧Below B W0 w':=by
 have HH:Hid (KidsRC B pb W0 n):=H
 have HBE:Hid (B=W0.heap.size):=hB
 have HS:Hid (Sli.ok (encT n) 6 W0 ⟨ad,cap,xs⟩∧∀y∈xs,okT n W0 y):=⟨hsl,hk⟩
 have HM:Hid (m+(1+szL xs)≤1000000):=hm
 have HB:Hid (Below B W0 w∧PlAt B pb w (some s) m vU vV):=⟨hb,hp⟩
 clear hb hp H hB hm hsl hk
 obtain⟨wb,hwb⟩:∃wb,wb=w.alloc (.cells #[.int .i64 22,.int .i64 pl,.string name,.int .u64 num,.string op,.slice ad xs.length cap] 25):=⟨_,rfl⟩
 have FR:Hid (Fr B pb W0 w vU vV w.heap.size #[.int .i64 22,.int .i64 pl,.string name,.int .u64 num,.string op,.slice ad xs.length cap] wb vU vV (some s) m):=by rw[hwb];exact Fr.start HB.out.1 HB.out.2 _ _
 obtain⟨b0,b1,b2,b3,b4,b5⟩:=six FR.out.box
 obtain⟨c2,f2⟩:=FR.out.pl.bad
 simp only[Option.isNone_some] at c2
 subst hg
 have hsh:=shape_any (⟨22,pl,name,num,op⟩:Nd) ad xs.length cap wb
 simp only at hsh
 obtain⟨lo,hlo⟩:∃lo,lo=(shapeR (⟨22,pl,name,num,op⟩:Nd)).1:=⟨_,rfl⟩
 obtain⟨hi,hhi⟩:∃hi,hi=(shapeR (⟨22,pl,name,num,op⟩:Nd)).2.1:=⟨_,rfl⟩
 obtain⟨okk,hokk⟩:∃okk,okk=(shapeR (⟨22,pl,name,num,op⟩:Nd)).2.2:=⟨_,rfl⟩
 unfold ShPost at hsh
 rw[←hlo,←hhi,←hokk] at hsh
 rw[←hlo,←hhi,←hokk] at hcond
 clear hlo hhi hokk
 obtain⟨hok1,hok2,hok3⟩:=hcond
 subst hok1
 go_enter Tryz.func32,Tryz.ntmps32
 go_upto_region 1 with fail
 rw[←hwb]
 clear hwb
 go_wp2_with fail
 refine hsh.mono ?_
 rintro e w2 ⟨sb,zs,rfl,hstr,hany,hzl,hbel⟩
 have FR2:Hid (Fr B pb W0 w vU vV w.heap.size #[.int .i64 22,.int .i64 pl,.string name,.int .u64 num,.string op,.slice ad xs.length cap] w2 vU vV (some s) m):=FR.out.new hbel
 obtain⟨b0',b1',b2',b3',b4',b5'⟩:=six FR2.out.box
 obtain⟨g2,h2⟩:=FR2.out.pl.bad
 simp only[Option.isNone_some] at g2
 have ham:=among_any op (some ⟨sb,0,none⟩) zs.length zs w2 hstr hzl
 rw[hany] at ham
 clear hsh hstr hany hbel b0 b1 b2 b3 b4 b5 c2 f2
 go_wp2_with fail
 refine ham.mono ?_
 rintro e w3 ⟨rfl,rfl⟩
 clear ham
 go_upto_region 8 with fail
 go_cut [58] from 39 to 58 (fun c wx=>c = .bool false∧wx=w3)
 case first =>
  have hok4:decide ((xs.length:Int)<lo)=false:=by simpa using hok2
  by_cases q:0≤hi
  ·have q2:¬hi<(xs.length:Int):=fun z=>hok3 ⟨q,z⟩
   go_wp2_with fail
   go_meet
   exact⟨rfl,rfl⟩
  ·have q3:decide (0≤hi)=false:=by simpa using q
   go_wp2_with fail
   go_meet
   exact⟨rfl,rfl⟩
 case rest =>
  obtain⟨rfl,rfl⟩:=hcut
  clear hok2 hok3
  have HI:Hid (TmAt B pb W0 w vU vV #[.int .i64 22,.int .i64 pl,.string name,.int .u64 num,.string op,.slice ad xs.length cap] (termKidR (semR n) (⟨22,pl,name,num,op⟩:Nd) false) xs (none) m 0 (wc.setCell ⟨pb,2,none⟩ (.bool true)) vU vV (none) (m)):=⟨Nat.zero_le _,rfl,FR2.out.spoil,by simp only[List.drop_zero];omega⟩
  go_wp2_with fail
  go_loopw [10] (fun i wr=>∃(k:Nat) (vU' vV':Value) (st':RS) (m':Nat),TmAt B pb W0 w vU vV #[.int .i64 22,.int .i64 pl,.string name,.int .u64 num,.string op,.slice ad xs.length cap] (termKidR (semR n) (⟨22,pl,name,num,op⟩:Nd) false) xs (none) m k wr vU' vV' st' m'∧i = .int .i64 k) (fun i wr=>xs.length - (intOf i).toNat)
  case atStart=>exact⟨0,_,_,_,_,HI.out,rfl⟩
  case round =>
   obtain⟨k,vU1,vV1,st1,m1,hr,rfl⟩:=hrel
   have ple:=hr.le
   have HR:Hid (TmAt B pb W0 w vU vV #[.int .i64 22,.int .i64 pl,.string name,.int .u64 num,.string op,.slice ad xs.length cap] (termKidR (semR n) (⟨22,pl,name,num,op⟩:Nd) false) xs (none) m k wr vU1 vV1 st1 m1):=hr
   have d0:wr.cell? ⟨w.heap.size,0,none⟩=some (.int .i64 22):=hr.fr.box 0 _ rfl
   have d5:wr.cell? ⟨w.heap.size,5,none⟩=some (.slice ad xs.length cap):=hr.fr.box 5 _ rfl
   clear hr
   rcases Nat.lt_or_ge k xs.length with c | c
   ·obtain⟨y,hy,hd⟩:=kid_get c
    obtain⟨b,off,e1,hlie⟩:=kids_lie HS.out.1 (by intro e;simp only at e;rw[e] at c;simp at c)
    simp only at e1 hlie
    subst e1
    obtain⟨y0,y1,y2,y3,y4,y5⟩:=hlie k y hy B wr HBE.out HR.out.fr.bel
    have HY:Hid (xs.drop k=y :: xs.drop (k+1)∧okT n W0 y):=⟨hd,HS.out.2 y (List.mem_of_getElem? hy)⟩
    clear hy hd hlie
    obtain⟨wk,hwk⟩:∃wk,wk=wr.alloc (.cells #[.int .i64 (ndT n y).kind,.int .i64 (ndT n y).pl,.string (ndT n y).name,.int .u64 (ndT n y).num,.string (ndT n y).op,.slice (atT n y) (nkT n y) (capT n y)] 25):=⟨_,rfl⟩
    have hbl:Below wr.heap.size wr wk:=by rw[hwk];exact(Below.refl _ _).alloc (Nat.le_refl _) _
    have FC:Hid (Fr B pb W0 w vU vV w.heap.size #[.int .i64 22,.int .i64 pl,.string name,.int .u64 num,.string op,.slice (some ⟨b,off,none⟩) xs.length cap] wk vU1 vV1 st1 m1):=HR.out.fr.new hbl
    have e0:wk.cell? ⟨w.heap.size,0,none⟩=some (.int .i64 22):=FC.out.box 0 _ rfl
    obtain⟨x0,x1,x2,x3,x4,x5⟩:=six_new hwk
    have hc:=HH.out.perh y false HY.out.2 wk vU1 vV1 st1 m1 FC.out.bel FC.out.pl (by have h1:=HR.out.bud;have:=HM.out;rw[HY.out.1,szL_cons] at h1;omega)
    have HG:Hid (semR n 1 y false st1=termKidR (semR n) (⟨22,pl,name,num,op⟩:Nd) false y st1):=by show _=(if _ then _ else _);rw[if_neg (by simp),if_pos rfl]
    clear hbl
    go_upto_region 20 with fail
    rw[←hwk]
    clear hwk
    go_wp2_with fail
    refine hc.mono ?_
    rintro e w4 ⟨rfl,vU4,vV4,p4,s4,q4⟩
    have HX:Hid (TmAt B pb W0 w vU vV #[.int .i64 22,.int .i64 pl,.string name,.int .u64 num,.string op,.slice (some ⟨b,off,none⟩) xs.length cap] (termKidR (semR n) (⟨22,pl,name,num,op⟩:Nd) false) xs (none) m (k+1) w4 vU4 vV4 (termKidR (semR n) (⟨22,pl,name,num,op⟩:Nd) false y st1) (m1+szT n y)) :=
     HR.out.next HY.out.1 c (by rw[←HG.out];exact FC.out.call p4 s4 q4) (Nat.le_refl _)
    clear p4 s4 q4 hc
    go_wp2_with fail
    refine⟨⟨k+1,_,_,_,_,HX.out,by go_num⟩,?_⟩
    simp[intOf]
    omega
   ·have HE:Hid (foldR (termKidR (semR n) (⟨22,pl,name,num,op⟩:Nd) false) xs (none)=st1):=by
     show _=_
     rw[HR.out.val,List.drop_of_length_le c]
     rfl
    go_wp2_with fail
    go_end0
    rw[HE.out]
    exact⟨rfl,HR.out.fr.done rfl (by have:=HR.out.bud;omega)⟩
end Go.Proofs.YtihmdcdifakepaaGreat.Sc
