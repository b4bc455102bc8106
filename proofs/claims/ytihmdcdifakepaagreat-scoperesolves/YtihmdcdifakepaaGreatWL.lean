/- WL -/
import Derived.Test.YtihmdcdifakepaaGreatB12
import Derived.Deep.CutRange
set_option linter.unusedVariables false
set_option linter.unusedSimpArgs false
set_option maxRecDepth 100000
set_option maxHeartbeats 40000000
namespace Go.Proofs.YtihmdcdifakepaaGreat.Sc
open Go.RowKit
structure TmAt {n:Nat}(B pb:Nat)(W0 w:World)(vU vV:Value)(box:Array Value)(g:Tr n→RS→RS)(xs:List (Tr n))(st0:RS)(m0:Nat)(k:Nat)(wr:World)(vU' vV':Value)(st:RS)(m:Nat):Prop where
 le:k≤xs.length
 val:foldR g xs st0=foldR g (xs.drop k) st
 fr:Fr B pb W0 w vU vV w.heap.size box wr vU' vV' st m
 bud:m+szL (xs.drop k)≤m0+1+szL xs
theorem TmAt.next {n:Nat}{B pb:Nat}{W0 w:World}{vU vV:Value}{box:Array Value}{g:Tr n→RS→RS}{xs:List (Tr n)}{st0:RS}{m0 k:Nat}{wr:World}{vU' vV':Value}{st:RS}{m:Nat}(h:TmAt B pb W0 w vU vV box g xs st0 m0 k wr vU' vV' st m)
  {y:Tr n} (hy:xs.drop k=y :: xs.drop (k+1)) (hk:k<xs.length) {w2:World} {vU2 vV2:Value} {m2:Nat} (hf:Fr B pb W0 w vU vV w.heap.size box w2 vU2 vV2 (g y st) m2) (hm:m2≤m+szT n y) :
  TmAt B pb W0 w vU vV box g xs st0 m0 (k+1) w2 vU2 vV2 (g y st) m2:=by
 refine⟨hk,?_,hf,?_⟩
 ·rw[h.val,hy,foldR]
 ·have:=h.bud
  rw[hy,szL_cons] at this
  omega
theorem kid_get {n:Nat}{xs:List (Tr n)}{k:Nat}(c:k<xs.length):∃y,xs[k]?=some y∧xs.drop k=y :: xs.drop (k+1):=by
 refine⟨xs[k],List.getElem?_eq_getElem c,?_⟩
 rw[List.drop_eq_getElem_cons c]
theorem nk_le {n:Nat}{w:World}{y:Tr n}(h:okT n w y):nkT n y≤2 ^ 63 - 1:=by
 cases n with
 | zero=>exact nomatch (y:Empty)
 | succ n=>obtain⟨x,q⟩:=y;exact Nat.le_trans h.2.1.len h.2.1.cap
theorem term_fn_plain {B pb:Nat}{W0:World}{n:Nat}(H:KidsRC B pb W0 n)(hB:B=W0.heap.size)(pl num:Int)(name op:ByteArray)(ad:Option Addr)(cap:Nat)(xs:List (Tr n))(gen:Bool)(hsl:Sli.ok (encT n) 6 W0 ⟨ad,cap,xs⟩)(hk:∀y∈xs,okT n W0 y)(hn:isS name []=true)(hf:RC B pb W0 31 #[.pointer (some ⟨pb,0,none⟩),.agg #[.int .i64 12,.int .i64 pl,.string name,.int .u64 num,.string op,.slice ad xs.length cap]] (functR (kidT n) (semR n) ⟨12,pl,name,num,op⟩ xs) (szL xs))
  (w:World) (vU vV:Value) (s:St) (m:Nat) (hb:Below B W0 w) (hp:PlAt B pb w (some s) m vU vV) (hm:m+(1+szL xs)≤1000000) (hl:xs.length≤2 ^ 63 - 1) :
  Calls Tryz.prog 32 #[.pointer (some ⟨pb,0,none⟩),.agg #[.int .i64 12,.int .i64 pl,.string name,.int .u64 num,.string op,.slice ad xs.length cap],.bool gen] w fun e w'=>e = .returned (.tuple #[])∧∃vU' vV',PlAt B pb w' (functR (kidT n) (semR n) ⟨12,pl,name,num,op⟩ xs (some s)) (m+(1+szL xs)) vU' vV'∧Stp pb w vU vV w' vU' vV'∧Below B W0 w':=by
 have HH:Hid (KidsRC B pb W0 n):=H
 have HBE:Hid (B=W0.heap.size):=hB
 have HS:Hid (Sli.ok (encT n) 6 W0 ⟨ad,cap,xs⟩∧∀y∈xs,okT n W0 y):=⟨hsl,hk⟩
 have HM:Hid (m+(1+szL xs)≤1000000):=hm
 have HB:Hid (Below B W0 w∧PlAt B pb w (some s) m vU vV):=⟨hb,hp⟩
 clear hb hp H hB hm hsl hk
 obtain⟨wb,hwb⟩:∃wb,wb=w.alloc (.cells #[.int .i64 12,.int .i64 pl,.string name,.int .u64 num,.string op,.slice ad xs.length cap] 25):=⟨_,rfl⟩
 have FR:Hid (Fr B pb W0 w vU vV w.heap.size #[.int .i64 12,.int .i64 pl,.string name,.int .u64 num,.string op,.slice ad xs.length cap] wb vU vV (some s) m):=by rw[hwb];exact Fr.start HB.out.1 HB.out.2 _ _
 obtain⟨b0,b1,b2,b3,b4,b5⟩:=six FR.out.box
 obtain⟨c2,f2⟩:=FR.out.pl.bad
 simp only[Option.isNone_some] at c2
 unfold isS at hn
 have hc:=hf wb vU vV (some s) m FR.out.bel FR.out.pl (by have:=HM.out;omega)
 clear hf
 go_enter Tryz.func32,Tryz.ntmps32
 go_upto_region 1 with fail
 rw[←hwb]
 clear hwb
 go_wp2_with fail
 refine hc.mono ?_
 rintro e w2 ⟨rfl,vU2,vV2,p2,s2,q2⟩
 have FR2:Hid (Fr B pb W0 w vU vV w.heap.size #[.int .i64 12,.int .i64 pl,.string name,.int .u64 num,.string op,.slice ad xs.length cap] w2 vU2 vV2 (functR (kidT n) (semR n) ⟨12,pl,name,num,op⟩ xs (some s)) (m+szL xs)):=FR.out.call p2 s2 q2
 clear p2 s2 q2 hc
 go_wp2_with fail
 refine bodyPost_ret (results_none rfl _ _ _) rfl ?_
 exact⟨rfl,FR2.out.done rfl (by omega)⟩
theorem term_fn_named {B pb:Nat}{W0:World}{n:Nat}(H:KidsRC B pb W0 n)(hB:B=W0.heap.size)(pl num:Int)(name op:ByteArray)(ad:Option Addr)(cap:Nat)(xs:List (Tr n))(gen:Bool)(hsl:Sli.ok (encT n) 6 W0 ⟨ad,cap,xs⟩)(hk:∀y∈xs,okT n W0 y)(hn:isS name []=false)(hf:RC B pb W0 31 #[.pointer (some ⟨pb,0,none⟩),.agg #[.int .i64 12,.int .i64 pl,.string name,.int .u64 num,.string op,.slice ad xs.length cap]] (functR (kidT n) (semR n) ⟨12,pl,name,num,op⟩ xs) (szL xs))
  (w:World) (vU vV:Value) (s:St) (m:Nat) (hb:Below B W0 w) (hp:PlAt B pb w (some s) m vU vV) (hm:m+(1+szL xs)≤1000000) (hl:xs.length≤2 ^ 63 - 1) :
  Calls Tryz.prog 32 #[.pointer (some ⟨pb,0,none⟩),.agg #[.int .i64 12,.int .i64 pl,.string name,.int .u64 num,.string op,.slice ad xs.length cap],.bool gen] w fun e w'=>e = .returned (.tuple #[])∧∃vU' vV',PlAt B pb w' (functR (kidT n) (semR n) ⟨12,pl,name,num,op⟩ xs (decR pl (some s))) (m+(1+szL xs)) vU' vV'∧Stp pb w vU vV w' vU' vV'∧Below B W0 w':=by
 have HH:Hid (KidsRC B pb W0 n):=H
 have HBE:Hid (B=W0.heap.size):=hB
 have HS:Hid (Sli.ok (encT n) 6 W0 ⟨ad,cap,xs⟩∧∀y∈xs,okT n W0 y):=⟨hsl,hk⟩
 have HM:Hid (m+(1+szL xs)≤1000000):=hm
 have HB:Hid (Below B W0 w∧PlAt B pb w (some s) m vU vV):=⟨hb,hp⟩
 clear hb hp H hB hm hsl hk
 obtain⟨wb,hwb⟩:∃wb,wb=w.alloc (.cells #[.int .i64 12,.int .i64 pl,.string name,.int .u64 num,.string op,.slice ad xs.length cap] 25):=⟨_,rfl⟩
 have FR:Hid (Fr B pb W0 w vU vV w.heap.size #[.int .i64 12,.int .i64 pl,.string name,.int .u64 num,.string op,.slice ad xs.length cap] wb vU vV (some s) m):=by rw[hwb];exact Fr.start HB.out.1 HB.out.2 _ _
 obtain⟨b0,b1,b2,b3,b4,b5⟩:=six FR.out.box
 obtain⟨c2,f2⟩:=FR.out.pl.bad
 simp only[Option.isNone_some] at c2
 unfold isS at hn
 have HF:Hid (RC B pb W0 31 #[.pointer (some ⟨pb,0,none⟩),.agg #[.int .i64 12,.int .i64 pl,.string name,.int .u64 num,.string op,.slice ad xs.length cap]] (functR (kidT n) (semR n) ⟨12,pl,name,num,op⟩ xs) (szL xs)):=hf
 clear hf
 have hd:=declared_rc B pb W0 pl wb vU vV (some s) m FR.out.bel FR.out.pl (by have:=HM.out;omega)
 go_enter Tryz.func32,Tryz.ntmps32
 go_upto_region 1 with fail
 rw[←hwb]
 clear hwb
 go_wp2_with fail
 refine hd.mono ?_
 rintro e w2 ⟨rfl,vU2,vV2,p2,s2,q2⟩
 have FR2:Hid (Fr B pb W0 w vU vV w.heap.size #[.int .i64 12,.int .i64 pl,.string name,.int .u64 num,.string op,.slice ad xs.length cap] w2 vU2 vV2 (decR pl (some s)) (m+1)):=FR.out.call p2 s2 q2
 obtain⟨b0',b1',b2',b3',b4',b5'⟩:=six FR2.out.box
 have hc:=HF.out w2 vU2 vV2 (decR pl (some s)) (m+1) FR2.out.bel FR2.out.pl (by have:=HM.out;omega)
 clear p2 s2 q2 hd
 go_wp2_with fail
 refine hc.mono ?_
 rintro e w3 ⟨rfl,vU3,vV3,p3,s3,q3⟩
 have FR3:Hid (Fr B pb W0 w vU vV w.heap.size #[.int .i64 12,.int .i64 pl,.string name,.int .u64 num,.string op,.slice ad xs.length cap] w3 vU3 vV3 (functR (kidT n) (semR n) ⟨12,pl,name,num,op⟩ xs (decR pl (some s))) (m+1+szL xs)):=FR2.out.call p3 s3 q3
 clear p3 s3 q3 hc
 go_wp2_with fail
 refine bodyPost_ret (results_none rfl _ _ _) rfl ?_
 exact⟨rfl,FR3.out.done rfl (by omega)⟩
theorem term_bad {B pb:Nat}{W0:World}{n:Nat}(H:KidsRC B pb W0 n)(hB:B=W0.heap.size)(kind pl num:Int)(name op:ByteArray)(ad:Option Addr)(cap:Nat)(xs:List (Tr n))(gen:Bool)(hsl:Sli.ok (encT n) 6 W0 ⟨ad,cap,xs⟩)(hk:∀y∈xs,okT n W0 y)(h12:kind≠12)(hcond:(shapeR (⟨kind,pl,name,num,op⟩:Nd)).2.2=false∨(xs.length:Int)<(shapeR (⟨kind,pl,name,num,op⟩:Nd)).1∨(0≤(shapeR (⟨kind,pl,name,num,op⟩:Nd)).2.1∧(shapeR (⟨kind,pl,name,num,op⟩:Nd)).2.1<(xs.length:Int)))
  (w:World) (vU vV:Value) (s:St) (m:Nat) (hb:Below B W0 w) (hp:PlAt B pb w (some s) m vU vV) (hm:m+(1+szL xs)≤1000000) (hl:xs.length≤2 ^ 63 - 1) :
  Calls Tryz.prog 32 #[.pointer (some ⟨pb,0,none⟩),.agg #[.int .i64 kind,.int .i64 pl,.string name,.int .u64 num,.string op,.slice ad xs.length cap],.bool gen] w fun e w'=>e = .returned (.tuple #[])∧∃vU' vV',PlAt B pb w' (none) (m+(1+szL xs)) vU' vV'∧Stp pb w vU vV w' vU' vV'∧Below B W0 w':=by
 have HH:Hid (KidsRC B pb W0 n):=H
 have HBE:Hid (B=W0.heap.size):=hB
 have HS:Hid (Sli.ok (encT n) 6 W0 ⟨ad,cap,xs⟩∧∀y∈xs,okT n W0 y):=⟨hsl,hk⟩
 have HM:Hid (m+(1+szL xs)≤1000000):=hm
 have HB:Hid (Below B W0 w∧PlAt B pb w (some s) m vU vV):=⟨hb,hp⟩
 clear hb hp H hB hm hsl hk
 obtain⟨wb,hwb⟩:∃wb,wb=w.alloc (.cells #[.int .i64 kind,.int .i64 pl,.string name,.int .u64 num,.string op,.slice ad xs.length cap] 25):=⟨_,rfl⟩
 have FR:Hid (Fr B pb W0 w vU vV w.heap.size #[.int .i64 kind,.int .i64 pl,.string name,.int .u64 num,.string op,.slice ad xs.length cap] wb vU vV (some s) m):=by rw[hwb];exact Fr.start HB.out.1 HB.out.2 _ _
 obtain⟨b0,b1,b2,b3,b4,b5⟩:=six FR.out.box
 obtain⟨c2,f2⟩:=FR.out.pl.bad
 simp only[Option.isNone_some] at c2
 have hsh:=shape_any (⟨kind,pl,name,num,op⟩:Nd) ad xs.length cap wb
 simp only at hsh
 obtain⟨lo,hlo⟩:∃lo,lo=(shapeR (⟨kind,pl,name,num,op⟩:Nd)).1:=⟨_,rfl⟩
 obtain⟨hi,hhi⟩:∃hi,hi=(shapeR (⟨kind,pl,name,num,op⟩:Nd)).2.1:=⟨_,rfl⟩
 obtain⟨okk,hokk⟩:∃okk,okk=(shapeR (⟨kind,pl,name,num,op⟩:Nd)).2.2:=⟨_,rfl⟩
 unfold ShPost at hsh
 rw[←hlo,←hhi,←hokk] at hsh
 rw[←hlo,←hhi,←hokk] at hcond
 clear hlo hhi hokk
 have h12':(kind == 12)=false:=by simpa using h12
 have hways:okk=false∨(okk=true∧(xs.length:Int)<lo)∨(okk=true∧¬(xs.length:Int)<lo∧0≤hi∧hi<(xs.length:Int)):=by
  rcases hcond with q | q | q
  ·exact Or.inl q
  ·cases okk
   ·exact Or.inl rfl
   ·exact Or.inr (Or.inl ⟨rfl,q⟩)
  ·cases okk
   ·exact Or.inl rfl
   ·by_cases z:(xs.length:Int)<lo
    ·exact Or.inr (Or.inl ⟨rfl,z⟩)
    ·exact Or.inr (Or.inr ⟨rfl,z,q.1,q.2⟩)
 clear hcond
 rcases hways with rfl | ⟨rfl,q1⟩ | ⟨rfl,q1,q2,q3⟩
 all_goals
  go_enter Tryz.func32,Tryz.ntmps32
  go_upto_region 1 with fail
  rw[←hwb]
  clear hwb
  go_wp2_with fail
  refine hsh.mono ?_
  rintro e w2 ⟨sb,zs,rfl,hstr,hany,hzl,hbel⟩
  have FR2:Hid (Fr B pb W0 w vU vV w.heap.size #[.int .i64 kind,.int .i64 pl,.string name,.int .u64 num,.string op,.slice ad xs.length cap] w2 vU vV (some s) m):=FR.out.new hbel
  obtain⟨b0',b1',b2',b3',b4',b5'⟩:=six FR2.out.box
  obtain⟨g2,h2⟩:=FR2.out.pl.bad
  simp only[Option.isNone_some] at g2
  have ham:=among_any op (some ⟨sb,0,none⟩) zs.length zs w2 hstr hzl
  rw[hany] at ham
  clear hsh hstr hany hbel b0 b1 b2 b3 b4 b5 c2 f2
  go_wp2_with fail
  refine ham.mono ?_
  rintro e w3 ⟨rfl,rfl⟩
  clear ham
  go_wp2_with fail
  refine bodyPost_ret (results_none rfl _ _ _) rfl ?_
  exact⟨rfl,FR2.out.spoil.done rfl (by omega)⟩
theorem term_other {B pb:Nat}{W0:World}{n:Nat}(H:KidsRC B pb W0 n)(hB:B=W0.heap.size)(kind pl num:Int)(name op:ByteArray)(ad:Option Addr)(cap:Nat)(xs:List (Tr n))(gen:Bool)(hsl:Sli.ok (encT n) 6 W0 ⟨ad,cap,xs⟩)(hk:∀y∈xs,okT n W0 y)(hcond:(shapeR (⟨kind,pl,name,num,op⟩:Nd)).2.2=true∧¬(xs.length:Int)<(shapeR (⟨kind,pl,name,num,op⟩:Nd)).1∧¬(0≤(shapeR (⟨kind,pl,name,num,op⟩:Nd)).2.1∧(shapeR (⟨kind,pl,name,num,op⟩:Nd)).2.1<(xs.length:Int)))(h12:kind≠12)(h3:kind≠3)(h17:kind≠17)(h21:kind≠21)(h22:kind≠22)(h10:kind≠10)
  (w:World) (vU vV:Value) (s:St) (m:Nat) (hb:Below B W0 w) (hp:PlAt B pb w (some s) m vU vV) (hm:m+(1+szL xs)≤1000000) (hl:xs.length≤2 ^ 63 - 1) :
  Calls Tryz.prog 32 #[.pointer (some ⟨pb,0,none⟩),.agg #[.int .i64 kind,.int .i64 pl,.string name,.int .u64 num,.string op,.slice ad xs.length cap],.bool gen] w fun e w'=>e = .returned (.tuple #[])∧∃vU' vV',PlAt B pb w' (foldR (termKidR (semR n) ⟨kind,pl,name,num,op⟩ gen) xs (some s)) (m+(1+szL xs)) vU' vV'∧Stp pb w vU vV w' vU' vV'∧Below B W0 w':=by
 have HH:Hid (KidsRC B pb W0 n):=H
 have HBE:Hid (B=W0.heap.size):=hB
 have HS:Hid (Sli.ok (encT n) 6 W0 ⟨ad,cap,xs⟩∧∀y∈xs,okT n W0 y):=⟨hsl,hk⟩
 have HM:Hid (m+(1+szL xs)≤1000000):=hm
 have HB:Hid (Below B W0 w∧PlAt B pb w (some s) m vU vV):=⟨hb,hp⟩
 clear hb hp H hB hm hsl hk
 obtain⟨wb,hwb⟩:∃wb,wb=w.alloc (.cells #[.int .i64 kind,.int .i64 pl,.string name,.int .u64 num,.string op,.slice ad xs.length cap] 25):=⟨_,rfl⟩
 have FR:Hid (Fr B pb W0 w vU vV w.heap.size #[.int .i64 kind,.int .i64 pl,.string name,.int .u64 num,.string op,.slice ad xs.length cap] wb vU vV (some s) m):=by rw[hwb];exact Fr.start HB.out.1 HB.out.2 _ _
 obtain⟨b0,b1,b2,b3,b4,b5⟩:=six FR.out.box
 obtain⟨c2,f2⟩:=FR.out.pl.bad
 simp only[Option.isNone_some] at c2
 have n12:(kind == 12)=false:=by simpa using h12
 have n3:(kind == 3)=false:=by simpa using h3
 have n17:(kind == 17)=false:=by simpa using h17
 have n21:(kind == 21)=false:=by simpa using h21
 have n22:(kind == 22)=false:=by simpa using h22
 have n10:(kind == 10)=false:=by simpa using h10
 have hsh:=shape_any (⟨kind,pl,name,num,op⟩:Nd) ad xs.length cap wb
 simp only at hsh
 obtain⟨lo,hlo⟩:∃lo,lo=(shapeR (⟨kind,pl,name,num,op⟩:Nd)).1:=⟨_,rfl⟩
 obtain⟨hi,hhi⟩:∃hi,hi=(shapeR (⟨kind,pl,name,num,op⟩:Nd)).2.1:=⟨_,rfl⟩
 obtain⟨okk,hokk⟩:∃okk,okk=(shapeR (⟨kind,pl,name,num,op⟩:Nd)).2.2:=⟨_,rfl⟩
 unfold ShPost at hsh
 rw[←hlo,←hhi,←hokk] at hsh
 rw[←hlo,←hhi,←hokk] at hcond
 clear hlo hhi hokk
 obtain⟨hok1,hok2,hok3⟩:=hcond
 subst hok1
 go_enter Tryz.func32,Tryz.ntmps32
 go_upto_region 1 with fail
 rw[←hwb]
 clear hwb
 go_wp2_with fail
 refine hsh.mono ?_
 rintro e w2 ⟨sb,zs,rfl,hstr,hany,hzl,hbel⟩
 have FR2:Hid (Fr B pb W0 w vU vV w.heap.size #[.int .i64 kind,.int .i64 pl,.string name,.int .u64 num,.string op,.slice ad xs.length cap] w2 vU vV (some s) m):=FR.out.new hbel
 obtain⟨b0',b1',b2',b3',b4',b5'⟩:=six FR2.out.box
 obtain⟨g2,h2⟩:=FR2.out.pl.bad
 simp only[Option.isNone_some] at g2
 have ham:=among_any op (some ⟨sb,0,none⟩) zs.length zs w2 hstr hzl
 rw[hany] at ham
 clear hsh hstr hany hbel b0 b1 b2 b3 b4 b5 c2 f2
 go_wp2_with fail
 refine ham.mono ?_
 rintro e w3 ⟨rfl,rfl⟩
 clear ham
 go_upto_region 8 with fail
 go_cut [58] from 39 to 58 (fun c wx=>c = .bool false∧wx=w3)
 case first =>
  have hok4:decide ((xs.length:Int)<lo)=false:=by simpa using hok2
  by_cases q:0≤hi
  ·have q2:¬hi<(xs.length:Int):=fun z=>hok3 ⟨q,z⟩
   go_wp2_with fail
   go_meet
   exact⟨rfl,rfl⟩
  ·have q3:decide (0≤hi)=false:=by simpa using q
   go_wp2_with fail
   go_meet
   exact⟨rfl,rfl⟩
 case rest =>
  obtain⟨rfl,rfl⟩:=hcut
  clear hok2 hok3
  have HI:Hid (TmAt B pb W0 w vU vV #[.int .i64 kind,.int .i64 pl,.string name,.int .u64 num,.string op,.slice ad xs.length cap] (termKidR (semR n) (⟨kind,pl,name,num,op⟩:Nd) gen) xs (some s) m 0 wc vU vV (some s) m):=⟨Nat.zero_le _,rfl,FR2.out,by simp only[List.drop_zero];omega⟩
  go_wp2_with fail
  go_loopw [10] (fun i wr=>∃(k:Nat) (vU' vV':Value) (st':RS) (m':Nat),TmAt B pb W0 w vU vV #[.int .i64 kind,.int .i64 pl,.string name,.int .u64 num,.string op,.slice ad xs.length cap] (termKidR (semR n) (⟨kind,pl,name,num,op⟩:Nd) gen) xs (some s) m k wr vU' vV' st' m'∧i = .int .i64 k) (fun i wr=>xs.length - (intOf i).toNat)
  case atStart=>exact⟨0,_,_,_,_,HI.out,rfl⟩
  case round =>
   obtain⟨k,vU1,vV1,st1,m1,hr,rfl⟩:=hrel
   have ple:=hr.le
   have HR:Hid (TmAt B pb W0 w vU vV #[.int .i64 kind,.int .i64 pl,.string name,.int .u64 num,.string op,.slice ad xs.length cap] (termKidR (semR n) (⟨kind,pl,name,num,op⟩:Nd) gen) xs (some s) m k wr vU1 vV1 st1 m1):=hr
   have d0:wr.cell? ⟨w.heap.size,0,none⟩=some (.int .i64 kind):=hr.fr.box 0 _ rfl
   have d5:wr.cell? ⟨w.heap.size,5,none⟩=some (.slice ad xs.length cap):=hr.fr.box 5 _ rfl
   clear hr
   rcases Nat.lt_or_ge k xs.length with c | c
   ·obtain⟨y,hy,hd⟩:=kid_get c
    obtain⟨b,off,e1,hlie⟩:=kids_lie HS.out.1 (by intro e;simp only at e;rw[e] at c;simp at c)
    simp only at e1 hlie
    subst e1
    obtain⟨y0,y1,y2,y3,y4,y5⟩:=hlie k y hy B wr HBE.out HR.out.fr.bel
    have HY:Hid (xs.drop k=y :: xs.drop (k+1)∧okT n W0 y):=⟨hd,HS.out.2 y (List.mem_of_getElem? hy)⟩
    clear hy hd hlie
    obtain⟨wk,hwk⟩:∃wk,wk=wr.alloc (.cells #[.int .i64 (ndT n y).kind,.int .i64 (ndT n y).pl,.string (ndT n y).name,.int .u64 (ndT n y).num,.string (ndT n y).op,.slice (atT n y) (nkT n y) (capT n y)] 25):=⟨_,rfl⟩
    have hbl:Below wr.heap.size wr wk:=by rw[hwk];exact(Below.refl _ _).alloc (Nat.le_refl _) _
    have FC:Hid (Fr B pb W0 w vU vV w.heap.size #[.int .i64 kind,.int .i64 pl,.string name,.int .u64 num,.string op,.slice (some ⟨b,off,none⟩) xs.length cap] wk vU1 vV1 st1 m1):=HR.out.fr.new hbl
    have e0:wk.cell? ⟨w.heap.size,0,none⟩=some (.int .i64 kind):=FC.out.box 0 _ rfl
    obtain⟨x0,x1,x2,x3,x4,x5⟩:=six_new hwk
    have hc:=HH.out.term y gen HY.out.2 wk vU1 vV1 st1 m1 FC.out.bel FC.out.pl (by have h1:=HR.out.bud;have:=HM.out;rw[HY.out.1,szL_cons] at h1;omega)
    have HG:Hid (semR n 0 y gen st1=termKidR (semR n) (⟨kind,pl,name,num,op⟩:Nd) gen y st1):=by show _=(if _ then _ else _);rw[if_neg h10,if_neg h22]
    clear hbl
    go_upto_region 20 with fail
    rw[←hwk]
    clear hwk
    go_wp2_with fail
    refine hc.mono ?_
    rintro e w4 ⟨rfl,vU4,vV4,p4,s4,q4⟩
    have HX:Hid (TmAt B pb W0 w vU vV #[.int .i64 kind,.int .i64 pl,.string name,.int .u64 num,.string op,.slice (some ⟨b,off,none⟩) xs.length cap] (termKidR (semR n) (⟨kind,pl,name,num,op⟩:Nd) gen) xs (some s) m (k+1) w4 vU4 vV4 (termKidR (semR n) (⟨kind,pl,name,num,op⟩:Nd) gen y st1) (m1+szT n y)) :=
     HR.out.next HY.out.1 c (by rw[←HG.out];exact FC.out.call p4 s4 q4) (Nat.le_refl _)
    clear p4 s4 q4 hc
    go_wp2_with fail
    refine⟨⟨k+1,_,_,_,_,HX.out,by go_num⟩,?_⟩
    simp[intOf]
    omega
   ·have HE:Hid (foldR (termKidR (semR n) (⟨kind,pl,name,num,op⟩:Nd) gen) xs (some s)=st1):=by
     show _=_
     rw[HR.out.val,List.drop_of_length_le c]
     rfl
    go_wp2_with fail
    go_end0
    rw[HE.out]
    exact⟨rfl,HR.out.fr.done rfl (by have:=HR.out.bud;omega)⟩
theorem term_obj {B pb:Nat}{W0:World}{n:Nat}(H:KidsRC B pb W0 n)(hB:B=W0.heap.size)(pl num:Int)(name op:ByteArray)(ad:Option Addr)(cap:Nat)(xs:List (Tr n))(gen:Bool)(hsl:Sli.ok (encT n) 6 W0 ⟨ad,cap,xs⟩)(hk:∀y∈xs,okT n W0 y)(hcond:(shapeR (⟨10,pl,name,num,op⟩:Nd)).2.2=true∧¬(xs.length:Int)<(shapeR (⟨10,pl,name,num,op⟩:Nd)).1∧¬(0≤(shapeR (⟨10,pl,name,num,op⟩:Nd)).2.1∧(shapeR (⟨10,pl,name,num,op⟩:Nd)).2.1<(xs.length:Int)))
  (w:World) (vU vV:Value) (s:St) (m:Nat) (hb:Below B W0 w) (hp:PlAt B pb w (some s) m vU vV) (hm:m+(1+szL xs)≤1000000) (hl:xs.length≤2 ^ 63 - 1) :
  Calls Tryz.prog 32 #[.pointer (some ⟨pb,0,none⟩),.agg #[.int .i64 10,.int .i64 pl,.string name,.int .u64 num,.string op,.slice ad xs.length cap],.bool gen] w fun e w'=>e = .returned (.tuple #[])∧∃vU' vV',PlAt B pb w' (foldR (termKidR (semR n) ⟨10,pl,name,num,op⟩ gen) xs (some s)) (m+(1+szL xs)) vU' vV'∧Stp pb w vU vV w' vU' vV'∧Below B W0 w':=by
 have HH:Hid (KidsRC B pb W0 n):=H
 have HBE:Hid (B=W0.heap.size):=hB
 have HS:Hid (Sli.ok (encT n) 6 W0 ⟨ad,cap,xs⟩∧∀y∈xs,okT n W0 y):=⟨hsl,hk⟩
 have HM:Hid (m+(1+szL xs)≤1000000):=hm
 have HB:Hid (Below B W0 w∧PlAt B pb w (some s) m vU vV):=⟨hb,hp⟩
 clear hb hp H hB hm hsl hk
 obtain⟨wb,hwb⟩:∃wb,wb=w.alloc (.cells #[.int .i64 10,.int .i64 pl,.string name,.int .u64 num,.string op,.slice ad xs.length cap] 25):=⟨_,rfl⟩
 have FR:Hid (Fr B pb W0 w vU vV w.heap.size #[.int .i64 10,.int .i64 pl,.string name,.int .u64 num,.string op,.slice ad xs.length cap] wb vU vV (some s) m):=by rw[hwb];exact Fr.start HB.out.1 HB.out.2 _ _
 obtain⟨b0,b1,b2,b3,b4,b5⟩:=six FR.out.box
 obtain⟨c2,f2⟩:=FR.out.pl.bad
 simp only[Option.isNone_some] at c2
 have hsh:=shape_any (⟨10,pl,name,num,op⟩:Nd) ad xs.length cap wb
 simp only at hsh
 obtain⟨lo,hlo⟩:∃lo,lo=(shapeR (⟨10,pl,name,num,op⟩:Nd)).1:=⟨_,rfl⟩
 obtain⟨hi,hhi⟩:∃hi,hi=(shapeR (⟨10,pl,name,num,op⟩:Nd)).2.1:=⟨_,rfl⟩
 obtain⟨okk,hokk⟩:∃okk,okk=(shapeR (⟨10,pl,name,num,op⟩:Nd)).2.2:=⟨_,rfl⟩
 unfold ShPost at hsh
 rw[←hlo,←hhi,←hokk] at hsh
 rw[←hlo,←hhi,←hokk] at hcond
 clear hlo hhi hokk
 obtain⟨hok1,hok2,hok3⟩:=hcond
 subst hok1
 go_enter Tryz.func32,Tryz.ntmps32
 go_upto_region 1 with fail
 rw[←hwb]
 clear hwb
 go_wp2_with fail
 refine hsh.mono ?_
 rintro e w2 ⟨sb,zs,rfl,hstr,hany,hzl,hbel⟩
 have FR2:Hid (Fr B pb W0 w vU vV w.heap.size #[.int .i64 10,.int .i64 pl,.string name,.int .u64 num,.string op,.slice ad xs.length cap] w2 vU vV (some s) m):=FR.out.new hbel
 obtain⟨b0',b1',b2',b3',b4',b5'⟩:=six FR2.out.box
 obtain⟨g2,h2⟩:=FR2.out.pl.bad
 simp only[Option.isNone_some] at g2
 have ham:=among_any op (some ⟨sb,0,none⟩) zs.length zs w2 hstr hzl
 rw[hany] at ham
 clear hsh hstr hany hbel b0 b1 b2 b3 b4 b5 c2 f2
 go_wp2_with fail
 refine ham.mono ?_
 rintro e w3 ⟨rfl,rfl⟩
 clear ham
 go_upto_region 8 with fail
 go_cut [58] from 39 to 58 (fun c wx=>c = .bool false∧wx=w3)
 case first =>
  have hok4:decide ((xs.length:Int)<lo)=false:=by simpa using hok2
  by_cases q:0≤hi
  ·have q2:¬hi<(xs.length:Int):=fun z=>hok3 ⟨q,z⟩
   go_wp2_with fail
   go_meet
   exact⟨rfl,rfl⟩
  ·have q3:decide (0≤hi)=false:=by simpa using q
   go_wp2_with fail
   go_meet
   exact⟨rfl,rfl⟩
 case rest =>
  obtain⟨rfl,rfl⟩:=hcut
  clear hok2 hok3
  have HI:Hid (TmAt B pb W0 w vU vV #[.int .i64 10,.int .i64 pl,.string name,.int .u64 num,.string op,.slice ad xs.length cap] (termKidR (semR n) (⟨10,pl,name,num,op⟩:Nd) gen) xs (some s) m 0 wc vU vV (some s) m):=⟨Nat.zero_le _,rfl,FR2.out,by simp only[List.drop_zero];omega⟩
  go_wp2_with fail
  go_loopw [10] (fun i wr=>∃(k:Nat) (vU' vV':Value) (st':RS) (m':Nat),TmAt B pb W0 w vU vV #[.int .i64 10,.int .i64 pl,.string name,.int .u64 num,.string op,.slice ad xs.length cap] (termKidR (semR n) (⟨10,pl,name,num,op⟩:Nd) gen) xs (some s) m k wr vU' vV' st' m'∧i = .int .i64 k) (fun i wr=>xs.length - (intOf i).toNat)
  case atStart=>exact⟨0,_,_,_,_,HI.out,rfl⟩
  case round =>
   obtain⟨k,vU1,vV1,st1,m1,hr,rfl⟩:=hrel
   have ple:=hr.le
   have HR:Hid (TmAt B pb W0 w vU vV #[.int .i64 10,.int .i64 pl,.string name,.int .u64 num,.string op,.slice ad xs.length cap] (termKidR (semR n) (⟨10,pl,name,num,op⟩:Nd) gen) xs (some s) m k wr vU1 vV1 st1 m1):=hr
   have d0:wr.cell? ⟨w.heap.size,0,none⟩=some (.int .i64 10):=hr.fr.box 0 _ rfl
   have d5:wr.cell? ⟨w.heap.size,5,none⟩=some (.slice ad xs.length cap):=hr.fr.box 5 _ rfl
   clear hr
   rcases Nat.lt_or_ge k xs.length with c | c
   ·obtain⟨y,hy,hd⟩:=kid_get c
    obtain⟨b,off,e1,hlie⟩:=kids_lie HS.out.1 (by intro e;simp only at e;rw[e] at c;simp at c)
    simp only at e1 hlie
    subst e1
    obtain⟨y0,y1,y2,y3,y4,y5⟩:=hlie k y hy B wr HBE.out HR.out.fr.bel
    have HY:Hid (xs.drop k=y :: xs.drop (k+1)∧okT n W0 y):=⟨hd,HS.out.2 y (List.mem_of_getElem? hy)⟩
    clear hy hd hlie
    obtain⟨wk,hwk⟩:∃wk,wk=wr.alloc (.cells #[.int .i64 (ndT n y).kind,.int .i64 (ndT n y).pl,.string (ndT n y).name,.int .u64 (ndT n y).num,.string (ndT n y).op,.slice (atT n y) (nkT n y) (capT n y)] 25):=⟨_,rfl⟩
    have hbl:Below wr.heap.size wr wk:=by rw[hwk];exact(Below.refl _ _).alloc (Nat.le_refl _) _
    have FC:Hid (Fr B pb W0 w vU vV w.heap.size #[.int .i64 10,.int .i64 pl,.string name,.int .u64 num,.string op,.slice (some ⟨b,off,none⟩) xs.length cap] wk vU1 vV1 st1 m1):=HR.out.fr.new hbl
    have e0:wk.cell? ⟨w.heap.size,0,none⟩=some (.int .i64 10):=FC.out.box 0 _ rfl
    obtain⟨x0,x1,x2,x3,x4,x5⟩:=six_new hwk
    have hc:=HH.out.prop y gen HY.out.2 wk vU1 vV1 st1 m1 FC.out.bel FC.out.pl (by have h1:=HR.out.bud;have:=HM.out;rw[HY.out.1,szL_cons] at h1;omega)
    have HG:Hid (semR n 2 y gen st1=termKidR (semR n) (⟨10,pl,name,num,op⟩:Nd) gen y st1):=by show _=(if _ then _ else _);rw[if_pos rfl]
    clear hbl
    go_upto_region 20 with fail
    rw[←hwk]
    clear hwk
    go_wp2_with fail
    refine hc.mono ?_
    rintro e w4 ⟨rfl,vU4,vV4,p4,s4,q4⟩
    have HX:Hid (TmAt B pb W0 w vU vV #[.int .i64 10,.int .i64 pl,.string name,.int .u64 num,.string op,.slice (some ⟨b,off,none⟩) xs.length cap] (termKidR (semR n) (⟨10,pl,name,num,op⟩:Nd) gen) xs (some s) m (k+1) w4 vU4 vV4 (termKidR (semR n) (⟨10,pl,name,num,op⟩:Nd) gen y st1) (m1+szT n y)) :=
     HR.out.next HY.out.1 c (by rw[←HG.out];exact FC.out.call p4 s4 q4) (Nat.le_refl _)
    clear p4 s4 q4 hc
    go_wp2_with fail
    refine⟨⟨k+1,_,_,_,_,HX.out,by go_num⟩,?_⟩
    simp[intOf]
    omega
   ·have HE:Hid (foldR (termKidR (semR n) (⟨10,pl,name,num,op⟩:Nd) gen) xs (some s)=st1):=by
     show _=_
     rw[HR.out.val,List.drop_of_length_le c]
     rfl
    go_wp2_with fail
    go_end0
    rw[HE.out]
    exact⟨rfl,HR.out.fr.done rfl (by have:=HR.out.bud;omega)⟩
end Go.Proofs.YtihmdcdifakepaaGreat.Sc
