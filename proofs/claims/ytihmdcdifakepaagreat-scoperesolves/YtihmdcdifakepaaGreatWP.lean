/- WP -/
import Derived.Test.YtihmdcdifakepaaGreatB13
set_option linter.unusedVariables false
set_option linter.unusedSimpArgs false
set_option maxRecDepth 100000
set_option maxHeartbeats 40000000
namespace Go.Proofs.YtihmdcdifakepaaGreat.Sc
open Go.RowKit
def emptyN {n:Nat}(k:Tr n)(st:RS):RS:=if 0<nkT n k then none else st
theorem empty_kid {B pb:Nat}{W0:World}{n:Nat}(k:Tr n)(h:okT n W0 k)(x:Nd)(hx:x=ndT n k):RC B pb W0 52 #[.pointer (some ⟨pb,0,none⟩),.agg #[.int .i64 x.kind,.int .i64 x.pl,.string x.name,.int .u64 x.num,.string x.op,.slice (atT n k) (nkT n k) (capT n k)]] (emptyN k) 0:=empty_rc B pb W0 x (atT n k) (nkT n k) (capT n k) (nk_le h)
theorem single_34 {B pb:Nat}{W0:World}{n:Nat}(H:KidsRC B pb W0 n)(hB:B=W0.heap.size)(pl num:Int)(name op:ByteArray)(ad:Option Addr)(cap:Nat)(k0:Tr n)(gen:Bool)(hsl:Sli.ok (encT n) 6 W0 ⟨ad,cap,[k0]⟩)(hk:∀y∈[k0],okT n W0 y)
  (w:World) (vU vV:Value) (s:St) (m:Nat) (hb:Below B W0 w) (hp:PlAt B pb w (some s) m vU vV) (hm:m+(1+szL [k0])≤1000000) :
  Calls Tryz.prog 29 #[.pointer (some ⟨pb,0,none⟩),.agg #[.int .i64 34,.int .i64 pl,.string name,.int .u64 num,.string op,.slice ad 1 cap],.bool gen] w fun e w'=>e = .returned (.tuple #[])∧∃vU' vV',PlAt B pb w' (semR n 1 k0 gen (some s)) (m+(1+szL [k0])) vU' vV'∧Stp pb w vU vV w' vU' vV'∧Below B W0 w':=by
 have HH:Hid (KidsRC B pb W0 n):=H
 have HBE:Hid (B=W0.heap.size):=hB
 obtain⟨b,off,e1,hlie⟩:=kids_lie hsl (by simp)
 simp only at e1 hlie
 subst e1
 have HL:Hid (∀(k:Nat) (y:Tr n),[k0][k]?=some y→∀(B:Nat) (w:World),B=W0.heap.size→Below B W0 w→Six w b (off+k*6) (ndT n y) (.slice (atT n y) (nkT n y) (capT n y))):=hlie
 have HK:Hid (∀y∈[k0],okT n W0 y):=hk
 have hz:szL [k0]=szT n k0+0:=by simp only[szL_cons,szL_nil]
 have HM:Hid (m+(1+(szT n k0+0))≤1000000):=by rw[←hz];exact hm
 rw[hz]
 clear hm hz
 have HB:Hid (Below B W0 w∧PlAt B pb w (some s) m vU vV):=⟨hb,hp⟩
 clear hb hp H hB hsl hk hlie
 obtain⟨wb,hwb⟩:∃wb,wb=w.alloc (.cells #[.int .i64 34,.int .i64 pl,.string name,.int .u64 num,.string op,.slice (some ⟨b,off,none⟩) 1 cap] 25):=⟨_,rfl⟩
 have FR0:Hid (Fr B pb W0 w vU vV w.heap.size #[.int .i64 34,.int .i64 pl,.string name,.int .u64 num,.string op,.slice (some ⟨b,off,none⟩) 1 cap] wb vU vV (some s) m):=by rw[hwb];exact Fr.start HB.out.1 HB.out.2 _ _
 have pbn:¬pb=w.heap.size:=fun e=>FR0.out.sep (Or.inl e.symm)
 obtain⟨b0_0,b1_0,b2_0,b3_0,b4_0,b5_0⟩:=six FR0.out.box
 obtain⟨y00_0,y01_0,y02_0,y03_0,y04_0,y05_0⟩:=HL.out 0 k0 rfl B wb HBE.out FR0.out.bel
 simp only[Nat.zero_mul,Nat.add_zero] at y00_0 y01_0 y02_0 y03_0 y04_0 y05_0
 obtain⟨c2_0,f2_0⟩:=FR0.out.pl.bad
 simp only[Option.isNone_some] at c2_0
 have hkids:=kids_any 34 wb
 have hkv:kidsR 34=1:=by unfold kidsR;simp
 rw[hkv] at hkids
 clear hkv
 go_enter Tryz.func29,Tryz.ntmps29
 go_upto_region 1 with fail
 rw[←hwb]
 clear hwb
 go_wp2_with fail
 refine hkids.mono ?_
 rintro e w1 ⟨rfl,rfl⟩
 clear hkids
 have hc1:=HH.out.perh k0 gen (HK.out k0 (by simp)) w1 vU vV (some s) (m) FR0.out.bel FR0.out.pl (by have:=HM.out;omega)
 go_wp2_with fail
 refine hc1.mono ?_
 rintro e v1 ⟨rfl,vU1,vV1,p1,s1,q1⟩
 have FR1:Hid (Fr B pb W0 w vU vV w.heap.size #[.int .i64 34,.int .i64 pl,.string name,.int .u64 num,.string op,.slice (some ⟨b,off,none⟩) 1 cap] v1 vU1 vV1 (semR n 1 k0 gen (some s)) (m+szT n k0)):=FR0.out.call p1 s1 q1
 clear p1 s1 q1 hc1 b0_0 b1_0 b2_0 b3_0 b4_0 b5_0 c2_0 f2_0 y00_0 y01_0 y02_0 y03_0 y04_0 y05_0
 obtain⟨b0_1,b1_1,b2_1,b3_1,b4_1,b5_1⟩:=six FR1.out.box
 obtain⟨y00_1,y01_1,y02_1,y03_1,y04_1,y05_1⟩:=HL.out 0 k0 rfl B v1 HBE.out FR1.out.bel
 simp only[Nat.zero_mul,Nat.add_zero] at y00_1 y01_1 y02_1 y03_1 y04_1 y05_1
 obtain⟨c2_1,f2_1⟩:=FR1.out.pl.bad
 go_wp2_with fail
 go_end0
 exact⟨rfl,FR1.out.done rfl (by omega)⟩
theorem single_42 {B pb:Nat}{W0:World}{n:Nat}(H:KidsRC B pb W0 n)(hB:B=W0.heap.size)(pl num:Int)(name op:ByteArray)(ad:Option Addr)(cap:Nat)(k0:Tr n)(gen:Bool)(hsl:Sli.ok (encT n) 6 W0 ⟨ad,cap,[k0]⟩)(hk:∀y∈[k0],okT n W0 y)
  (w:World) (vU vV:Value) (s:St) (m:Nat) (hb:Below B W0 w) (hp:PlAt B pb w (some s) m vU vV) (hm:m+(1+szL [k0])≤1000000) :
  Calls Tryz.prog 29 #[.pointer (some ⟨pb,0,none⟩),.agg #[.int .i64 42,.int .i64 pl,.string name,.int .u64 num,.string op,.slice ad 1 cap],.bool gen] w fun e w'=>e = .returned (.tuple #[])∧∃vU' vV',PlAt B pb w' (semR n 0 k0 gen (some s)) (m+(1+szL [k0])) vU' vV'∧Stp pb w vU vV w' vU' vV'∧Below B W0 w':=by
 have HH:Hid (KidsRC B pb W0 n):=H
 have HBE:Hid (B=W0.heap.size):=hB
 obtain⟨b,off,e1,hlie⟩:=kids_lie hsl (by simp)
 simp only at e1 hlie
 subst e1
 have HL:Hid (∀(k:Nat) (y:Tr n),[k0][k]?=some y→∀(B:Nat) (w:World),B=W0.heap.size→Below B W0 w→Six w b (off+k*6) (ndT n y) (.slice (atT n y) (nkT n y) (capT n y))):=hlie
 have HK:Hid (∀y∈[k0],okT n W0 y):=hk
 have hz:szL [k0]=szT n k0+0:=by simp only[szL_cons,szL_nil]
 have HM:Hid (m+(1+(szT n k0+0))≤1000000):=by rw[←hz];exact hm
 rw[hz]
 clear hm hz
 have HB:Hid (Below B W0 w∧PlAt B pb w (some s) m vU vV):=⟨hb,hp⟩
 clear hb hp H hB hsl hk hlie
 obtain⟨wb,hwb⟩:∃wb,wb=w.alloc (.cells #[.int .i64 42,.int .i64 pl,.string name,.int .u64 num,.string op,.slice (some ⟨b,off,none⟩) 1 cap] 25):=⟨_,rfl⟩
 have FR0:Hid (Fr B pb W0 w vU vV w.heap.size #[.int .i64 42,.int .i64 pl,.string name,.int .u64 num,.string op,.slice (some ⟨b,off,none⟩) 1 cap] wb vU vV (some s) m):=by rw[hwb];exact Fr.start HB.out.1 HB.out.2 _ _
 have pbn:¬pb=w.heap.size:=fun e=>FR0.out.sep (Or.inl e.symm)
 obtain⟨b0_0,b1_0,b2_0,b3_0,b4_0,b5_0⟩:=six FR0.out.box
 obtain⟨y00_0,y01_0,y02_0,y03_0,y04_0,y05_0⟩:=HL.out 0 k0 rfl B wb HBE.out FR0.out.bel
 simp only[Nat.zero_mul,Nat.add_zero] at y00_0 y01_0 y02_0 y03_0 y04_0 y05_0
 obtain⟨c2_0,f2_0⟩:=FR0.out.pl.bad
 simp only[Option.isNone_some] at c2_0
 have hkids:=kids_any 42 wb
 have hkv:kidsR 42=1:=by unfold kidsR;simp
 rw[hkv] at hkids
 clear hkv
 go_enter Tryz.func29,Tryz.ntmps29
 go_upto_region 1 with fail
 rw[←hwb]
 clear hwb
 go_wp2_with fail
 refine hkids.mono ?_
 rintro e w1 ⟨rfl,rfl⟩
 clear hkids
 have hc1:=HH.out.term k0 gen (HK.out k0 (by simp)) w1 vU vV (some s) (m) FR0.out.bel FR0.out.pl (by have:=HM.out;omega)
 go_wp2_with fail
 refine hc1.mono ?_
 rintro e v1 ⟨rfl,vU1,vV1,p1,s1,q1⟩
 have FR1:Hid (Fr B pb W0 w vU vV w.heap.size #[.int .i64 42,.int .i64 pl,.string name,.int .u64 num,.string op,.slice (some ⟨b,off,none⟩) 1 cap] v1 vU1 vV1 (semR n 0 k0 gen (some s)) (m+szT n k0)):=FR0.out.call p1 s1 q1
 clear p1 s1 q1 hc1 b0_0 b1_0 b2_0 b3_0 b4_0 b5_0 c2_0 f2_0 y00_0 y01_0 y02_0 y03_0 y04_0 y05_0
 obtain⟨b0_1,b1_1,b2_1,b3_1,b4_1,b5_1⟩:=six FR1.out.box
 obtain⟨y00_1,y01_1,y02_1,y03_1,y04_1,y05_1⟩:=HL.out 0 k0 rfl B v1 HBE.out FR1.out.bel
 simp only[Nat.zero_mul,Nat.add_zero] at y00_1 y01_1 y02_1 y03_1 y04_1 y05_1
 obtain⟨c2_1,f2_1⟩:=FR1.out.pl.bad
 go_wp2_with fail
 go_end0
 exact⟨rfl,FR1.out.done rfl (by omega)⟩
theorem single_46 {B pb:Nat}{W0:World}{n:Nat}(H:KidsRC B pb W0 n)(hB:B=W0.heap.size)(pl num:Int)(name op:ByteArray)(ad:Option Addr)(cap:Nat)(k0:Tr n)(gen:Bool)(hsl:Sli.ok (encT n) 6 W0 ⟨ad,cap,[k0]⟩)(hk:∀y∈[k0],okT n W0 y)
  (w:World) (vU vV:Value) (s:St) (m:Nat) (hb:Below B W0 w) (hp:PlAt B pb w (some s) m vU vV) (hm:m+(1+szL [k0])≤1000000) :
  Calls Tryz.prog 29 #[.pointer (some ⟨pb,0,none⟩),.agg #[.int .i64 46,.int .i64 pl,.string name,.int .u64 num,.string op,.slice ad 1 cap],.bool gen] w fun e w'=>e = .returned (.tuple #[])∧∃vU' vV',PlAt B pb w' (semR n 0 k0 gen (some s)) (m+(1+szL [k0])) vU' vV'∧Stp pb w vU vV w' vU' vV'∧Below B W0 w':=by
 have HH:Hid (KidsRC B pb W0 n):=H
 have HBE:Hid (B=W0.heap.size):=hB
 obtain⟨b,off,e1,hlie⟩:=kids_lie hsl (by simp)
 simp only at e1 hlie
 subst e1
 have HL:Hid (∀(k:Nat) (y:Tr n),[k0][k]?=some y→∀(B:Nat) (w:World),B=W0.heap.size→Below B W0 w→Six w b (off+k*6) (ndT n y) (.slice (atT n y) (nkT n y) (capT n y))):=hlie
 have HK:Hid (∀y∈[k0],okT n W0 y):=hk
 have hz:szL [k0]=szT n k0+0:=by simp only[szL_cons,szL_nil]
 have HM:Hid (m+(1+(szT n k0+0))≤1000000):=by rw[←hz];exact hm
 rw[hz]
 clear hm hz
 have HB:Hid (Below B W0 w∧PlAt B pb w (some s) m vU vV):=⟨hb,hp⟩
 clear hb hp H hB hsl hk hlie
 obtain⟨wb,hwb⟩:∃wb,wb=w.alloc (.cells #[.int .i64 46,.int .i64 pl,.string name,.int .u64 num,.string op,.slice (some ⟨b,off,none⟩) 1 cap] 25):=⟨_,rfl⟩
 have FR0:Hid (Fr B pb W0 w vU vV w.heap.size #[.int .i64 46,.int .i64 pl,.string name,.int .u64 num,.string op,.slice (some ⟨b,off,none⟩) 1 cap] wb vU vV (some s) m):=by rw[hwb];exact Fr.start HB.out.1 HB.out.2 _ _
 have pbn:¬pb=w.heap.size:=fun e=>FR0.out.sep (Or.inl e.symm)
 obtain⟨b0_0,b1_0,b2_0,b3_0,b4_0,b5_0⟩:=six FR0.out.box
 obtain⟨y00_0,y01_0,y02_0,y03_0,y04_0,y05_0⟩:=HL.out 0 k0 rfl B wb HBE.out FR0.out.bel
 simp only[Nat.zero_mul,Nat.add_zero] at y00_0 y01_0 y02_0 y03_0 y04_0 y05_0
 obtain⟨c2_0,f2_0⟩:=FR0.out.pl.bad
 simp only[Option.isNone_some] at c2_0
 have hkids:=kids_any 46 wb
 have hkv:kidsR 46=1:=by unfold kidsR;simp
 rw[hkv] at hkids
 clear hkv
 go_enter Tryz.func29,Tryz.ntmps29
 go_upto_region 1 with fail
 rw[←hwb]
 clear hwb
 go_wp2_with fail
 refine hkids.mono ?_
 rintro e w1 ⟨rfl,rfl⟩
 clear hkids
 have hc1:=HH.out.term k0 gen (HK.out k0 (by simp)) w1 vU vV (some s) (m) FR0.out.bel FR0.out.pl (by have:=HM.out;omega)
 go_wp2_with fail
 refine hc1.mono ?_
 rintro e v1 ⟨rfl,vU1,vV1,p1,s1,q1⟩
 have FR1:Hid (Fr B pb W0 w vU vV w.heap.size #[.int .i64 46,.int .i64 pl,.string name,.int .u64 num,.string op,.slice (some ⟨b,off,none⟩) 1 cap] v1 vU1 vV1 (semR n 0 k0 gen (some s)) (m+szT n k0)):=FR0.out.call p1 s1 q1
 clear p1 s1 q1 hc1 b0_0 b1_0 b2_0 b3_0 b4_0 b5_0 c2_0 f2_0 y00_0 y01_0 y02_0 y03_0 y04_0 y05_0
 obtain⟨b0_1,b1_1,b2_1,b3_1,b4_1,b5_1⟩:=six FR1.out.box
 obtain⟨y00_1,y01_1,y02_1,y03_1,y04_1,y05_1⟩:=HL.out 0 k0 rfl B v1 HBE.out FR1.out.bel
 simp only[Nat.zero_mul,Nat.add_zero] at y00_1 y01_1 y02_1 y03_1 y04_1 y05_1
 obtain⟨c2_1,f2_1⟩:=FR1.out.pl.bad
 go_wp2_with fail
 go_end0
 exact⟨rfl,FR1.out.done rfl (by omega)⟩
theorem single_41 {B pb:Nat}{W0:World}{n:Nat}(H:KidsRC B pb W0 n)(hB:B=W0.heap.size)(pl num:Int)(name op:ByteArray)(ad:Option Addr)(cap:Nat)(k0:Tr n)(gen:Bool)(hsl:Sli.ok (encT n) 6 W0 ⟨ad,cap,[k0]⟩)(hk:∀y∈[k0],okT n W0 y)
  (w:World) (vU vV:Value) (s:St) (m:Nat) (hb:Below B W0 w) (hp:PlAt B pb w (some s) m vU vV) (hm:m+(1+szL [k0])≤1000000) :
  Calls Tryz.prog 29 #[.pointer (some ⟨pb,0,none⟩),.agg #[.int .i64 41,.int .i64 pl,.string name,.int .u64 num,.string op,.slice ad 1 cap],.bool gen] w fun e w'=>e = .returned (.tuple #[])∧∃vU' vV',PlAt B pb w' (semR n 5 k0 gen (some s)) (m+(1+szL [k0])) vU' vV'∧Stp pb w vU vV w' vU' vV'∧Below B W0 w':=by
 have HH:Hid (KidsRC B pb W0 n):=H
 have HBE:Hid (B=W0.heap.size):=hB
 obtain⟨b,off,e1,hlie⟩:=kids_lie hsl (by simp)
 simp only at e1 hlie
 subst e1
 have HL:Hid (∀(k:Nat) (y:Tr n),[k0][k]?=some y→∀(B:Nat) (w:World),B=W0.heap.size→Below B W0 w→Six w b (off+k*6) (ndT n y) (.slice (atT n y) (nkT n y) (capT n y))):=hlie
 have HK:Hid (∀y∈[k0],okT n W0 y):=hk
 have hz:szL [k0]=szT n k0+0:=by simp only[szL_cons,szL_nil]
 have HM:Hid (m+(1+(szT n k0+0))≤1000000):=by rw[←hz];exact hm
 rw[hz]
 clear hm hz
 have HB:Hid (Below B W0 w∧PlAt B pb w (some s) m vU vV):=⟨hb,hp⟩
 clear hb hp H hB hsl hk hlie
 obtain⟨wb,hwb⟩:∃wb,wb=w.alloc (.cells #[.int .i64 41,.int .i64 pl,.string name,.int .u64 num,.string op,.slice (some ⟨b,off,none⟩) 1 cap] 25):=⟨_,rfl⟩
 have FR0:Hid (Fr B pb W0 w vU vV w.heap.size #[.int .i64 41,.int .i64 pl,.string name,.int .u64 num,.string op,.slice (some ⟨b,off,none⟩) 1 cap] wb vU vV (some s) m):=by rw[hwb];exact Fr.start HB.out.1 HB.out.2 _ _
 have pbn:¬pb=w.heap.size:=fun e=>FR0.out.sep (Or.inl e.symm)
 obtain⟨b0_0,b1_0,b2_0,b3_0,b4_0,b5_0⟩:=six FR0.out.box
 obtain⟨y00_0,y01_0,y02_0,y03_0,y04_0,y05_0⟩:=HL.out 0 k0 rfl B wb HBE.out FR0.out.bel
 simp only[Nat.zero_mul,Nat.add_zero] at y00_0 y01_0 y02_0 y03_0 y04_0 y05_0
 obtain⟨c2_0,f2_0⟩:=FR0.out.pl.bad
 simp only[Option.isNone_some] at c2_0
 have hkids:=kids_any 41 wb
 have hkv:kidsR 41=1:=by unfold kidsR;simp
 rw[hkv] at hkids
 clear hkv
 go_enter Tryz.func29,Tryz.ntmps29
 go_upto_region 1 with fail
 rw[←hwb]
 clear hwb
 go_wp2_with fail
 refine hkids.mono ?_
 rintro e w1 ⟨rfl,rfl⟩
 clear hkids
 have hc1:=HH.out.sing k0 gen (HK.out k0 (by simp)) w1 vU vV (some s) (m) FR0.out.bel FR0.out.pl (by have:=HM.out;omega)
 go_wp2_with fail
 refine hc1.mono ?_
 rintro e v1 ⟨rfl,vU1,vV1,p1,s1,q1⟩
 have FR1:Hid (Fr B pb W0 w vU vV w.heap.size #[.int .i64 41,.int .i64 pl,.string name,.int .u64 num,.string op,.slice (some ⟨b,off,none⟩) 1 cap] v1 vU1 vV1 (semR n 5 k0 gen (some s)) (m+szT n k0)):=FR0.out.call p1 s1 q1
 clear p1 s1 q1 hc1 b0_0 b1_0 b2_0 b3_0 b4_0 b5_0 c2_0 f2_0 y00_0 y01_0 y02_0 y03_0 y04_0 y05_0
 obtain⟨b0_1,b1_1,b2_1,b3_1,b4_1,b5_1⟩:=six FR1.out.box
 obtain⟨y00_1,y01_1,y02_1,y03_1,y04_1,y05_1⟩:=HL.out 0 k0 rfl B v1 HBE.out FR1.out.bel
 simp only[Nat.zero_mul,Nat.add_zero] at y00_1 y01_1 y02_1 y03_1 y04_1 y05_1
 obtain⟨c2_1,f2_1⟩:=FR1.out.pl.bad
 go_wp2_with fail
 go_end0
 exact⟨rfl,FR1.out.done rfl (by omega)⟩
theorem single_36 {B pb:Nat}{W0:World}{n:Nat}(H:KidsRC B pb W0 n)(hB:B=W0.heap.size)(pl num:Int)(name op:ByteArray)(ad:Option Addr)(cap:Nat)(k0 k1:Tr n)(gen:Bool)(hsl:Sli.ok (encT n) 6 W0 ⟨ad,cap,[k0,k1]⟩)(hk:∀y∈[k0,k1],okT n W0 y)
  (w:World) (vU vV:Value) (s:St) (m:Nat) (hb:Below B W0 w) (hp:PlAt B pb w (some s) m vU vV) (hm:m+(1+szL [k0,k1])≤1000000) :
  Calls Tryz.prog 29 #[.pointer (some ⟨pb,0,none⟩),.agg #[.int .i64 36,.int .i64 pl,.string name,.int .u64 num,.string op,.slice ad 2 cap],.bool gen] w fun e w'=>e = .returned (.tuple #[])∧∃vU' vV',PlAt B pb w' (semR n 5 k1 gen (semR n 0 k0 gen (some s))) (m+(1+szL [k0,k1])) vU' vV'∧Stp pb w vU vV w' vU' vV'∧Below B W0 w':=by
 have HH:Hid (KidsRC B pb W0 n):=H
 have HBE:Hid (B=W0.heap.size):=hB
 obtain⟨b,off,e1,hlie⟩:=kids_lie hsl (by simp)
 simp only at e1 hlie
 subst e1
 have HL:Hid (∀(k:Nat) (y:Tr n),[k0,k1][k]?=some y→∀(B:Nat) (w:World),B=W0.heap.size→Below B W0 w→Six w b (off+k*6) (ndT n y) (.slice (atT n y) (nkT n y) (capT n y))):=hlie
 have HK:Hid (∀y∈[k0,k1],okT n W0 y):=hk
 have hz:szL [k0,k1]=szT n k0+(szT n k1+0):=by simp only[szL_cons,szL_nil]
 have HM:Hid (m+(1+(szT n k0+(szT n k1+0)))≤1000000):=by rw[←hz];exact hm
 rw[hz]
 clear hm hz
 have HB:Hid (Below B W0 w∧PlAt B pb w (some s) m vU vV):=⟨hb,hp⟩
 clear hb hp H hB hsl hk hlie
 obtain⟨wb,hwb⟩:∃wb,wb=w.alloc (.cells #[.int .i64 36,.int .i64 pl,.string name,.int .u64 num,.string op,.slice (some ⟨b,off,none⟩) 2 cap] 25):=⟨_,rfl⟩
 have FR0:Hid (Fr B pb W0 w vU vV w.heap.size #[.int .i64 36,.int .i64 pl,.string name,.int .u64 num,.string op,.slice (some ⟨b,off,none⟩) 2 cap] wb vU vV (some s) m):=by rw[hwb];exact Fr.start HB.out.1 HB.out.2 _ _
 have pbn:¬pb=w.heap.size:=fun e=>FR0.out.sep (Or.inl e.symm)
 obtain⟨b0_0,b1_0,b2_0,b3_0,b4_0,b5_0⟩:=six FR0.out.box
 obtain⟨y00_0,y01_0,y02_0,y03_0,y04_0,y05_0⟩:=HL.out 0 k0 rfl B wb HBE.out FR0.out.bel
 simp only[Nat.zero_mul,Nat.add_zero] at y00_0 y01_0 y02_0 y03_0 y04_0 y05_0
 obtain⟨y10_0,y11_0,y12_0,y13_0,y14_0,y15_0⟩:=HL.out 1 k1 rfl B wb HBE.out FR0.out.bel
 obtain⟨c2_0,f2_0⟩:=FR0.out.pl.bad
 simp only[Option.isNone_some] at c2_0
 have hkids:=kids_any 36 wb
 have hkv:kidsR 36=2:=by unfold kidsR;simp
 rw[hkv] at hkids
 clear hkv
 go_enter Tryz.func29,Tryz.ntmps29
 go_upto_region 1 with fail
 rw[←hwb]
 clear hwb
 go_wp2_with fail
 refine hkids.mono ?_
 rintro e w1 ⟨rfl,rfl⟩
 clear hkids
 have hc1:=HH.out.term k0 gen (HK.out k0 (by simp)) w1 vU vV (some s) (m) FR0.out.bel FR0.out.pl (by have:=HM.out;omega)
 go_wp2_with fail
 refine hc1.mono ?_
 rintro e v1 ⟨rfl,vU1,vV1,p1,s1,q1⟩
 have FR1:Hid (Fr B pb W0 w vU vV w.heap.size #[.int .i64 36,.int .i64 pl,.string name,.int .u64 num,.string op,.slice (some ⟨b,off,none⟩) 2 cap] v1 vU1 vV1 (semR n 0 k0 gen (some s)) (m+szT n k0)):=FR0.out.call p1 s1 q1
 clear p1 s1 q1 hc1 b0_0 b1_0 b2_0 b3_0 b4_0 b5_0 c2_0 f2_0 y00_0 y01_0 y02_0 y03_0 y04_0 y05_0 y10_0 y11_0 y12_0 y13_0 y14_0 y15_0
 obtain⟨b0_1,b1_1,b2_1,b3_1,b4_1,b5_1⟩:=six FR1.out.box
 obtain⟨y00_1,y01_1,y02_1,y03_1,y04_1,y05_1⟩:=HL.out 0 k0 rfl B v1 HBE.out FR1.out.bel
 simp only[Nat.zero_mul,Nat.add_zero] at y00_1 y01_1 y02_1 y03_1 y04_1 y05_1
 obtain⟨y10_1,y11_1,y12_1,y13_1,y14_1,y15_1⟩:=HL.out 1 k1 rfl B v1 HBE.out FR1.out.bel
 obtain⟨c2_1,f2_1⟩:=FR1.out.pl.bad
 have hc2:=HH.out.sing k1 gen (HK.out k1 (by simp)) v1 vU1 vV1 (semR n 0 k0 gen (some s)) (m+szT n k0) FR1.out.bel FR1.out.pl (by have:=HM.out;omega)
 go_wp2_with fail
 refine hc2.mono ?_
 rintro e v2 ⟨rfl,vU2,vV2,p2,s2,q2⟩
 have FR2:Hid (Fr B pb W0 w vU vV w.heap.size #[.int .i64 36,.int .i64 pl,.string name,.int .u64 num,.string op,.slice (some ⟨b,off,none⟩) 2 cap] v2 vU2 vV2 (semR n 5 k1 gen (semR n 0 k0 gen (some s))) (m+szT n k0+szT n k1)):=FR1.out.call p2 s2 q2
 clear p2 s2 q2 hc2 b0_1 b1_1 b2_1 b3_1 b4_1 b5_1 c2_1 f2_1 y00_1 y01_1 y02_1 y03_1 y04_1 y05_1 y10_1 y11_1 y12_1 y13_1 y14_1 y15_1
 obtain⟨b0_2,b1_2,b2_2,b3_2,b4_2,b5_2⟩:=six FR2.out.box
 obtain⟨y00_2,y01_2,y02_2,y03_2,y04_2,y05_2⟩:=HL.out 0 k0 rfl B v2 HBE.out FR2.out.bel
 simp only[Nat.zero_mul,Nat.add_zero] at y00_2 y01_2 y02_2 y03_2 y04_2 y05_2
 obtain⟨y10_2,y11_2,y12_2,y13_2,y14_2,y15_2⟩:=HL.out 1 k1 rfl B v2 HBE.out FR2.out.bel
 obtain⟨c2_2,f2_2⟩:=FR2.out.pl.bad
 go_wp2_with fail
 go_end0
 exact⟨rfl,FR2.out.done rfl (by omega)⟩
theorem single_37 {B pb:Nat}{W0:World}{n:Nat}(H:KidsRC B pb W0 n)(hB:B=W0.heap.size)(pl num:Int)(name op:ByteArray)(ad:Option Addr)(cap:Nat)(k0 k1 k2 k3:Tr n)(gen:Bool)(hsl:Sli.ok (encT n) 6 W0 ⟨ad,cap,[k0,k1,k2,k3]⟩)(hk:∀y∈[k0,k1,k2,k3],okT n W0 y)
  (w:World) (vU vV:Value) (s:St) (m:Nat) (hb:Below B W0 w) (hp:PlAt B pb w (some s) m vU vV) (hm:m+(1+szL [k0,k1,k2,k3])≤1000000) :
  Calls Tryz.prog 29 #[.pointer (some ⟨pb,0,none⟩),.agg #[.int .i64 37,.int .i64 pl,.string name,.int .u64 num,.string op,.slice ad 4 cap],.bool gen] w fun e w'=>e = .returned (.tuple #[])∧∃vU' vV',PlAt B pb w' (semR n 5 k3 gen (semR n 1 k2 gen (semR n 1 k1 gen (semR n 1 k0 gen (some s))))) (m+(1+szL [k0,k1,k2,k3])) vU' vV'∧Stp pb w vU vV w' vU' vV'∧Below B W0 w':=by
 have HH:Hid (KidsRC B pb W0 n):=H
 have HBE:Hid (B=W0.heap.size):=hB
 obtain⟨b,off,e1,hlie⟩:=kids_lie hsl (by simp)
 simp only at e1 hlie
 subst e1
 have HL:Hid (∀(k:Nat) (y:Tr n),[k0,k1,k2,k3][k]?=some y→∀(B:Nat) (w:World),B=W0.heap.size→Below B W0 w→Six w b (off+k*6) (ndT n y) (.slice (atT n y) (nkT n y) (capT n y))):=hlie
 have HK:Hid (∀y∈[k0,k1,k2,k3],okT n W0 y):=hk
 have hz:szL [k0,k1,k2,k3]=szT n k0+(szT n k1+(szT n k2+(szT n k3+0))):=by simp only[szL_cons,szL_nil]
 have HM:Hid (m+(1+(szT n k0+(szT n k1+(szT n k2+(szT n k3+0)))))≤1000000):=by rw[←hz];exact hm
 rw[hz]
 clear hm hz
 have HB:Hid (Below B W0 w∧PlAt B pb w (some s) m vU vV):=⟨hb,hp⟩
 clear hb hp H hB hsl hk hlie
 obtain⟨wb,hwb⟩:∃wb,wb=w.alloc (.cells #[.int .i64 37,.int .i64 pl,.string name,.int .u64 num,.string op,.slice (some ⟨b,off,none⟩) 4 cap] 25):=⟨_,rfl⟩
 have FR0:Hid (Fr B pb W0 w vU vV w.heap.size #[.int .i64 37,.int .i64 pl,.string name,.int .u64 num,.string op,.slice (some ⟨b,off,none⟩) 4 cap] wb vU vV (some s) m):=by rw[hwb];exact Fr.start HB.out.1 HB.out.2 _ _
 have pbn:¬pb=w.heap.size:=fun e=>FR0.out.sep (Or.inl e.symm)
 obtain⟨b0_0,b1_0,b2_0,b3_0,b4_0,b5_0⟩:=six FR0.out.box
 obtain⟨y00_0,y01_0,y02_0,y03_0,y04_0,y05_0⟩:=HL.out 0 k0 rfl B wb HBE.out FR0.out.bel
 simp only[Nat.zero_mul,Nat.add_zero] at y00_0 y01_0 y02_0 y03_0 y04_0 y05_0
 obtain⟨y10_0,y11_0,y12_0,y13_0,y14_0,y15_0⟩:=HL.out 1 k1 rfl B wb HBE.out FR0.out.bel
 obtain⟨y20_0,y21_0,y22_0,y23_0,y24_0,y25_0⟩:=HL.out 2 k2 rfl B wb HBE.out FR0.out.bel
 obtain⟨y30_0,y31_0,y32_0,y33_0,y34_0,y35_0⟩:=HL.out 3 k3 rfl B wb HBE.out FR0.out.bel
 obtain⟨c2_0,f2_0⟩:=FR0.out.pl.bad
 simp only[Option.isNone_some] at c2_0
 have hkids:=kids_any 37 wb
 have hkv:kidsR 37=4:=by unfold kidsR;simp
 rw[hkv] at hkids
 clear hkv
 go_enter Tryz.func29,Tryz.ntmps29
 go_upto_region 1 with fail
 rw[←hwb]
 clear hwb
 go_wp2_with fail
 refine hkids.mono ?_
 rintro e w1 ⟨rfl,rfl⟩
 clear hkids
 have hc1:=HH.out.perh k0 gen (HK.out k0 (by simp)) w1 vU vV (some s) (m) FR0.out.bel FR0.out.pl (by have:=HM.out;omega)
 go_wp2_with fail
 refine hc1.mono ?_
 rintro e v1 ⟨rfl,vU1,vV1,p1,s1,q1⟩
 have FR1:Hid (Fr B pb W0 w vU vV w.heap.size #[.int .i64 37,.int .i64 pl,.string name,.int .u64 num,.string op,.slice (some ⟨b,off,none⟩) 4 cap] v1 vU1 vV1 (semR n 1 k0 gen (some s)) (m+szT n k0)):=FR0.out.call p1 s1 q1
 clear p1 s1 q1 hc1 b0_0 b1_0 b2_0 b3_0 b4_0 b5_0 c2_0 f2_0 y00_0 y01_0 y02_0 y03_0 y04_0 y05_0 y10_0 y11_0 y12_0 y13_0 y14_0 y15_0 y20_0 y21_0 y22_0 y23_0 y24_0 y25_0 y30_0 y31_0 y32_0 y33_0 y34_0 y35_0
 obtain⟨b0_1,b1_1,b2_1,b3_1,b4_1,b5_1⟩:=six FR1.out.box
 obtain⟨y00_1,y01_1,y02_1,y03_1,y04_1,y05_1⟩:=HL.out 0 k0 rfl B v1 HBE.out FR1.out.bel
 simp only[Nat.zero_mul,Nat.add_zero] at y00_1 y01_1 y02_1 y03_1 y04_1 y05_1
 obtain⟨y10_1,y11_1,y12_1,y13_1,y14_1,y15_1⟩:=HL.out 1 k1 rfl B v1 HBE.out FR1.out.bel
 obtain⟨y20_1,y21_1,y22_1,y23_1,y24_1,y25_1⟩:=HL.out 2 k2 rfl B v1 HBE.out FR1.out.bel
 obtain⟨y30_1,y31_1,y32_1,y33_1,y34_1,y35_1⟩:=HL.out 3 k3 rfl B v1 HBE.out FR1.out.bel
 obtain⟨c2_1,f2_1⟩:=FR1.out.pl.bad
 have hc2:=HH.out.perh k1 gen (HK.out k1 (by simp)) v1 vU1 vV1 (semR n 1 k0 gen (some s)) (m+szT n k0) FR1.out.bel FR1.out.pl (by have:=HM.out;omega)
 go_wp2_with fail
 refine hc2.mono ?_
 rintro e v2 ⟨rfl,vU2,vV2,p2,s2,q2⟩
 have FR2:Hid (Fr B pb W0 w vU vV w.heap.size #[.int .i64 37,.int .i64 pl,.string name,.int .u64 num,.string op,.slice (some ⟨b,off,none⟩) 4 cap] v2 vU2 vV2 (semR n 1 k1 gen (semR n 1 k0 gen (some s))) (m+szT n k0+szT n k1)):=FR1.out.call p2 s2 q2
 clear p2 s2 q2 hc2 b0_1 b1_1 b2_1 b3_1 b4_1 b5_1 c2_1 f2_1 y00_1 y01_1 y02_1 y03_1 y04_1 y05_1 y10_1 y11_1 y12_1 y13_1 y14_1 y15_1 y20_1 y21_1 y22_1 y23_1 y24_1 y25_1 y30_1 y31_1 y32_1 y33_1 y34_1 y35_1
 obtain⟨b0_2,b1_2,b2_2,b3_2,b4_2,b5_2⟩:=six FR2.out.box
 obtain⟨y00_2,y01_2,y02_2,y03_2,y04_2,y05_2⟩:=HL.out 0 k0 rfl B v2 HBE.out FR2.out.bel
 simp only[Nat.zero_mul,Nat.add_zero] at y00_2 y01_2 y02_2 y03_2 y04_2 y05_2
 obtain⟨y10_2,y11_2,y12_2,y13_2,y14_2,y15_2⟩:=HL.out 1 k1 rfl B v2 HBE.out FR2.out.bel
 obtain⟨y20_2,y21_2,y22_2,y23_2,y24_2,y25_2⟩:=HL.out 2 k2 rfl B v2 HBE.out FR2.out.bel
 obtain⟨y30_2,y31_2,y32_2,y33_2,y34_2,y35_2⟩:=HL.out 3 k3 rfl B v2 HBE.out FR2.out.bel
 obtain⟨c2_2,f2_2⟩:=FR2.out.pl.bad
 have hc3:=HH.out.perh k2 gen (HK.out k2 (by simp)) v2 vU2 vV2 (semR n 1 k1 gen (semR n 1 k0 gen (some s))) (m+szT n k0+szT n k1) FR2.out.bel FR2.out.pl (by have:=HM.out;omega)
 go_wp2_with fail
 refine hc3.mono ?_
 rintro e v3 ⟨rfl,vU3,vV3,p3,s3,q3⟩
 have FR3:Hid (Fr B pb W0 w vU vV w.heap.size #[.int .i64 37,.int .i64 pl,.string name,.int .u64 num,.string op,.slice (some ⟨b,off,none⟩) 4 cap] v3 vU3 vV3 (semR n 1 k2 gen (semR n 1 k1 gen (semR n 1 k0 gen (some s)))) (m+szT n k0+szT n k1+szT n k2)):=FR2.out.call p3 s3 q3
 clear p3 s3 q3 hc3 b0_2 b1_2 b2_2 b3_2 b4_2 b5_2 c2_2 f2_2 y00_2 y01_2 y02_2 y03_2 y04_2 y05_2 y10_2 y11_2 y12_2 y13_2 y14_2 y15_2 y20_2 y21_2 y22_2 y23_2 y24_2 y25_2 y30_2 y31_2 y32_2 y33_2 y34_2 y35_2
 obtain⟨b0_3,b1_3,b2_3,b3_3,b4_3,b5_3⟩:=six FR3.out.box
 obtain⟨y00_3,y01_3,y02_3,y03_3,y04_3,y05_3⟩:=HL.out 0 k0 rfl B v3 HBE.out FR3.out.bel
 simp only[Nat.zero_mul,Nat.add_zero] at y00_3 y01_3 y02_3 y03_3 y04_3 y05_3
 obtain⟨y10_3,y11_3,y12_3,y13_3,y14_3,y15_3⟩:=HL.out 1 k1 rfl B v3 HBE.out FR3.out.bel
 obtain⟨y20_3,y21_3,y22_3,y23_3,y24_3,y25_3⟩:=HL.out 2 k2 rfl B v3 HBE.out FR3.out.bel
 obtain⟨y30_3,y31_3,y32_3,y33_3,y34_3,y35_3⟩:=HL.out 3 k3 rfl B v3 HBE.out FR3.out.bel
 obtain⟨c2_3,f2_3⟩:=FR3.out.pl.bad
 have hc4:=HH.out.sing k3 gen (HK.out k3 (by simp)) v3 vU3 vV3 (semR n 1 k2 gen (semR n 1 k1 gen (semR n 1 k0 gen (some s)))) (m+szT n k0+szT n k1+szT n k2) FR3.out.bel FR3.out.pl (by have:=HM.out;omega)
 go_wp2_with fail
 refine hc4.mono ?_
 rintro e v4 ⟨rfl,vU4,vV4,p4,s4,q4⟩
 have FR4:Hid (Fr B pb W0 w vU vV w.heap.size #[.int .i64 37,.int .i64 pl,.string name,.int .u64 num,.string op,.slice (some ⟨b,off,none⟩) 4 cap] v4 vU4 vV4 (semR n 5 k3 gen (semR n 1 k2 gen (semR n 1 k1 gen (semR n 1 k0 gen (some s))))) (m+szT n k0+szT n k1+szT n k2+szT n k3)):=FR3.out.call p4 s4 q4
 clear p4 s4 q4 hc4 b0_3 b1_3 b2_3 b3_3 b4_3 b5_3 c2_3 f2_3 y00_3 y01_3 y02_3 y03_3 y04_3 y05_3 y10_3 y11_3 y12_3 y13_3 y14_3 y15_3 y20_3 y21_3 y22_3 y23_3 y24_3 y25_3 y30_3 y31_3 y32_3 y33_3 y34_3 y35_3
 obtain⟨b0_4,b1_4,b2_4,b3_4,b4_4,b5_4⟩:=six FR4.out.box
 obtain⟨y00_4,y01_4,y02_4,y03_4,y04_4,y05_4⟩:=HL.out 0 k0 rfl B v4 HBE.out FR4.out.bel
 simp only[Nat.zero_mul,Nat.add_zero] at y00_4 y01_4 y02_4 y03_4 y04_4 y05_4
 obtain⟨y10_4,y11_4,y12_4,y13_4,y14_4,y15_4⟩:=HL.out 1 k1 rfl B v4 HBE.out FR4.out.bel
 obtain⟨y20_4,y21_4,y22_4,y23_4,y24_4,y25_4⟩:=HL.out 2 k2 rfl B v4 HBE.out FR4.out.bel
 obtain⟨y30_4,y31_4,y32_4,y33_4,y34_4,y35_4⟩:=HL.out 3 k3 rfl B v4 HBE.out FR4.out.bel
 obtain⟨c2_4,f2_4⟩:=FR4.out.pl.bad
 go_wp2_with fail
 go_end0
 exact⟨rfl,FR4.out.done rfl (by omega)⟩
theorem single_35a {B pb:Nat}{W0:World}{n:Nat}(H:KidsRC B pb W0 n)(hB:B=W0.heap.size)(pl num:Int)(name op:ByteArray)(ad:Option Addr)(cap:Nat)(k0 k1 k2:Tr n)(gen:Bool)(hsl:Sli.ok (encT n) 6 W0 ⟨ad,cap,[k0,k1,k2]⟩)(hk:∀y∈[k0,k1,k2],okT n W0 y)(hz2:(ndT n k2).kind≠0)
  (w:World) (vU vV:Value) (s:St) (m:Nat) (hb:Below B W0 w) (hp:PlAt B pb w (some s) m vU vV) (hm:m+(1+szL [k0,k1,k2])≤1000000) :
  Calls Tryz.prog 29 #[.pointer (some ⟨pb,0,none⟩),.agg #[.int .i64 35,.int .i64 pl,.string name,.int .u64 num,.string op,.slice ad 3 cap],.bool gen] w fun e w'=>e = .returned (.tuple #[])∧∃vU' vV',PlAt B pb w' (semR n 5 k2 gen (semR n 5 k1 gen (semR n 0 k0 gen (some s)))) (m+(1+szL [k0,k1,k2])) vU' vV'∧Stp pb w vU vV w' vU' vV'∧Below B W0 w':=by
 have HH:Hid (KidsRC B pb W0 n):=H
 have HBE:Hid (B=W0.heap.size):=hB
 obtain⟨b,off,e1,hlie⟩:=kids_lie hsl (by simp)
 simp only at e1 hlie
 subst e1
 have HL:Hid (∀(k:Nat) (y:Tr n),[k0,k1,k2][k]?=some y→∀(B:Nat) (w:World),B=W0.heap.size→Below B W0 w→Six w b (off+k*6) (ndT n y) (.slice (atT n y) (nkT n y) (capT n y))):=hlie
 have HK:Hid (∀y∈[k0,k1,k2],okT n W0 y):=hk
 have hz:szL [k0,k1,k2]=szT n k0+(szT n k1+(szT n k2+0)):=by simp only[szL_cons,szL_nil]
 have HM:Hid (m+(1+(szT n k0+(szT n k1+(szT n k2+0))))≤1000000):=by rw[←hz];exact hm
 rw[hz]
 clear hm hz
 have HB:Hid (Below B W0 w∧PlAt B pb w (some s) m vU vV):=⟨hb,hp⟩
 clear hb hp H hB hsl hk hlie
 have hzn2:(((ndT n k2).kind) != 0)=true:=by simpa using hz2
 obtain⟨wb,hwb⟩:∃wb,wb=w.alloc (.cells #[.int .i64 35,.int .i64 pl,.string name,.int .u64 num,.string op,.slice (some ⟨b,off,none⟩) 3 cap] 25):=⟨_,rfl⟩
 have FR0:Hid (Fr B pb W0 w vU vV w.heap.size #[.int .i64 35,.int .i64 pl,.string name,.int .u64 num,.string op,.slice (some ⟨b,off,none⟩) 3 cap] wb vU vV (some s) m):=by rw[hwb];exact Fr.start HB.out.1 HB.out.2 _ _
 have pbn:¬pb=w.heap.size:=fun e=>FR0.out.sep (Or.inl e.symm)
 obtain⟨b0_0,b1_0,b2_0,b3_0,b4_0,b5_0⟩:=six FR0.out.box
 obtain⟨y00_0,y01_0,y02_0,y03_0,y04_0,y05_0⟩:=HL.out 0 k0 rfl B wb HBE.out FR0.out.bel
 simp only[Nat.zero_mul,Nat.add_zero] at y00_0 y01_0 y02_0 y03_0 y04_0 y05_0
 obtain⟨y10_0,y11_0,y12_0,y13_0,y14_0,y15_0⟩:=HL.out 1 k1 rfl B wb HBE.out FR0.out.bel
 obtain⟨y20_0,y21_0,y22_0,y23_0,y24_0,y25_0⟩:=HL.out 2 k2 rfl B wb HBE.out FR0.out.bel
 obtain⟨c2_0,f2_0⟩:=FR0.out.pl.bad
 simp only[Option.isNone_some] at c2_0
 have hkids:=kids_any 35 wb
 have hkv:kidsR 35=3:=by unfold kidsR;simp
 rw[hkv] at hkids
 clear hkv
 go_enter Tryz.func29,Tryz.ntmps29
 go_upto_region 1 with fail
 rw[←hwb]
 clear hwb
 go_wp2_with fail
 refine hkids.mono ?_
 rintro e w1 ⟨rfl,rfl⟩
 clear hkids
 have hc1:=HH.out.term k0 gen (HK.out k0 (by simp)) w1 vU vV (some s) (m) FR0.out.bel FR0.out.pl (by have:=HM.out;omega)
 go_wp2_with fail
 refine hc1.mono ?_
 rintro e v1 ⟨rfl,vU1,vV1,p1,s1,q1⟩
 have FR1:Hid (Fr B pb W0 w vU vV w.heap.size #[.int .i64 35,.int .i64 pl,.string name,.int .u64 num,.string op,.slice (some ⟨b,off,none⟩) 3 cap] v1 vU1 vV1 (semR n 0 k0 gen (some s)) (m+szT n k0)):=FR0.out.call p1 s1 q1
 clear p1 s1 q1 hc1 b0_0 b1_0 b2_0 b3_0 b4_0 b5_0 c2_0 f2_0 y00_0 y01_0 y02_0 y03_0 y04_0 y05_0 y10_0 y11_0 y12_0 y13_0 y14_0 y15_0 y20_0 y21_0 y22_0 y23_0 y24_0 y25_0
 obtain⟨b0_1,b1_1,b2_1,b3_1,b4_1,b5_1⟩:=six FR1.out.box
 obtain⟨y00_1,y01_1,y02_1,y03_1,y04_1,y05_1⟩:=HL.out 0 k0 rfl B v1 HBE.out FR1.out.bel
 simp only[Nat.zero_mul,Nat.add_zero] at y00_1 y01_1 y02_1 y03_1 y04_1 y05_1
 obtain⟨y10_1,y11_1,y12_1,y13_1,y14_1,y15_1⟩:=HL.out 1 k1 rfl B v1 HBE.out FR1.out.bel
 obtain⟨y20_1,y21_1,y22_1,y23_1,y24_1,y25_1⟩:=HL.out 2 k2 rfl B v1 HBE.out FR1.out.bel
 obtain⟨c2_1,f2_1⟩:=FR1.out.pl.bad
 have hc2:=HH.out.sing k1 gen (HK.out k1 (by simp)) v1 vU1 vV1 (semR n 0 k0 gen (some s)) (m+szT n k0) FR1.out.bel FR1.out.pl (by have:=HM.out;omega)
 go_wp2_with fail
 refine hc2.mono ?_
 rintro e v2 ⟨rfl,vU2,vV2,p2,s2,q2⟩
 have FR2:Hid (Fr B pb W0 w vU vV w.heap.size #[.int .i64 35,.int .i64 pl,.string name,.int .u64 num,.string op,.slice (some ⟨b,off,none⟩) 3 cap] v2 vU2 vV2 (semR n 5 k1 gen (semR n 0 k0 gen (some s))) (m+szT n k0+szT n k1)):=FR1.out.call p2 s2 q2
 clear p2 s2 q2 hc2 b0_1 b1_1 b2_1 b3_1 b4_1 b5_1 c2_1 f2_1 y00_1 y01_1 y02_1 y03_1 y04_1 y05_1 y10_1 y11_1 y12_1 y13_1 y14_1 y15_1 y20_1 y21_1 y22_1 y23_1 y24_1 y25_1
 obtain⟨b0_2,b1_2,b2_2,b3_2,b4_2,b5_2⟩:=six FR2.out.box
 obtain⟨y00_2,y01_2,y02_2,y03_2,y04_2,y05_2⟩:=HL.out 0 k0 rfl B v2 HBE.out FR2.out.bel
 simp only[Nat.zero_mul,Nat.add_zero] at y00_2 y01_2 y02_2 y03_2 y04_2 y05_2
 obtain⟨y10_2,y11_2,y12_2,y13_2,y14_2,y15_2⟩:=HL.out 1 k1 rfl B v2 HBE.out FR2.out.bel
 obtain⟨y20_2,y21_2,y22_2,y23_2,y24_2,y25_2⟩:=HL.out 2 k2 rfl B v2 HBE.out FR2.out.bel
 obtain⟨c2_2,f2_2⟩:=FR2.out.pl.bad
 have hc3:=HH.out.sing k2 gen (HK.out k2 (by simp)) v2 vU2 vV2 (semR n 5 k1 gen (semR n 0 k0 gen (some s))) (m+szT n k0+szT n k1) FR2.out.bel FR2.out.pl (by have:=HM.out;omega)
 go_wp2_with fail
 refine hc3.mono ?_
 rintro e v3 ⟨rfl,vU3,vV3,p3,s3,q3⟩
 have FR3:Hid (Fr B pb W0 w vU vV w.heap.size #[.int .i64 35,.int .i64 pl,.string name,.int .u64 num,.string op,.slice (some ⟨b,off,none⟩) 3 cap] v3 vU3 vV3 (semR n 5 k2 gen (semR n 5 k1 gen (semR n 0 k0 gen (some s)))) (m+szT n k0+szT n k1+szT n k2)):=FR2.out.call p3 s3 q3
 clear p3 s3 q3 hc3 b0_2 b1_2 b2_2 b3_2 b4_2 b5_2 c2_2 f2_2 y00_2 y01_2 y02_2 y03_2 y04_2 y05_2 y10_2 y11_2 y12_2 y13_2 y14_2 y15_2 y20_2 y21_2 y22_2 y23_2 y24_2 y25_2
 obtain⟨b0_3,b1_3,b2_3,b3_3,b4_3,b5_3⟩:=six FR3.out.box
 obtain⟨y00_3,y01_3,y02_3,y03_3,y04_3,y05_3⟩:=HL.out 0 k0 rfl B v3 HBE.out FR3.out.bel
 simp only[Nat.zero_mul,Nat.add_zero] at y00_3 y01_3 y02_3 y03_3 y04_3 y05_3
 obtain⟨y10_3,y11_3,y12_3,y13_3,y14_3,y15_3⟩:=HL.out 1 k1 rfl B v3 HBE.out FR3.out.bel
 obtain⟨y20_3,y21_3,y22_3,y23_3,y24_3,y25_3⟩:=HL.out 2 k2 rfl B v3 HBE.out FR3.out.bel
 obtain⟨c2_3,f2_3⟩:=FR3.out.pl.bad
 go_wp2_with fail
 go_end0
 exact⟨rfl,FR3.out.done rfl (by omega)⟩
theorem single_35b {B pb:Nat}{W0:World}{n:Nat}(H:KidsRC B pb W0 n)(hB:B=W0.heap.size)(pl num:Int)(name op:ByteArray)(ad:Option Addr)(cap:Nat)(k0 k1 k2:Tr n)(gen:Bool)(hsl:Sli.ok (encT n) 6 W0 ⟨ad,cap,[k0,k1,k2]⟩)(hk:∀y∈[k0,k1,k2],okT n W0 y)(hz2:(ndT n k2).kind=0)
  (w:World) (vU vV:Value) (s:St) (m:Nat) (hb:Below B W0 w) (hp:PlAt B pb w (some s) m vU vV) (hm:m+(1+szL [k0,k1,k2])≤1000000) :
  Calls Tryz.prog 29 #[.pointer (some ⟨pb,0,none⟩),.agg #[.int .i64 35,.int .i64 pl,.string name,.int .u64 num,.string op,.slice ad 3 cap],.bool gen] w fun e w'=>e = .returned (.tuple #[])∧∃vU' vV',PlAt B pb w' (emptyN k2 (semR n 5 k1 gen (semR n 0 k0 gen (some s)))) (m+(1+szL [k0,k1,k2])) vU' vV'∧Stp pb w vU vV w' vU' vV'∧Below B W0 w':=by
 have HH:Hid (KidsRC B pb W0 n):=H
 have HBE:Hid (B=W0.heap.size):=hB
 obtain⟨b,off,e1,hlie⟩:=kids_lie hsl (by simp)
 simp only at e1 hlie
 subst e1
 have HL:Hid (∀(k:Nat) (y:Tr n),[k0,k1,k2][k]?=some y→∀(B:Nat) (w:World),B=W0.heap.size→Below B W0 w→Six w b (off+k*6) (ndT n y) (.slice (atT n y) (nkT n y) (capT n y))):=hlie
 have HK:Hid (∀y∈[k0,k1,k2],okT n W0 y):=hk
 have hz:szL [k0,k1,k2]=szT n k0+(szT n k1+(szT n k2+0)):=by simp only[szL_cons,szL_nil]
 have HM:Hid (m+(1+(szT n k0+(szT n k1+(szT n k2+0))))≤1000000):=by rw[←hz];exact hm
 rw[hz]
 clear hm hz
 have HB:Hid (Below B W0 w∧PlAt B pb w (some s) m vU vV):=⟨hb,hp⟩
 clear hb hp H hB hsl hk hlie
 have hzz2:Hid ((ndT n k2).kind=0):=hz2
 clear hz2
 obtain⟨wb,hwb⟩:∃wb,wb=w.alloc (.cells #[.int .i64 35,.int .i64 pl,.string name,.int .u64 num,.string op,.slice (some ⟨b,off,none⟩) 3 cap] 25):=⟨_,rfl⟩
 have FR0:Hid (Fr B pb W0 w vU vV w.heap.size #[.int .i64 35,.int .i64 pl,.string name,.int .u64 num,.string op,.slice (some ⟨b,off,none⟩) 3 cap] wb vU vV (some s) m):=by rw[hwb];exact Fr.start HB.out.1 HB.out.2 _ _
 have pbn:¬pb=w.heap.size:=fun e=>FR0.out.sep (Or.inl e.symm)
 obtain⟨b0_0,b1_0,b2_0,b3_0,b4_0,b5_0⟩:=six FR0.out.box
 obtain⟨y00_0,y01_0,y02_0,y03_0,y04_0,y05_0⟩:=HL.out 0 k0 rfl B wb HBE.out FR0.out.bel
 simp only[Nat.zero_mul,Nat.add_zero] at y00_0 y01_0 y02_0 y03_0 y04_0 y05_0
 obtain⟨y10_0,y11_0,y12_0,y13_0,y14_0,y15_0⟩:=HL.out 1 k1 rfl B wb HBE.out FR0.out.bel
 obtain⟨y20_0,y21_0,y22_0,y23_0,y24_0,y25_0⟩:=HL.out 2 k2 rfl B wb HBE.out FR0.out.bel
 rw[hzz2.out] at y20_0
 obtain⟨c2_0,f2_0⟩:=FR0.out.pl.bad
 simp only[Option.isNone_some] at c2_0
 have hkids:=kids_any 35 wb
 have hkv:kidsR 35=3:=by unfold kidsR;simp
 rw[hkv] at hkids
 clear hkv
 go_enter Tryz.func29,Tryz.ntmps29
 go_upto_region 1 with fail
 rw[←hwb]
 clear hwb
 go_wp2_with fail
 refine hkids.mono ?_
 rintro e w1 ⟨rfl,rfl⟩
 clear hkids
 have hc1:=HH.out.term k0 gen (HK.out k0 (by simp)) w1 vU vV (some s) (m) FR0.out.bel FR0.out.pl (by have:=HM.out;omega)
 go_wp2_with fail
 refine hc1.mono ?_
 rintro e v1 ⟨rfl,vU1,vV1,p1,s1,q1⟩
 have FR1:Hid (Fr B pb W0 w vU vV w.heap.size #[.int .i64 35,.int .i64 pl,.string name,.int .u64 num,.string op,.slice (some ⟨b,off,none⟩) 3 cap] v1 vU1 vV1 (semR n 0 k0 gen (some s)) (m+szT n k0)):=FR0.out.call p1 s1 q1
 clear p1 s1 q1 hc1 b0_0 b1_0 b2_0 b3_0 b4_0 b5_0 c2_0 f2_0 y00_0 y01_0 y02_0 y03_0 y04_0 y05_0 y10_0 y11_0 y12_0 y13_0 y14_0 y15_0 y20_0 y21_0 y22_0 y23_0 y24_0 y25_0
 obtain⟨b0_1,b1_1,b2_1,b3_1,b4_1,b5_1⟩:=six FR1.out.box
 obtain⟨y00_1,y01_1,y02_1,y03_1,y04_1,y05_1⟩:=HL.out 0 k0 rfl B v1 HBE.out FR1.out.bel
 simp only[Nat.zero_mul,Nat.add_zero] at y00_1 y01_1 y02_1 y03_1 y04_1 y05_1
 obtain⟨y10_1,y11_1,y12_1,y13_1,y14_1,y15_1⟩:=HL.out 1 k1 rfl B v1 HBE.out FR1.out.bel
 obtain⟨y20_1,y21_1,y22_1,y23_1,y24_1,y25_1⟩:=HL.out 2 k2 rfl B v1 HBE.out FR1.out.bel
 rw[hzz2.out] at y20_1
 obtain⟨c2_1,f2_1⟩:=FR1.out.pl.bad
 have hc2:=HH.out.sing k1 gen (HK.out k1 (by simp)) v1 vU1 vV1 (semR n 0 k0 gen (some s)) (m+szT n k0) FR1.out.bel FR1.out.pl (by have:=HM.out;omega)
 go_wp2_with fail
 refine hc2.mono ?_
 rintro e v2 ⟨rfl,vU2,vV2,p2,s2,q2⟩
 have FR2:Hid (Fr B pb W0 w vU vV w.heap.size #[.int .i64 35,.int .i64 pl,.string name,.int .u64 num,.string op,.slice (some ⟨b,off,none⟩) 3 cap] v2 vU2 vV2 (semR n 5 k1 gen (semR n 0 k0 gen (some s))) (m+szT n k0+szT n k1)):=FR1.out.call p2 s2 q2
 clear p2 s2 q2 hc2 b0_1 b1_1 b2_1 b3_1 b4_1 b5_1 c2_1 f2_1 y00_1 y01_1 y02_1 y03_1 y04_1 y05_1 y10_1 y11_1 y12_1 y13_1 y14_1 y15_1 y20_1 y21_1 y22_1 y23_1 y24_1 y25_1
 obtain⟨b0_2,b1_2,b2_2,b3_2,b4_2,b5_2⟩:=six FR2.out.box
 obtain⟨y00_2,y01_2,y02_2,y03_2,y04_2,y05_2⟩:=HL.out 0 k0 rfl B v2 HBE.out FR2.out.bel
 simp only[Nat.zero_mul,Nat.add_zero] at y00_2 y01_2 y02_2 y03_2 y04_2 y05_2
 obtain⟨y10_2,y11_2,y12_2,y13_2,y14_2,y15_2⟩:=HL.out 1 k1 rfl B v2 HBE.out FR2.out.bel
 obtain⟨y20_2,y21_2,y22_2,y23_2,y24_2,y25_2⟩:=HL.out 2 k2 rfl B v2 HBE.out FR2.out.bel
 rw[hzz2.out] at y20_2
 obtain⟨c2_2,f2_2⟩:=FR2.out.pl.bad
 have hc3:=(empty_kid k2 (HK.out k2 (by simp)) (ndT n k2) rfl) v2 vU2 vV2 (semR n 5 k1 gen (semR n 0 k0 gen (some s))) (m+szT n k0+szT n k1) FR2.out.bel FR2.out.pl (by have:=HM.out;omega)
 rw[hzz2.out] at hc3
 go_wp2_with fail
 refine hc3.mono ?_
 rintro e v3 ⟨rfl,vU3,vV3,p3,s3,q3⟩
 have FR3:Hid (Fr B pb W0 w vU vV w.heap.size #[.int .i64 35,.int .i64 pl,.string name,.int .u64 num,.string op,.slice (some ⟨b,off,none⟩) 3 cap] v3 vU3 vV3 (emptyN k2 (semR n 5 k1 gen (semR n 0 k0 gen (some s)))) (m+szT n k0+szT n k1+0)):=FR2.out.call p3 s3 q3
 clear p3 s3 q3 hc3 b0_2 b1_2 b2_2 b3_2 b4_2 b5_2 c2_2 f2_2 y00_2 y01_2 y02_2 y03_2 y04_2 y05_2 y10_2 y11_2 y12_2 y13_2 y14_2 y15_2 y20_2 y21_2 y22_2 y23_2 y24_2 y25_2
 obtain⟨b0_3,b1_3,b2_3,b3_3,b4_3,b5_3⟩:=six FR3.out.box
 obtain⟨y00_3,y01_3,y02_3,y03_3,y04_3,y05_3⟩:=HL.out 0 k0 rfl B v3 HBE.out FR3.out.bel
 simp only[Nat.zero_mul,Nat.add_zero] at y00_3 y01_3 y02_3 y03_3 y04_3 y05_3
 obtain⟨y10_3,y11_3,y12_3,y13_3,y14_3,y15_3⟩:=HL.out 1 k1 rfl B v3 HBE.out FR3.out.bel
 obtain⟨y20_3,y21_3,y22_3,y23_3,y24_3,y25_3⟩:=HL.out 2 k2 rfl B v3 HBE.out FR3.out.bel
 rw[hzz2.out] at y20_3
 obtain⟨c2_3,f2_3⟩:=FR3.out.pl.bad
 go_wp2_with fail
 go_end0
 exact⟨rfl,FR3.out.done rfl (by omega)⟩
end Go.Proofs.YtihmdcdifakepaaGreat.Sc
