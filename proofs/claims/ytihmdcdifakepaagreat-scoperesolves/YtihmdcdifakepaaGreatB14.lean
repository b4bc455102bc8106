/- WR, WS, XA, XB -/
import Derived.Test.YtihmdcdifakepaaGreatWQ
import Derived.Maps.OwnSet
import Derived.Maps.OwnOps
import Derived.Maps.Own
set_option linter.unusedVariables false
set_option linter.unusedSimpArgs false
set_option maxRecDepth 100000
set_option maxHeartbeats 40000000
namespace Go.Proofs.YtihmdcdifakepaaGreat.Sc
open Go.RowKit
theorem single_at_once {B pb:Nat}{W0:World}(kind pl num:Int)(name op:ByteArray)(ad:Option Addr)(len cap:Nat)(gen:Bool)(w:World)(vU vV:Value)(m m':Nat)(hb:Below B W0 w)(hp:PlAt B pb w none m vU vV)(hm:m≤m') :
  Calls Tryz.prog 29 #[.pointer (some ⟨pb,0,none⟩),.agg #[.int .i64 kind,.int .i64 pl,.string name,.int .u64 num,.string op,.slice ad len cap],.bool gen] w fun e w'=>e = .returned (.tuple #[])∧∃vU' vV',PlAt B pb w' none m' vU' vV'∧Stp pb w vU vV w' vU' vV'∧Below B W0 w':=by
 obtain⟨wb,hwb⟩:∃wb,wb=w.alloc (.cells #[.int .i64 kind,.int .i64 pl,.string name,.int .u64 num,.string op,.slice ad len cap] 25):=⟨_,rfl⟩
 have FR:Hid (Fr B pb W0 w vU vV w.heap.size #[.int .i64 kind,.int .i64 pl,.string name,.int .u64 num,.string op,.slice ad len cap] wb vU vV none m):=by rw[hwb];exact Fr.start hb hp _ _
 obtain⟨c2,f2⟩:=FR.out.pl.bad
 simp only[Option.isNone_none] at c2
 clear hb hp
 go_enter Tryz.func29,Tryz.ntmps29
 go_upto_region 1 with fail
 rw[←hwb]
 clear hwb
 go_wp2_with fail
 refine bodyPost_ret (results_none rfl _ _ _) rfl ?_
 exact⟨rfl,FR.out.done rfl (by omega)⟩
theorem single_block {B pb:Nat}{W0:World}(pl num:Int)(name op:ByteArray)(ad:Option Addr)(len cap:Nat)(gen:Bool)(f:RS→RS)(z:Nat)(hf:RC B pb W0 18 #[.pointer (some ⟨pb,0,none⟩),.slice ad len cap,.bool gen] f z)
  (w:World) (vU vV:Value) (s:St) (m m':Nat) (hb:Below B W0 w) (hp:PlAt B pb w (some s) m vU vV) (hm:m+z≤m') (hm2:m'≤1000000) :
  Calls Tryz.prog 29 #[.pointer (some ⟨pb,0,none⟩),.agg #[.int .i64 44,.int .i64 pl,.string name,.int .u64 num,.string op,.slice ad len cap],.bool gen] w fun e w'=>e = .returned (.tuple #[])∧∃vU' vV',PlAt B pb w' (f (some s)) m' vU' vV'∧Stp pb w vU vV w' vU' vV'∧Below B W0 w':=by
 obtain⟨wb,hwb⟩:∃wb,wb=w.alloc (.cells #[.int .i64 44,.int .i64 pl,.string name,.int .u64 num,.string op,.slice ad len cap] 25):=⟨_,rfl⟩
 have FR:Hid (Fr B pb W0 w vU vV w.heap.size #[.int .i64 44,.int .i64 pl,.string name,.int .u64 num,.string op,.slice ad len cap] wb vU vV (some s) m):=by rw[hwb];exact Fr.start hb hp _ _
 have b0:wb.cell? ⟨w.heap.size,0,none⟩=some (.int .i64 44):=FR.out.box 0 _ rfl
 have b5:wb.cell? ⟨w.heap.size,5,none⟩=some (.slice ad len cap):=FR.out.box 5 _ rfl
 obtain⟨c2,f2⟩:=FR.out.pl.bad
 simp only[Option.isNone_some] at c2
 have hc:=hf wb vU vV (some s) m FR.out.bel FR.out.pl (by omega)
 clear hb hp hf
 go_enter Tryz.func29,Tryz.ntmps29
 go_upto_region 1 with fail
 rw[←hwb]
 clear hwb
 go_wp2_with fail
 refine hc.mono ?_
 rintro e w2 ⟨rfl,vU2,vV2,p2,s2,q2⟩
 have FR2:Hid (Fr B pb W0 w vU vV w.heap.size #[.int .i64 44,.int .i64 pl,.string name,.int .u64 num,.string op,.slice ad len cap] w2 vU2 vV2 (f (some s)) (m+z)):=FR.out.call p2 s2 q2
 clear p2 s2 q2 hc
 go_wp2_with fail
 refine bodyPost_ret (results_none rfl _ _ _) rfl ?_
 exact⟨rfl,FR2.out.done rfl (by omega)⟩
theorem single_bad {B pb:Nat}{W0:World}(kind pl num:Int)(name op:ByteArray)(ad:Option Addr)(len cap:Nat)(gen:Bool)(h44:kind≠44)(hbad:kidsR kind<0∨kidsR kind≠(len:Int))(hl:len≤2 ^ 63 - 1)
  (w:World) (vU vV:Value) (s:St) (m m':Nat) (hb:Below B W0 w) (hp:PlAt B pb w (some s) m vU vV) (hm:m≤m') :
  Calls Tryz.prog 29 #[.pointer (some ⟨pb,0,none⟩),.agg #[.int .i64 kind,.int .i64 pl,.string name,.int .u64 num,.string op,.slice ad len cap],.bool gen] w fun e w'=>e = .returned (.tuple #[])∧∃vU' vV',PlAt B pb w' none m' vU' vV'∧Stp pb w vU vV w' vU' vV'∧Below B W0 w':=by
 obtain⟨wb,hwb⟩:∃wb,wb=w.alloc (.cells #[.int .i64 kind,.int .i64 pl,.string name,.int .u64 num,.string op,.slice ad len cap] 25):=⟨_,rfl⟩
 have FR:Hid (Fr B pb W0 w vU vV w.heap.size #[.int .i64 kind,.int .i64 pl,.string name,.int .u64 num,.string op,.slice ad len cap] wb vU vV (some s) m):=by rw[hwb];exact Fr.start hb hp _ _
 have b0:wb.cell? ⟨w.heap.size,0,none⟩=some (.int .i64 kind):=FR.out.box 0 _ rfl
 have b5:wb.cell? ⟨w.heap.size,5,none⟩=some (.slice ad len cap):=FR.out.box 5 _ rfl
 obtain⟨c2,f2⟩:=FR.out.pl.bad
 simp only[Option.isNone_some] at c2
 have hkids:=kids_any kind wb
 have h44':(kind == 44)=false:=by simpa using h44
 obtain⟨q,hq⟩:∃q,q=kidsR kind:=⟨_,rfl⟩
 rw[←hq] at hkids hbad
 clear hq hb hp
 have hw:q<0∨(¬q<0∧(q != (len:Int))=true):=by
  by_cases z:q<0
  ·exact Or.inl z
  ·refine Or.inr ⟨z,?_⟩
   rcases hbad with y | y
   ·exact absurd y z
   ·simpa using y
 clear hbad
 rcases hw with z | ⟨z,z2⟩
 all_goals
  go_enter Tryz.func29,Tryz.ntmps29
  go_upto_region 1 with fail
  rw[←hwb]
  clear hwb
  go_wp2_with fail
  refine hkids.mono ?_
  rintro e w1 ⟨rfl,rfl⟩
  clear hkids
  go_wp2_with fail
  refine bodyPost_ret (results_none rfl _ _ _) rfl ?_
  exact⟨rfl,FR.out.spoil.done rfl (by omega)⟩
theorem single_nil {B pb:Nat}{W0:World}(kind pl num:Int)(name op:ByteArray)(ad:Option Addr)(cap:Nat)(gen:Bool)(hk:kind=39∨kind=40∨kind=45)
  (w:World) (vU vV:Value) (s:St) (m m':Nat) (hb:Below B W0 w) (hp:PlAt B pb w (some s) m vU vV) (hm:m≤m') :
  Calls Tryz.prog 29 #[.pointer (some ⟨pb,0,none⟩),.agg #[.int .i64 kind,.int .i64 pl,.string name,.int .u64 num,.string op,.slice ad 0 cap],.bool gen] w fun e w'=>e = .returned (.tuple #[])∧∃vU' vV',PlAt B pb w' (some s) m' vU' vV'∧Stp pb w vU vV w' vU' vV'∧Below B W0 w':=by
 obtain⟨wb,hwb⟩:∃wb,wb=w.alloc (.cells #[.int .i64 kind,.int .i64 pl,.string name,.int .u64 num,.string op,.slice ad 0 cap] 25):=⟨_,rfl⟩
 have FR:Hid (Fr B pb W0 w vU vV w.heap.size #[.int .i64 kind,.int .i64 pl,.string name,.int .u64 num,.string op,.slice ad 0 cap] wb vU vV (some s) m):=by rw[hwb];exact Fr.start hb hp _ _
 have b0:wb.cell? ⟨w.heap.size,0,none⟩=some (.int .i64 kind):=FR.out.box 0 _ rfl
 have b5:wb.cell? ⟨w.heap.size,5,none⟩=some (.slice ad 0 cap):=FR.out.box 5 _ rfl
 obtain⟨c2,f2⟩:=FR.out.pl.bad
 simp only[Option.isNone_some] at c2
 have hkids:=kids_any kind wb
 have hq:kidsR kind=0:=by unfold kidsR;rcases hk with c | c | c <;> simp[c]
 rw[hq] at hkids
 clear hq hb hp
 rcases hk with rfl | rfl | rfl
 all_goals
  go_enter Tryz.func29,Tryz.ntmps29
  go_upto_region 1 with fail
  rw[←hwb]
  clear hwb
  go_wp2_with fail
  refine hkids.mono ?_
  rintro e w1 ⟨rfl,rfl⟩
  clear hkids
  go_wp2_with fail
  go_end0
  exact⟨rfl,FR.out.done rfl (by omega)⟩
theorem kd0_at {n:Nat}(xs:List (Tr n))(i:Nat)(k:Tr n)(h:xs[i]?=some k):kd0 (kidT n) xs i=(ndT n k).kind:=by
 unfold kd0;rw[h];exact kd_nd n k
theorem emptyK_at {n:Nat}(xs:List (Tr n))(i:Nat)(k:Tr n)(h:xs[i]?=some k)(st:RS):emptyK (kidT n) xs i st=emptyN k st:=by
 unfold emptyK;rw[h];rfl
theorem single_rc {B pb:Nat}{W0:World}{n:Nat}(H:KidsRC B pb W0 n)(hB:B=W0.heap.size)(x:Nd)(s:Sli (Tr n))(gen:Bool)(hok:okT (n+1) W0 ((x,s):Nd×Sli (Tr n)))
  (hf:RC B pb W0 18 #[.pointer (some ⟨pb,0,none⟩),.slice s.at' s.xs.length s.cap,.bool gen] (bodyR (semR n) s.xs gen) (szL s.xs)) :
  RC B pb W0 29 #[.pointer (some ⟨pb,0,none⟩),valT (n+1) ((x,s):Nd×Sli (Tr n)),.bool gen] (singleR (kidT n) (semR n) x s.xs gen) (szT (n+1) ((x,s):Nd×Sli (Tr n))):=by
 intro w vU vV st m hb hp hm
 have hl:s.xs.length≤2 ^ 63 - 1:=Nat.le_trans hok.2.1.len hok.2.1.cap
 have hsl:=hok.2.1
 have hkd:=hok.2.2
 obtain⟨kind,pl,name,num,op⟩:=x
 obtain⟨ad,cap,xs⟩:=s
 rw[val_succ]
 have hz:szT (n+1) ((⟨kind,pl,name,num,op⟩,⟨ad,cap,xs⟩):Nd×Sli (Tr n))=1+szL xs:=rfl
 rw[hz] at hm ⊢
 simp only at hf hl hsl hkd ⊢
 clear hok hz
 cases st with
 | none=>exact single_at_once kind pl num name op ad xs.length cap gen w vU vV m _ hb hp (by omega)
 | some a =>
   obtain⟨R,hR⟩:∃R,R=singleR (kidT n) (semR n) ⟨kind,pl,name,num,op⟩ xs gen (some a):=⟨_,rfl⟩
   rw[←hR]
   unfold singleR at hR
   simp only[Option.bind_some] at hR
   by_cases h44:kind=44
   ·subst h44
    rw[if_pos rfl] at hR
    rw[hR]
    exact single_block pl num name op ad xs.length cap gen _ _ hf w vU vV a m _ hb hp (by omega) hm
   rw[if_neg h44] at hR
   by_cases hbad:kidsR kind<0∨kidsR kind≠(xs.length:Int)
   ·rw[if_pos hbad] at hR
    rw[hR]
    exact single_bad kind pl num name op ad xs.length cap gen h44 hbad hl w vU vV a m _ hb hp (by omega)
   rw[if_neg hbad] at hR
   have hlen:kidsR kind=(xs.length:Int):=by
    by_cases q:kidsR kind=(xs.length:Int)
    ·exact q
    ·exact absurd (Or.inr q) hbad
   have hpos:¬kidsR kind<0:=fun q=>hbad (Or.inl q)
   clear hbad
   have hks:kind=34∨(kind=42∨kind=46)∨kind=41∨kind=36∨kind=35∨kind=37∨kind=38∨kind=43∨(kind=39∨kind=40∨kind=45):=by
    unfold kidsR at hpos
    by_cases z1:kind=34∨kind=41∨kind=42∨kind=46
    ·omega
    rw[if_neg z1] at hpos
    by_cases z2:kind=36∨kind=38
    ·omega
    rw[if_neg z2] at hpos
    by_cases z3:kind=35∨kind=43
    ·omega
    rw[if_neg z3] at hpos
    by_cases z4:kind=37
    ·omega
    rw[if_neg z4] at hpos
    by_cases z5:kind=39∨kind=40∨kind=45
    ·omega
    rw[if_neg z5] at hpos
    exact absurd (by decide) hpos
   clear hpos
   rcases hks with c | c | c | c | c | c | c | c | c
   ·subst c
    have hl1:xs.length=1:=by have:kidsR 34=1:=by unfold kidsR;simp
                             omega
    match xs,hl1 with
    | [k0],_ =>
      rw[hR]
      exact single_34 H hB pl num name op ad cap k0 gen hsl hkd w vU vV a m hb hp hm
   ·have hl1:xs.length=1:=by have:kidsR kind=1:=by unfold kidsR;rcases c with c | c <;> simp[c]
                             omega
    match xs,hl1 with
    | [k0],_ =>
      rcases c with c | c
      ·subst c
       rw[hR]
       exact single_42 H hB pl num name op ad cap k0 gen hsl hkd w vU vV a m hb hp hm
      ·subst c
       rw[hR]
       exact single_46 H hB pl num name op ad cap k0 gen hsl hkd w vU vV a m hb hp hm
   ·subst c
    have hl1:xs.length=1:=by have:kidsR 41=1:=by unfold kidsR;simp
                             omega
    match xs,hl1 with
    | [k0],_ =>
      rw[hR]
      exact single_41 H hB pl num name op ad cap k0 gen hsl hkd w vU vV a m hb hp hm
   ·subst c
    have hl1:xs.length=2:=by have:kidsR 36=2:=by unfold kidsR;simp
                             omega
    match xs,hl1 with
    | [k0,k1],_ =>
      rw[hR]
      exact single_36 H hB pl num name op ad cap k0 k1 gen hsl hkd w vU vV a m hb hp hm
   ·subst c
    have hl1:xs.length=3:=by have:kidsR 35=3:=by unfold kidsR;simp
                             omega
    match xs,hl1 with
    | [k0,k1,k2],_ =>
      have hR':R=orR (kidT n) (semR n) 5 [k0,k1,k2] 2 gen (semR n 5 k1 gen (semR n 0 k0 gen (some a))):=hR
      unfold orR at hR'
      rw[kd0_at _ 2 k2 rfl] at hR'
      by_cases z:(ndT n k2).kind=0
      ·rw[if_neg (by omega),emptyK_at _ 2 k2 rfl] at hR'
       rw[hR']
       exact single_35b H hB pl num name op ad cap k0 k1 k2 gen hsl hkd z w vU vV a m hb hp hm
      ·rw[if_pos z] at hR'
       rw[hR']
       exact single_35a H hB pl num name op ad cap k0 k1 k2 gen hsl hkd z w vU vV a m hb hp hm
   ·subst c
    have hl1:xs.length=4:=by have:kidsR 37=4:=by unfold kidsR;simp
                             omega
    match xs,hl1 with
    | [k0,k1,k2,k3],_ =>
      rw[hR]
      exact single_37 H hB pl num name op ad cap k0 k1 k2 k3 gen hsl hkd w vU vV a m hb hp hm
   ·subst c
    have hl1:xs.length=2:=by have:kidsR 38=2:=by unfold kidsR;simp
                             omega
    match xs,hl1 with
    | [k0,k1],_ =>
      have hR':R=semR n 5 k1 gen (semR n 0 k0 gen (if isS op [108,101,116]=false∧isS op [99,111,110,115,116]=false then none else decR pl (some a))):=hR
      cases o1:isS op [108,101,116] with
      | true =>
        rw[if_neg (by rw[o1];simp)] at hR'
        rw[hR']
        exact single_38a H hB pl num name op ad cap k0 k1 gen hsl hkd o1 w vU vV a m hb hp hm
      | false =>
        cases o2:isS op [99,111,110,115,116] with
        | true =>
          rw[if_neg (by rw[o2];simp)] at hR'
          rw[hR']
          exact single_38b H hB pl num name op ad cap k0 k1 gen hsl hkd o1 o2 w vU vV a m hb hp hm
        | false =>
          rw[if_pos ⟨o1,o2⟩] at hR'
          rw[hR']
          exact single_38c H hB pl num name op ad cap k0 k1 gen hsl hkd o1 o2 w vU vV a m hb hp hm
   ·subst c
    have hl1:xs.length=3:=by have:kidsR 43=3:=by unfold kidsR;simp
                             omega
    match xs,hl1 with
    | [k0,k1,k2],_ =>
      have hR':R=if kd0 (kidT n) [k0,k1,k2] 1=0∧kd0 (kidT n) [k0,k1,k2] 2=0 then none else orR (kidT n) (semR n) 6 [k0,k1,k2] 2 gen (if kd0 (kidT n) [k0,k1,k2] 1≠0 then semR n 6 k1 gen (decR pl (semR n 6 k0 gen (some a))) else emptyK (kidT n) [k0,k1,k2] 1 (semR n 6 k0 gen (some a))):=hR
      unfold orR at hR'
      rw[kd0_at _ 1 k1 rfl,kd0_at _ 2 k2 rfl,emptyK_at _ 1 k1 rfl] at hR'
      by_cases z1:(ndT n k1).kind=0
      ·by_cases z2:(ndT n k2).kind=0
       ·rw[if_pos ⟨z1,z2⟩] at hR'
        rw[hR']
        exact single_4311 H hB pl num name op ad cap k0 k1 k2 gen hsl hkd z1 z2 w vU vV a m hb hp hm
       ·rw[if_neg (fun q=>z2 q.2),if_pos z2,if_neg (by omega)] at hR'
        rw[hR']
        exact single_4310 H hB pl num name op ad cap k0 k1 k2 gen hsl hkd z1 z2 w vU vV a m hb hp hm
      ·by_cases z2:(ndT n k2).kind=0
       ·rw[if_neg (fun q=>z1 q.1),if_neg (show ¬(ndT n k2).kind≠0 by omega),emptyK_at _ 2 k2 rfl,if_pos z1] at hR'
        rw[hR']
        exact single_4301 H hB pl num name op ad cap k0 k1 k2 gen hsl hkd z1 z2 w vU vV a m hb hp hm
       ·rw[if_neg (fun q=>z1 q.1),if_pos z2,if_pos z1] at hR'
        rw[hR']
        exact single_4300 H hB pl num name op ad cap k0 k1 k2 gen hsl hkd z1 z2 w vU vV a m hb hp hm
   ·have hl1:xs.length=0:=by have:kidsR kind=0:=by unfold kidsR;rcases c with c | c | c <;> simp[c]
                             omega
    have e:R=some a:=by
     rw[hR,if_neg (by omega),if_neg (by omega),if_neg (by omega),if_neg (by omega),if_neg (by omega),if_neg (by omega),if_neg (by omega),if_neg (by omega)]
    rw[e,hl1]
    exact single_nil kind pl num name op ad cap gen c w vU vV a m _ hb hp (by omega)
theorem kids_all {B pb:Nat}{W0:World}(hB:B=W0.heap.size)(n:Nat):∀k,k≤n→KidsRC B pb W0 k:=by
 induction n with
 | zero =>
   intro k hk
   obtain rfl:k=0:=by omega
   constructor <;> (intro t;exact nomatch (t:Empty))
 | succ n ih =>
   intro k hk
   rcases Nat.lt_or_ge n k with c | c
   ·obtain rfl:k=n+1:=by omega
    have H:=ih n (Nat.le_refl _)
    have H1:∀j,n=j+1→KidsRC B pb W0 j:=fun j hj=>ih j (by omega)
    have body:∀(x:Nd) (s:Sli (Tr n)) (gen:Bool),okT (n+1) W0 ((x,s):Nd×Sli (Tr n))→RC B pb W0 18 #[.pointer (some ⟨pb,0,none⟩),.slice s.at' s.xs.length s.cap,.bool gen] (bodyR (semR n) s.xs gen) (szL s.xs) :=
     fun x s gen hok=>list_rc H H1 hB s gen hok.2.1 hok.2.2
    have funct:∀(x:Nd) (s:Sli (Tr n)),okT (n+1) W0 ((x,s):Nd×Sli (Tr n))→RC B pb W0 31 #[.pointer (some ⟨pb,0,none⟩),valT (n+1) ((x,s):Nd×Sli (Tr n))] (functR (kidT n) (semR n) x s.xs) (szL s.xs) :=
     fun x s hok=>funct_rc H hB x s hok
    have more:∀ {F:Nat} {args:Array Value} {f:RS→RS} {z z':Nat},z≤z'→RC B pb W0 F args f z→RC B pb W0 F args f z':=by
     intro F args f z z' hz h w vU vV st m hb hp hm
     refine(h w vU vV st m hb hp (by omega)).mono ?_
     rintro e w' ⟨he,a,b,h1,h2⟩
     exact⟨he,a,b,h1.more (by omega),h2⟩
    have hz:∀(x:Nd) (s:Sli (Tr n)),szL s.xs≤szT (n+1) ((x,s):Nd×Sli (Tr n)):=fun x s=>by show _≤1+_;exact Nat.le_add_left _ _
    have term:∀(x:Nd) (s:Sli (Tr n)) (gen:Bool),okT (n+1) W0 ((x,s):Nd×Sli (Tr n))→RC B pb W0 32 #[.pointer (some ⟨pb,0,none⟩),valT (n+1) ((x,s):Nd×Sli (Tr n)),.bool gen] (termR (kidT n) (semR n) x s.xs gen) (szT (n+1) ((x,s):Nd×Sli (Tr n))) :=
     fun x s gen hok=>term_rc H hB x s gen hok (funct x s hok)
    constructor
    ·rintro⟨x,s⟩ gen hok
     exact term x s gen hok
    ·rintro⟨x,s⟩ gen hok
     exact perh_rc x s gen hok (term x s gen hok)
    ·rintro⟨x,s⟩ gen hok
     exact prop_rc H hB x s gen hok
    ·rintro⟨x,s⟩ gen hok
     exact more (hz x s) (body x s gen hok)
    ·rintro⟨x,s⟩ gen hok
     exact single_rc H hB x s gen hok (body x s gen hok)
    ·rintro⟨x,s⟩ gen hok
     exact brac_rc x s gen hok (more (hz x s) (body x s gen hok))
    ·rintro⟨x,s⟩ hok
     have e:szT (n+1) ((x,s):Nd×Sli (Tr n)) - 1=szL s.xs:=by show 1+_ - 1=_;exact Nat.add_sub_cancel_left _ _
     rw[e]
     exact funct x s hok
   ·exact ih k c
theorem loopC_sz {n:Nat}(g:Tr n→Int→Int)(h:∀k r,0≤g k r→g k r=r - szT n k)(xs:List (Tr n))(r:Int)(h0:0≤loopC g xs r):loopC g xs r=r - szL xs:=by
 induction xs generalizing r with
 | nil=>simp[loopC,szL_nil]
 | cons k ks ih =>
   rw[loopC] at h0 ⊢
   by_cases c:0≤r
   ·rw[if_pos c] at h0 ⊢
    have h1:=ih (g k r) h0
    have h2:0≤g k r:=by rw[h1] at h0;omega
    rw[h1,h k r h2,szL_cons]
    omega
   ·rw[if_neg c] at h0
    exact absurd h0 c
theorem count_sz (n lv:Nat)(t:Tr n)(r:Int)(h:0≤countT n lv t r):countT n lv t r=r - szT n t:=by
 induction n generalizing lv r with
 | zero=>exact nomatch (t:Empty)
 | succ n ih =>
   obtain⟨x,s⟩:=t
   rw[countT] at h ⊢
   by_cases c:lv=0
   ·rw[if_pos c] at h;omega
   ·rw[if_neg c] at h ⊢
    rw[loopC_sz (countT n (lv - 1)) (fun k r hr=>ih (lv - 1) k r hr) s.xs (r - 1) h]
    show _=r - ((1+szL s.xs:Nat):Int)
    omega
theorem frozen_new (w:World)(cs:Array Value)(ty:TypeId)(i:Nat):(w.alloc (.cells cs ty)).frozen? ⟨w.heap.size,i,none⟩=false:=by
 simp[go_sem]
theorem places_new {B:Nat}{W0 w:World}(hB:B≤w.heap.size):PlAt B w.heap.size (w.alloc (.cells #[.slice none 0 0,.slice none 0 0,.bool false] 73)) (some ([],[])) 0 (.slice none 0 0) (.slice none 0 0) :=
 ⟨[],[],⟨box_new w _ _ 0 _ rfl,box_new w _ _ 1 _ rfl,box_new w _ _ 2 _ rfl,frozen_new w _ _ _,frozen_new w _ _ _,frozen_new w _ _ _,OwnI.nil _ _,OwnI.nil _ _,by simp[Value.ownBlock],by simp[Value.ownBlock],by simp[Value.ownBlock],hB⟩,⟨rfl,rfl,rfl⟩,Nat.le_refl _,Nat.le_refl _⟩
theorem refRight_any (n:Nat)(t:Tr n)(w:World)(hok:okT n w t):Calls Tryz.prog 11 #[valT n t] w fun e w'=>e = .returned (.bool (rootR n t))∧Below w.heap.size w w':=by
 cases n with
 | zero=>exact nomatch (t:Empty)
 | succ n =>
   obtain⟨⟨kind,pl,name,num,op⟩,⟨ad,cap,xs⟩⟩:=t
   obtain⟨R,hR⟩:∃R,R=rootR (n+1) ((⟨kind,pl,name,num,op⟩,⟨ad,cap,xs⟩):Nd×Sli (Tr n)):=⟨_,rfl⟩
   rw[←hR]
   have HR:Hid (R=rootR (n+1) ((⟨kind,pl,name,num,op⟩,⟨ad,cap,xs⟩):Nd×Sli (Tr n))):=hR
   clear hR
   have HOK:Hid (okT (n+1) w ((⟨kind,pl,name,num,op⟩,⟨ad,cap,xs⟩):Nd×Sli (Tr n))):=hok
   have hl:xs.length≤2 ^ 63 - 1:=Nat.le_trans hok.2.1.len hok.2.1.cap
   clear hok
   rw[val_succ]
   simp only
   obtain⟨wp,hwp⟩:∃wp,wp=(w.alloc (.cells #[.int .i64 kind,.int .i64 pl,.string name,.int .u64 num,.string op,.slice ad xs.length cap] 25)).alloc (.cells #[.slice none 0 0,.slice none 0 0,.bool false] 73):=⟨_,rfl⟩
   have hb1:Below w.heap.size w wp:=by rw[hwp];exact((Below.refl w.heap.size w).alloc (Nat.le_refl _) _).alloc (by simp) _
   have hp1:PlAt w.heap.size (w.heap.size+1) wp (some ([],[])) 0 (.slice none 0 0) (.slice none 0 0):=by
    rw[hwp]
    have:=places_new (B:=w.heap.size) (W0:=w) (w:=w.alloc (.cells #[.int .i64 kind,.int .i64 pl,.string name,.int .u64 num,.string op,.slice ad xs.length cap] 25)) (by simp)
    simpa using this
   have hbox:∀i v,(#[.int .i64 kind,.int .i64 pl,.string name,.int .u64 num,.string op,.slice ad xs.length cap]:Array Value)[i]?=some v→wp.cell? ⟨w.heap.size,i,none⟩=some v:=by
    intro i v h
    rw[hwp]
    exact cells_below ((Below.refl _ _).alloc (Nat.le_refl _) _) _ _ (box_new w #[.int .i64 kind,.int .i64 pl,.string name,.int .u64 num,.string op,.slice ad xs.length cap] 25 i v h)
   have HW:Hid (Below w.heap.size w wp∧PlAt w.heap.size (w.heap.size+1) wp (some ([],[])) 0 (.slice none 0 0) (.slice none 0 0)∧(∀i v,(#[.int .i64 kind,.int .i64 pl,.string name,.int .u64 num,.string op,.slice ad xs.length cap]:Array Value)[i]?=some v→wp.cell? ⟨w.heap.size,i,none⟩=some v)):=⟨hb1,hp1,hbox⟩
   have b0:wp.cell? ⟨w.heap.size,0,none⟩=some (.int .i64 kind):=hbox 0 _ rfl
   have b1:wp.cell? ⟨w.heap.size,1,none⟩=some (.int .i64 pl):=hbox 1 _ rfl
   have b2:wp.cell? ⟨w.heap.size,2,none⟩=some (.string name):=hbox 2 _ rfl
   have b3:wp.cell? ⟨w.heap.size,3,none⟩=some (.int .u64 num):=hbox 3 _ rfl
   have b4:wp.cell? ⟨w.heap.size,4,none⟩=some (.string op):=hbox 4 _ rfl
   have b5:wp.cell? ⟨w.heap.size,5,none⟩=some (.slice ad xs.length cap):=hbox 5 _ rfl
   have hcnt:=count_any (n+1) ((⟨kind,pl,name,num,op⟩,⟨ad,cap,xs⟩):Nd×Sli (Tr n)) 300 131072 wp (okT_kept HOK.out (cells_below hb1)) (by omega) (by omega) (Nat.le_refl _)
   rw[val_succ] at hcnt
   rw[show((300:Nat):Int)=300 from rfl] at hcnt
   obtain⟨C,hC⟩:∃C,C=countT (n+1) 300 ((⟨kind,pl,name,num,op⟩,⟨ad,cap,xs⟩):Nd×Sli (Tr n)) 131072:=⟨_,rfl⟩
   rw[←hC] at hcnt
   have HC:Hid (C=countT (n+1) 300 ((⟨kind,pl,name,num,op⟩,⟨ad,cap,xs⟩):Nd×Sli (Tr n)) 131072):=hC
   clear hC hb1 hp1 hbox
   by_cases h47:kind=47
   ·by_cases hc:C<0
    ·have e:R=false:=by
      rw[HR.out]
      show(if _ then _ else _)=_
      rw[if_pos (Or.inr (by rw[←HC.out];exact hc))]
     rw[e]
     subst h47
     go_enter Tryz.func11,Tryz.ntmps11
     go_upto_region 2 with fail
     rw[←hwp]
     clear hwp
     go_wp2_with fail
     refine hcnt.mono ?_
     rintro e w2 ⟨rfl,hb2⟩
     have d0:=cells_below hb2 _ _ b0
     have HB:Hid (Below w.heap.size w w2):=HW.out.1.trans (hb2.mono HW.out.1.size)
     clear hb2 hcnt
     go_wp2_with fail
     go_ret
     exact⟨rfl,HB.out⟩
    ·subst h47
     have hszz:szT (n+1) ((⟨47,pl,name,num,op⟩,⟨ad,cap,xs⟩):Nd×Sli (Tr n))≤131072:=by
      have h1:=count_sz (n+1) 300 ((⟨47,pl,name,num,op⟩,⟨ad,cap,xs⟩):Nd×Sli (Tr n)) 131072 (by rw[←HC.out];omega)
      rw[←HC.out] at h1
      omega
     have hbody:=(kids_all (B:=w.heap.size) (pb:=w.heap.size+1) (W0:=w) rfl (n+1) (n+1) (Nat.le_refl _)).body ((⟨47,pl,name,num,op⟩,⟨ad,cap,xs⟩):Nd×Sli (Tr n)) false HOK.out
     have HBD:Hid (RC w.heap.size (w.heap.size+1) w 18 #[.pointer (some ⟨w.heap.size+1,0,none⟩),.slice ad xs.length cap,.bool false] (bodyR (semR n) xs false) (szT (n+1) ((⟨47,pl,name,num,op⟩,⟨ad,cap,xs⟩):Nd×Sli (Tr n)))):=hbody
     have HSZ:Hid (szT (n+1) ((⟨47,pl,name,num,op⟩,⟨ad,cap,xs⟩):Nd×Sli (Tr n))≤131072):=hszz
     have e:R=(bodyR (semR n) xs false (some ([],[]))).isSome:=by
      rw[HR.out]
      show(if _ then _ else _)=_
      rw[if_neg (by rintro(q | q);exact q rfl;rw[←HC.out] at q;exact hc q)]
     have HE:Hid (R=(bodyR (semR n) xs false (some ([],[]))).isSome):=e
     clear hbody hszz e
     go_enter Tryz.func11,Tryz.ntmps11
     go_upto_region 2 with fail
     rw[←hwp]
     clear hwp
     go_wp2_with fail
     refine hcnt.mono ?_
     rintro e w2 ⟨rfl,hb2⟩
     have d0:=cells_below hb2 _ _ b0
     have d5:=cells_below hb2 _ _ b5
     have HB:Hid (Below w.heap.size w w2∧PlAt w.heap.size (w.heap.size+1) w2 (some ([],[])) 0 (.slice none 0 0) (.slice none 0 0)):=⟨HW.out.1.trans (hb2.mono HW.out.1.size),HW.out.2.1.new hb2⟩
     have hcall:=HBD.out w2 _ _ _ _ HB.out.1 HB.out.2 (by have:=HSZ.out;omega)
     clear hb2 hcnt b0 b1 b2 b3 b4 b5
     go_wp2_with fail
     refine hcall.mono ?_
     rintro e w3 ⟨rfl,vU3,vV3,p3,s3,q3⟩
     obtain⟨g2,_⟩:=p3.bad
     obtain⟨nb,hnb⟩:∃nb,nb=(bodyR (semR n) xs false (some ([],[]))).isNone:=⟨_,rfl⟩
     have HNB:Hid (nb=(bodyR (semR n) xs false (some ([],[]))).isNone):=hnb
     rw[←hnb] at g2
     have HQ:Hid (Below w.heap.size w w3):=q3
     clear p3 s3 q3 hcall hnb
     go_wp2_with fail
     go_ret
     refine⟨?_,HQ.out⟩
     rw[HE.out,HNB.out]
     cases bodyR (semR n) xs false (some ([],[])) <;> rfl
   ·have e:R=false:=by
     rw[HR.out]
     show(if _ then _ else _)=_
     rw[if_pos (Or.inl h47)]
    rw[e]
    have h47':(kind != 47)=true:=by simpa using h47
    go_enter Tryz.func11,Tryz.ntmps11
    go_upto_region 2 with fail
    rw[←hwp]
    clear hwp
    go_wp2_with fail
    refine hcnt.mono ?_
    rintro e w2 ⟨rfl,hb2⟩
    have d0:=cells_below hb2 _ _ b0
    have HB:Hid (Below w.heap.size w w2):=HW.out.1.trans (hb2.mono HW.out.1.size)
    clear hb2 hcnt
    go_wp2_with fail
    go_ret
    exact⟨rfl,HB.out⟩
end Go.Proofs.YtihmdcdifakepaaGreat.Sc
namespace Go.Proofs.YtihmdcdifakepaaGreat.Sc
open Go.RowKit Go.Maps
def setD (L:List Int):DataW Unit:=setOf (.agg []) (L.map (Lit.int .i64))
theorem any_int (x:Int):∀l:List Int,l.any ((fun y:Lit=>y.sameKey (.int .i64 x)) ∘ Lit.int .i64)=l.contains x
 | []=>rfl
 | a :: r=>by
   rw[List.any_cons,List.contains_cons,any_int x r]
   congr 1
   show decide (IntKind.i64=IntKind.i64∧a=x)=(x == a)
   by_cases e:a=x
   ·subst e
    simp
   ·have e':¬x=a:=fun h=>e h.symm
    simp[e,e']
theorem has_setD (L:List Int)(x:Int):Maps.has (setD L) (.int .i64 x)=L.contains x:=by
 unfold setD
 rw[has_setOf _ _ _ (fun y hy=>by obtain⟨_,_,rfl⟩:=List.mem_map.1 hy;trivial),List.any_map]
 exact any_int x _
theorem setD_new (L:List Int)(x:Int):(setD L).put (.int .i64 x) (.agg [])=setD (L++[x]):=by
 unfold setD
 rw[List.map_append,List.map_singleton,setOf_snoc]
theorem law3:Keyed Tryz.prog 3:=int_keyed Tryz.underlying3
theorem zero110 (w:World):(zeroValue 120).run Tryz.prog w = .ok (.agg #[]) w:=by kernel_rfl
def SetAt (w:World)(b m:Nat)(L:List Int):Prop:=w.ownsMap Tryz.prog 3 (unitElem (H:=Unit)) b m (setD L)
theorem SetAt.lt {w:World}{b m:Nat}{L:List Int}(h:SetAt w b m L):b<w.heap.size:=World.ownsMap.lt h
theorem SetAt.kept {w w':World}{b m:Nat}{L:List Int}{S:Nat→Prop}(h:SetAt w b m L)(hc:Chg S w w')(hs:¬S b):SetAt w' b m L:=by
 have hlt:=h.lt
 obtain⟨es,clock,hb,F,h1,h2⟩:=h
 exact⟨es,clock,(hc.block b hlt hs).trans hb,F,h1,h2⟩
theorem SetAt.mono {w:World}{b m m':Nat}{L:List Int}(h:SetAt w b m L)(hm:m≤m'):SetAt w b m' L:=World.ownsMap.mono h hm
theorem SetAt.made (w:World):SetAt (w.alloc (.map #[] 0)) w.heap.size 0 []:=World.ownsMap_made _ _ _ _
theorem take_any (b m:Nat)(L:List Int)(a:Int)(w:World)(h:SetAt w b m L)(hm:m≤1000000)(hwf:(Lit.int .i64 a).wf=true) :
  Calls Tryz.prog 45 #[.map (some b),.int .i64 a] w fun e w'=>e = .returned (.bool (!L.contains a))∧SetAt w' b (m+1) (L++[a])∧Chg (fun k=>k=b) w w':=by
 have hkey:keyOf Tryz.prog 3 (.int .i64 a)=some (.int .i64 a):=keyOf_int_mk Tryz.underlying3 hwf
 have HH:Hid (SetAt w b m L):=h
 have hown:w.ownsMap Tryz.prog 3 (unitElem (H:=Unit)) b m (setD L):=h
 have hmm:m<maxLen:=by unfold maxLen;omega
 have hu:Tryz.prog.underlying 64=some (.map 3 120):=Tryz.underlying64
 have HC:Hid (Maps.has (setD L) (.int .i64 a)=L.contains a):=has_setD L a
 clear h
 go_enter Tryz.func45,Tryz.ntmps45
 go_wp2_with (first
  | (at_lookup;refine wpList_lookup_own_unit _ rfl _ _ 64 rfl 3 120 law3 hu (zero110 _) b m _ rfl hown _ _ rfl hkey ?_)
  | (at_mapUpdate;refine wpList_mapUpdate_own _ rfl _ _ _ 64 rfl 3 120 law3 hu (unitElem (H:=Unit)) b m _ rfl (hown.alloc _) hmm _ _ _ rfl rfl hkey _ [] unitElem_mk ?_;intro w1 hown1 hgrow1))
 have HB:Hid (Chg (fun k=>k=b) w w1):=(Chg.of_below ((Below.refl w.heap.size w).alloc (Nat.le_refl _) _)).trans (Chg.of_grown (S:=fun k=>k=b) hgrow1 (fun k e=>by cases e;rfl)) (fun _ _ q=>q)
 have HS:Hid (SetAt w1 b (m+1) (L++[a])):=by
  have:=hown1
  rw[setD_new] at this
  exact this
 clear hown1 hgrow1
 go_ret
 rw[HC.out]
 exact⟨rfl,HS.out,HB.out⟩
end Go.Proofs.YtihmdcdifakepaaGreat.Sc
namespace Go.Proofs.YtihmdcdifakepaaGreat.Sc
open Go.RowKit
theorem isExpr_any (k:Int)(w:World):Calls Tryz.prog 68 #[.int .i64 k] w fun e w'=>e = .returned (.bool (isExprB k))∧w'=w:=by
 by_cases h1:1≤k
 ·by_cases h2:k≤22
  ·by_cases h3:k=11
   ·subst h3
    go_enter Tryz.func68,Tryz.ntmps68
    go_wp2
    go_ret
    exact⟨rfl,rfl⟩
   ·have HE:Hid (isExprB k=true):=by show _=_;unfold isExprB;simp[h1,h2,h3]
    have h3':(k != 11)=true:=by simpa using h3
    go_enter Tryz.func68,Tryz.ntmps68
    go_wp2
    go_ret
    rw[HE.out]
    exact⟨rfl,rfl⟩
  ·have HE:Hid (isExprB k=false):=by show _=_;unfold isExprB;simp[h2]
   have h2':decide (k≤22)=false:=by simpa using h2
   go_enter Tryz.func68,Tryz.ntmps68
   go_wp2
   go_ret
   rw[HE.out]
   exact⟨rfl,rfl⟩
 ·have HE:Hid (isExprB k=false):=by show _=_;unfold isExprB;simp[h1]
  have h1':decide (1≤k)=false:=by simpa using h1
  go_enter Tryz.func68,Tryz.ntmps68
  go_wp2
  go_ret
  rw[HE.out]
  exact⟨rfl,rfl⟩
theorem isStmt_any (k:Int)(w:World):Calls Tryz.prog 69 #[.int .i64 k] w fun e w'=>e = .returned (.bool (isStmtB k))∧w'=w:=by
 by_cases h1:34≤k
 ·by_cases h2:k≤46
  ·have HE:Hid (isStmtB k=true):=by show _=_;unfold isStmtB;simp[h1,h2]
   go_enter Tryz.func69,Tryz.ntmps69
   go_wp2
   go_ret
   rw[HE.out]
   exact⟨rfl,rfl⟩
  ·have HE:Hid (isStmtB k=false):=by show _=_;unfold isStmtB;simp[h2]
   have h2':decide (k≤46)=false:=by simpa using h2
   go_enter Tryz.func69,Tryz.ntmps69
   go_wp2
   go_ret
   rw[HE.out]
   exact⟨rfl,rfl⟩
 ·have HE:Hid (isStmtB k=false):=by show _=_;unfold isStmtB;simp[h1]
  have h1':decide (34≤k)=false:=by simpa using h1
  go_enter Tryz.func69,Tryz.ntmps69
  go_wp2
  go_ret
  rw[HE.out]
  exact⟨rfl,rfl⟩
def letters:List UInt8:=[101,69,103,115,83,105,98,66,112,110]
theorem mayLack_any (p:UInt8)(hp:p∈letters)(w:World):Calls Tryz.prog 47 #[.int .u8 p.toNat] w fun e w'=>e = .returned (.bool (mayLackB p))∧w'=w:=by
 simp only[letters,List.mem_cons,List.not_mem_nil,or_false] at hp
 rcases hp with rfl | rfl | rfl | rfl | rfl | rfl | rfl | rfl | rfl | rfl
 all_goals
  go_enter Tryz.func47,Tryz.ntmps47
  go_wp2
  go_ret
  exact⟨rfl,rfl⟩
theorem isPart_any (p:UInt8)(hp:p∈letters)(k:Int)(w:World):Calls Tryz.prog 48 #[.int .u8 p.toNat,.int .i64 k] w fun e w'=>e = .returned (.bool (isPartB p k))∧w'=w:=by
 obtain⟨A,hA⟩:∃A,A=isPartB p k:=⟨_,rfl⟩
 rw[←hA]
 have HA:Hid (A=isPartB p k):=hA
 clear hA
 have e1:=isExpr_any k w
 have e2:=isStmt_any k w
 obtain⟨E,hE⟩:∃E,E=isExprB k:=⟨_,rfl⟩
 obtain⟨S,hS⟩:∃S,S=isStmtB k:=⟨_,rfl⟩
 rw[←hE] at e1
 rw[←hS] at e2
 have HE:Hid (E=isExprB k∧S=isStmtB k):=⟨hE,hS⟩
 clear hE hS
 simp only[letters,List.mem_cons,List.not_mem_nil,or_false] at hp
 rcases hp with rfl | rfl | rfl | rfl | rfl | rfl | rfl | rfl | rfl | rfl
 ·go_enter Tryz.func48,Tryz.ntmps48
  go_wp2_with fail
  refine e1.mono ?_
  rintro e w1 ⟨rfl,rfl⟩
  go_wp2_with fail
  go_ret
  exact⟨by rw[HA.out,HE.out.1];rfl,rfl⟩
 ·go_enter Tryz.func48,Tryz.ntmps48
  go_wp2_with fail
  refine e1.mono ?_
  rintro e w1 ⟨rfl,rfl⟩
  go_wp2_with fail
  go_ret
  exact⟨by rw[HA.out,HE.out.1];rfl,rfl⟩
 ·by_cases k3:k=3
  ·subst k3
   go_enter Tryz.func48,Tryz.ntmps48
   go_wp2_with fail
   go_ret
   exact⟨by rw[HA.out];rfl,rfl⟩
  ·have k3':(k == 3)=false:=by simpa using k3
   have HK:Hid (isPartB 103 k=(k == 13)):=by show _=_;unfold isPartB;simp[k3]
   clear k3
   go_enter Tryz.func48,Tryz.ntmps48
   go_wp2_with fail
   go_ret
   exact⟨by rw[HA.out,HK.out];rfl,rfl⟩
 ·go_enter Tryz.func48,Tryz.ntmps48
  go_wp2_with fail
  refine e2.mono ?_
  rintro e w1 ⟨rfl,rfl⟩
  go_wp2_with fail
  go_ret
  exact⟨by rw[HA.out,HE.out.2];rfl,rfl⟩
 ·go_enter Tryz.func48,Tryz.ntmps48
  go_wp2_with fail
  refine e2.mono ?_
  rintro e w1 ⟨rfl,rfl⟩
  go_wp2_with fail
  go_ret
  exact⟨by rw[HA.out,HE.out.2];rfl,rfl⟩
 ·have HK:Hid (isPartB 105 k=(isStmtB k || k == 31 || k == 32 || k == 33)):=rfl
  by_cases k1:k=31
  ·subst k1
   cases S
   all_goals
    go_enter Tryz.func48,Tryz.ntmps48
    go_wp2_with fail
    refine e2.mono ?_
    rintro e w1 ⟨rfl,rfl⟩
    go_wp2_with fail
    go_ret
    exact⟨by rw[HA.out];rfl,rfl⟩
  by_cases k2:k=32
  ·subst k2
   cases S
   all_goals
    go_enter Tryz.func48,Tryz.ntmps48
    go_wp2_with fail
    refine e2.mono ?_
    rintro e w1 ⟨rfl,rfl⟩
    go_wp2_with fail
    go_ret
    exact⟨by rw[HA.out];rfl,rfl⟩
  have k1':(k == 31)=false:=by simpa using k1
  have k2':(k == 32)=false:=by simpa using k2
  have HK2:Hid (isPartB 105 k=(isStmtB k || k == 33)):=by show _=_;rw[HK.out,k1',k2'];simp
  clear k1 k2
  cases hs:S
  ·have HS2:Hid (isPartB 105 k=(k == 33)):=by show _=_;rw[HK2.out,←HE.out.2,hs];simp
   rw[hs] at e2
   go_enter Tryz.func48,Tryz.ntmps48
   go_wp2_with fail
   refine e2.mono ?_
   rintro e w1 ⟨rfl,rfl⟩
   go_wp2_with fail
   go_ret
   exact⟨by rw[HA.out,HS2.out];rfl,rfl⟩
  ·have HS2:Hid (isPartB 105 k=true):=by show _=_;rw[HK2.out,←HE.out.2,hs];simp
   rw[hs] at e2
   go_enter Tryz.func48,Tryz.ntmps48
   go_wp2_with fail
   refine e2.mono ?_
   rintro e w1 ⟨rfl,rfl⟩
   go_wp2_with fail
   go_ret
   exact⟨by rw[HA.out,HS2.out];rfl,rfl⟩
 all_goals
  go_enter Tryz.func48,Tryz.ntmps48
  go_wp2_with fail
  go_ret
  exact⟨by rw[HA.out];rfl,rfl⟩
end Go.Proofs.YtihmdcdifakepaaGreat.Sc
