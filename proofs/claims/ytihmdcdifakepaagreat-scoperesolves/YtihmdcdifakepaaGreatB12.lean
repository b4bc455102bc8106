/- WJ, WK -/
import Derived.Test.YtihmdcdifakepaaGreatB11
import Derived.Deep.RegionHeldLaw
set_option linter.unusedVariables false
set_option linter.unusedSimpArgs false
set_option maxRecDepth 100000
set_option maxHeartbeats 40000000
namespace Go.Proofs.YtihmdcdifakepaaGreat.Sc
open Go.RowKit
theorem item_other (n:Nat)(y:Tr n)(gen:Bool)(st:RS)(h:(ndT n y).kind<31∨33<(ndT n y).kind):semR n 3 y gen st=semR n 5 y gen st:=by
 cases n with
 | zero=>exact nomatch (y:Empty)
 | succ n =>
   obtain⟨x,s⟩:=y
   show itemR _ _ x s.xs gen st=singleR _ _ x s.xs gen st
   have h':x.kind<31∨33<x.kind:=h
   unfold itemR
   rw[if_pos h']
theorem item_fn (n:Nat)(y:Tr n)(gen:Bool)(st:RS)(h:(ndT n y).kind=33):semR n 3 y gen st=functT n y (decR (ndT n y).pl st):=by
 cases n with
 | zero=>exact nomatch (y:Empty)
 | succ n =>
   obtain⟨x,s⟩:=y
   have h':x.kind=33:=h
   show itemR _ _ x s.xs gen st=functR _ _ x s.xs (decR x.pl st)
   unfold itemR
   rw[if_neg (by omega),if_pos h']
theorem item_len (n:Nat)(y:Tr n)(gen:Bool)(st:RS)(h:(ndT n y).kind=31∨(ndT n y).kind=32)(hl:nkT n y≠1):semR n 3 y gen st=none:=by
 cases n with
 | zero=>exact nomatch (y:Empty)
 | succ n =>
   obtain⟨x,s⟩:=y
   have h':x.kind=31∨x.kind=32:=h
   have hl':s.xs.length≠1:=hl
   show itemR _ _ x s.xs gen st=none
   unfold itemR
   rw[if_neg (by omega),if_neg (by omega),if_pos hl']
theorem item_kid {B pb:Nat}{W0:World}(hB:B=W0.heap.size)(n:Nat)(H1:∀k,n=k+1→KidsRC B pb W0 k)(y:Tr n)(gen:Bool)(hok:okT n W0 y)(hl:nkT n y=1) :
  ∃(b off:Nat) (x0:Nd) (ad0:Option Addr) (len0 cap0:Nat) (f0 f1:RS→RS),atT n y=some ⟨b,off,none⟩∧(∀w,Below B W0 w→Six w b off x0 (.slice ad0 len0 cap0)) ∧
   RC B pb W0 32 #[.pointer (some ⟨pb,0,none⟩),.agg #[.int .i64 x0.kind,.int .i64 x0.pl,.string x0.name,.int .u64 x0.num,.string x0.op,.slice ad0 len0 cap0],.bool gen] f0 (szT n y - 1) ∧
   RC B pb W0 33 #[.pointer (some ⟨pb,0,none⟩),.agg #[.int .i64 x0.kind,.int .i64 x0.pl,.string x0.name,.int .u64 x0.num,.string x0.op,.slice ad0 len0 cap0],.bool gen] f1 (szT n y - 1) ∧
   ((ndT n y).kind=32→∀st,semR n 3 y gen st=f0 (decR (ndT n y).pl st))∧((ndT n y).kind=31→∀st,semR n 3 y gen st=f1 (decR (ndT n y).pl st)):=by
 cases n with
 | zero=>exact nomatch (y:Empty)
 | succ n =>
   obtain⟨x,s⟩:=y
   obtain⟨ad,cap,xs⟩:=s
   have hl':xs.length=1:=hl
   match xs,hl' with
   | [k0],_ =>
     have H:=H1 n rfl
     obtain⟨b,off,e1,hlie⟩:=kids_lie hok.2.1 (by simp)
     have hk:=hok.2.2 k0 (by simp)
     have hz:szT (n+1) ((x,⟨ad,cap,[k0]⟩):Nd×Sli (Tr n)) - 1=szT n k0:=by rw[szT];simp
     refine⟨b,off,ndT n k0,atT n k0,nkT n k0,capT n k0,semR n 0 k0 gen,semR n 1 k0 gen,e1,fun w hb => ?_,?_,?_,?_,?_⟩
     ·have:=hlie 0 k0 rfl B w hB hb
      simpa using this
     ·rw[hz];exact H.term k0 gen hk
     ·rw[hz];exact H.perh k0 gen hk
     ·intro h st
      have h':x.kind=32:=h
      show itemR _ _ x [k0] gen st=_
      unfold itemR
      rw[if_neg (by omega),if_neg (by omega),if_neg (by simp),if_pos h']
      rfl
     ·intro h st
      have h':x.kind=31:=h
      show itemR _ _ x [k0] gen st=_
      unfold itemR
      rw[if_neg (by omega),if_neg (by omega),if_neg (by simp),if_neg (by omega)]
      rfl
structure LsAt {n:Nat}(B pb:Nat)(W0 w:World)(vU vV:Value)(xs:List (Tr n))(gen:Bool)(st0:RS)(m0:Nat)(k:Nat)(wr:World)(vU' vV':Value)(st:RS)(m:Nat):Prop where
 le:k≤xs.length
 val:foldR (fun y st=>semR n 3 y gen st) xs st0=foldR (fun y st=>semR n 3 y gen st) (xs.drop k) st
 bel:Below B W0 wr
 pl:PlAt B pb wr st m vU' vV'
 stp:Stp pb w vU vV wr vU' vV'
 bud:m+szL (xs.drop k)≤m0+szL xs
theorem fold_bad {n:Nat}(xs:List (Tr n))(gen:Bool):foldR (fun y st=>semR n 3 y gen st) xs none=none:=fold_none _ (fun k=>((ok_all n).item k gen).nil) xs
theorem LsAt.next {n:Nat}{B pb:Nat}{W0 w:World}{vU vV:Value}{xs:List (Tr n)}{gen:Bool}{st0:RS}{m0 k:Nat}{wr:World}{vU' vV':Value}{st:RS}{m:Nat}(h:LsAt B pb W0 w vU vV xs gen st0 m0 k wr vU' vV' st m)
  {y:Tr n} (hy:xs.drop k=y :: xs.drop (k+1)) (hk:k<xs.length) {w2:World} {vU2 vV2:Value} {st2:RS} {m2:Nat} (hst:st2=semR n 3 y gen st) (hp:PlAt B pb w2 st2 m2 vU2 vV2) (hs:Stp pb wr vU' vV' w2 vU2 vV2) (hb:Below B W0 w2) (hm:m2≤m+szT n y) :
  LsAt B pb W0 w vU vV xs gen st0 m0 (k+1) w2 vU2 vV2 st2 m2:=by
 refine⟨hk,?_,hb,hp,h.stp.trans hs,?_⟩
 ·rw[h.val,hy,foldR,hst]
 ·have:=h.bud
  rw[hy,szL_cons] at this
  omega
theorem list_rc {B pb:Nat}{W0:World}{n:Nat}(H:KidsRC B pb W0 n)(H1:∀k,n=k+1→KidsRC B pb W0 k)(hB:B=W0.heap.size)(s:Sli (Tr n))(gen:Bool)(hs:s.ok (encT n) 6 W0)(hk:∀y∈s.xs,okT n W0 y) :
  RC B pb W0 18 #[.pointer (some ⟨pb,0,none⟩),.slice s.at' s.xs.length s.cap,.bool gen] (bodyR (semR n) s.xs gen) (szL s.xs):=by
 intro w vU vV st m hb hp hm
 have HH:Hid (KidsRC B pb W0 n∧∀k,n=k+1→KidsRC B pb W0 k):=⟨H,H1⟩
 have HBE:Hid (B=W0.heap.size):=hB
 have HS:Hid (s.ok (encT n) 6 W0∧∀y∈s.xs,okT n W0 y):=⟨hs,hk⟩
 have hl:s.xs.length≤maxLen:=Nat.le_trans hs.len hs.cap
 unfold maxLen at hl
 have HI:Hid (LsAt B pb W0 w vU vV s.xs gen st m 0 w vU vV st m):=⟨Nat.zero_le _,rfl,hb,hp,Stp.refl _ _ _ _,Nat.le_refl _⟩
 have HM:Hid (m+szL s.xs≤1000000):=hm
 clear hb hp hs hk H H1 hB hm
 obtain⟨ad,cap,xs⟩:=s
 simp only at HS hl HI HM ⊢
 unfold bodyR
 go_enter Tryz.func18,Tryz.ntmps18
 go_wp2_with fail
 go_loopw [6] (fun i wr=>∃(k:Nat) (vU' vV':Value) (st':RS) (m':Nat),LsAt B pb W0 w vU vV xs gen st m k wr vU' vV' st' m'∧i = .int .i64 k) (fun i wr=>xs.length - (intOf i).toNat)
 case atStart=>exact⟨0,vU,vV,st,m,HI.out,rfl⟩
 case round =>
  obtain⟨k,vU1,vV1,st1,m1,hr,rfl⟩:=hrel
  have ple:=hr.le
  have HR:Hid (LsAt B pb W0 w vU vV xs gen st m k wr vU1 vV1 st1 m1):=hr
  obtain⟨c2,f2⟩:=hr.pl.bad
  clear hr HI
  rcases Nat.lt_or_ge k xs.length with c | c
  ·cases st1 with
   | none =>
     simp only[Option.isNone_none] at c2
     have HE:Hid (foldR (fun y st=>semR n 3 y gen st) xs st=none):=by
      show _=_
      rw[HR.out.val,fold_bad]
     go_wp2_with fail
     go_end0
     refine⟨rfl,vU1,vV1,?_,HR.out.stp,HR.out.bel⟩
     rw[HE.out]
     exact HR.out.pl.more (by have:=HR.out.bud;omega)
   | some s1 =>
     simp only[Option.isNone_some] at c2
     have hex:∃y,xs[k]?=some y:=⟨_,List.getElem?_eq_getElem c⟩
     obtain⟨y,hy⟩:=hex
     have hd:xs.drop k=y :: xs.drop (k+1):=by
      rw[List.drop_eq_getElem_cons c]
      rw[List.getElem?_eq_getElem c] at hy
      rw[Option.some.inj hy]
     obtain⟨b,off,e1,hlie⟩:=kids_lie HS.out.1 (by intro e;simp only at e;rw[e] at c;simp at c)
     simp only at e1 hlie
     subst e1
     have six:=hlie k y hy B wr HBE.out HR.out.bel
     have HY:Hid (xs[k]?=some y∧xs.drop k=y :: xs.drop (k+1)∧okT n W0 y):=⟨hy,hd,HS.out.2 y (List.mem_of_getElem? hy)⟩
     have HBU:Hid (m1+szT n y≤1000000∧1≤szT n y):=by
      have h1:=HR.out.bud
      have h2:=HM.out
      rw[hd,szL_cons] at h1
      exact⟨by omega,sz_pos n y⟩
     have hnk:nkT n y≤maxLen:=by
      have:=HY.out.2.2
      cases n with
      | zero=>exact nomatch (y:Empty)
      | succ n=>obtain⟨x,q⟩:=y;exact Nat.le_trans this.2.1.len this.2.1.cap
     unfold maxLen at hnk
     clear hy hd hlie
     obtain⟨wb,hwb⟩:∃wb,wb=wr.alloc (.cells #[.int .i64 (ndT n y).kind,.int .i64 (ndT n y).pl,.string (ndT n y).name,.int .u64 (ndT n y).num,.string (ndT n y).op,.slice (atT n y) (nkT n y) (capT n y)] 25):=⟨_,rfl⟩
     have FR:Hid (Fr B pb W0 wr vU1 vV1 wr.heap.size #[.int .i64 (ndT n y).kind,.int .i64 (ndT n y).pl,.string (ndT n y).name,.int .u64 (ndT n y).num,.string (ndT n y).op,.slice (atT n y) (nkT n y) (capT n y)] wb vU1 vV1 (some s1) m1):=by rw[hwb];exact Fr.start HR.out.bel HR.out.pl _ _
     obtain⟨yk,hyk⟩:∃yk,yk=(ndT n y).kind:=⟨_,rfl⟩
     obtain⟨yp,hyp⟩:∃yp,yp=(ndT n y).pl:=⟨_,rfl⟩
     obtain⟨yn,hyn⟩:∃yn,yn=(ndT n y).name:=⟨_,rfl⟩
     obtain⟨yu,hyu⟩:∃yu,yu=(ndT n y).num:=⟨_,rfl⟩
     obtain⟨yo,hyo⟩:∃yo,yo=(ndT n y).op:=⟨_,rfl⟩
     obtain⟨y0,y1,y2,y3,y4,y5⟩:=six
     have HC:Hid ((∀g,RC B pb W0 29 #[.pointer (some ⟨pb,0,none⟩),.agg #[.int .i64 yk,.int .i64 yp,.string yn,.int .u64 yu,.string yo,.slice (atT n y) (nkT n y) (capT n y)],.bool g] (semR n 5 y g) (szT n y))∧RC B pb W0 31 #[.pointer (some ⟨pb,0,none⟩),.agg #[.int .i64 yk,.int .i64 yp,.string yn,.int .u64 yu,.string yo,.slice (atT n y) (nkT n y) (capT n y)]] (functT n y) (szT n y - 1)):=by
      rw[hyk,hyp,hyn,hyu,hyo]
      exact⟨fun g=>HH.out.1.sing y g HY.out.2.2,HH.out.1.funct y HY.out.2.2⟩
     have HN:Hid (yk=(ndT n y).kind∧yp=(ndT n y).pl):=⟨hyk,hyp⟩
     rw[←hyk,←hyp,←hyn,←hyu,←hyo] at hwb FR
     rw[←hyk] at y0
     rw[←hyp] at y1
     rw[←hyn] at y2
     rw[←hyu] at y3
     rw[←hyo] at y4
     clear hyk hyp hyn hyu hyo
     obtain⟨b0,b1,b2,b3,b4,b5⟩:=six FR.out.box
     by_cases t1:yk<31∨33<yk
     ·have hc:=HC.out.1 gen wb vU1 vV1 (some s1) m1 FR.out.bel FR.out.pl HBU.out.1
      rcases t1 with t1 | t1
      all_goals
       go_upto_region 4 with fail
       rw[←hwb]
       clear hwb
       go_wp2_with fail
       refine hc.mono ?_
       rintro e w2 ⟨rfl,vU2,vV2,p2,s2,q2⟩
       have HX:Hid (LsAt B pb W0 w vU vV xs gen st m (k+1) w2 vU2 vV2 (semR n 5 y gen (some s1)) (m1+szT n y)) :=
        HR.out.next HY.out.2.1 c (by rw[item_other n y gen _ (by rw[←HN.out.1];omega)]) p2 (FR.out.stp.trans s2) q2 (Nat.le_refl _)
       clear p2 s2 q2 hc
       go_wp2_with fail
       refine⟨⟨k+1,_,_,_,_,HX.out,by go_num⟩,?_⟩
       simp[intOf]
       omega
     ·have hd:=declared_rc B pb W0 yp wb vU1 vV1 (some s1) m1 FR.out.bel FR.out.pl (by have:=HBU.out;omega)
      have t2:yk=33∨yk=31∨yk=32:=by omega
      clear t1
      rcases t2 with t2 | t2 | t2
      ·subst t2
       go_upto_region 4 with fail
       rw[←hwb]
       clear hwb
       go_wp2_with fail
       refine hd.mono ?_
       rintro e w2 ⟨rfl,vU2,vV2,p2,s2,q2⟩
       have FR2:Hid (Fr B pb W0 wr vU1 vV1 wr.heap.size #[.int .i64 33,.int .i64 yp,.string yn,.int .u64 yu,.string yo,.slice (atT n y) (nkT n y) (capT n y)] w2 vU2 vV2 (decR yp (some s1)) (m1+1)):=FR.out.call p2 s2 q2
       obtain⟨d0,d1,d2,d3,d4,d5⟩:=six FR2.out.box
       obtain⟨g2,h2⟩:=FR2.out.pl.bad
       clear p2 s2 q2 hd
       have hc:=HC.out.2 w2 vU2 vV2 (decR yp (some s1)) (m1+1) FR2.out.bel FR2.out.pl (by have:=HBU.out;omega)
       go_wp2_with fail
       refine hc.mono ?_
       rintro e w3 ⟨rfl,vU3,vV3,p3,s3,q3⟩
       have HX:Hid (LsAt B pb W0 w vU vV xs gen st m (k+1) w3 vU3 vV3 (functT n y (decR yp (some s1))) (m1+1+(szT n y - 1))) :=
        HR.out.next HY.out.2.1 c (by rw[item_fn n y gen _ HN.out.1.symm,←HN.out.2]) p3 (FR2.out.stp.trans s3) q3 (by have:=HBU.out;omega)
       clear p3 s3 q3 hc
       go_wp2_with fail
       refine⟨⟨k+1,_,_,_,_,HX.out,by go_num⟩,?_⟩
       simp[intOf]
       omega
      ·subst t2
       by_cases t3:nkT n y=1
       ·obtain⟨kb,ko,x0,ad0,len0,cap0,g0,g1,e1,hsix,r0,r1,i0,i1⟩:=item_kid HBE.out n HH.out.2 y gen HY.out.2.2 t3
        have HK:Hid ((∀w,Below B W0 w→Six w kb ko x0 (.slice ad0 len0 cap0))∧RC B pb W0 33 #[.pointer (some ⟨pb,0,none⟩),.agg #[.int .i64 x0.kind,.int .i64 x0.pl,.string x0.name,.int .u64 x0.num,.string x0.op,.slice ad0 len0 cap0],.bool gen] g1 (szT n y - 1)∧(∀st,semR n 3 y gen st=g1 (decR (ndT n y).pl st))):=⟨hsix,r1,i1 HN.out.1.symm⟩
        rw[t3,e1] at hwb FR b5 HC
        clear hsix r0 r1 i0 i1
        go_upto_region 4 with fail
        rw[←hwb]
        clear hwb
        go_wp2_with fail
        refine hd.mono ?_
        rintro e w2 ⟨rfl,vU2,vV2,p2,s2,q2⟩
        have FR2:Hid (Fr B pb W0 wr vU1 vV1 wr.heap.size #[.int .i64 31,.int .i64 yp,.string yn,.int .u64 yu,.string yo,.slice (some ⟨kb,ko,none⟩) 1 (capT n y)] w2 vU2 vV2 (decR yp (some s1)) (m1+1)):=FR.out.call p2 s2 q2
        obtain⟨d0,d1,d2,d3,d4,d5⟩:=six FR2.out.box
        obtain⟨g2,h2⟩:=FR2.out.pl.bad
        clear p2 s2 q2 hd
        obtain⟨z0,z1,z2,z3,z4,z5⟩:=HK.out.1 w2 FR2.out.bel
        have hc:=HK.out.2.1 w2 vU2 vV2 (decR yp (some s1)) (m1+1) FR2.out.bel FR2.out.pl (by have:=HBU.out;omega)
        go_wp2_with fail
        refine hc.mono ?_
        rintro e w3 ⟨rfl,vU3,vV3,p3,s3,q3⟩
        have HX:Hid (LsAt B pb W0 w vU vV xs gen st m (k+1) w3 vU3 vV3 (g1 (decR yp (some s1))) (m1+1+(szT n y - 1))) :=
         HR.out.next HY.out.2.1 c (by rw[HK.out.2.2,←HN.out.2]) p3 (FR2.out.stp.trans s3) q3 (by have:=HBU.out;omega)
        clear p3 s3 q3 hc
        go_wp2_with fail
        refine⟨⟨k+1,_,_,_,_,HX.out,by go_num⟩,?_⟩
        simp[intOf]
        omega
       ·have t4:(((nkT n y:Nat):Int) == 1)=false:=by simp;omega
        have HE:Hid (foldR (fun y st=>semR n 3 y gen st) xs st=none):=by
         show _=_
         rw[HR.out.val,HY.out.2.1,foldR,item_len n y gen _ (by rw[←HN.out.1];omega) t3,fold_bad]
        go_upto_region 4 with fail
        rw[←hwb]
        clear hwb
        go_wp2_with fail
        refine hd.mono ?_
        rintro e w2 ⟨rfl,vU2,vV2,p2,s2,q2⟩
        have FR2:Hid (Fr B pb W0 wr vU1 vV1 wr.heap.size #[.int .i64 31,.int .i64 yp,.string yn,.int .u64 yu,.string yo,.slice (atT n y) (nkT n y) (capT n y)] w2 vU2 vV2 (decR yp (some s1)) (m1+1)):=FR.out.call p2 s2 q2
        obtain⟨d0,d1,d2,d3,d4,d5⟩:=six FR2.out.box
        obtain⟨g2,h2⟩:=FR2.out.pl.bad
        clear p2 s2 q2 hd
        go_wp2_with fail
        refine bodyPost_ret (results_none rfl _ _ _) rfl ?_
        obtain⟨a1,a2⟩:=FR2.out.pl.spoil
        refine⟨rfl,vU2,vV2,?_,(HR.out.stp.trans FR2.out.stp).trans a2,FR2.out.pl.below a2 FR2.out.bel⟩
        rw[HE.out]
        exact a1.more (by have:=HR.out.bud;have:=HBU.out;have h3:szL (xs.drop k)=szT n y+szL (xs.drop (k+1)):=(by rw[HY.out.2.1,szL_cons]);omega)
      ·subst t2
       by_cases t3:nkT n y=1
       ·obtain⟨kb,ko,x0,ad0,len0,cap0,g0,g1,e1,hsix,r0,r1,i0,i1⟩:=item_kid HBE.out n HH.out.2 y gen HY.out.2.2 t3
        have HK:Hid ((∀w,Below B W0 w→Six w kb ko x0 (.slice ad0 len0 cap0))∧RC B pb W0 32 #[.pointer (some ⟨pb,0,none⟩),.agg #[.int .i64 x0.kind,.int .i64 x0.pl,.string x0.name,.int .u64 x0.num,.string x0.op,.slice ad0 len0 cap0],.bool gen] g0 (szT n y - 1)∧(∀st,semR n 3 y gen st=g0 (decR (ndT n y).pl st))):=⟨hsix,r0,i0 HN.out.1.symm⟩
        rw[t3,e1] at hwb FR b5 HC
        clear hsix r0 r1 i0 i1
        go_upto_region 4 with fail
        rw[←hwb]
        clear hwb
        go_wp2_with fail
        refine hd.mono ?_
        rintro e w2 ⟨rfl,vU2,vV2,p2,s2,q2⟩
        have FR2:Hid (Fr B pb W0 wr vU1 vV1 wr.heap.size #[.int .i64 32,.int .i64 yp,.string yn,.int .u64 yu,.string yo,.slice (some ⟨kb,ko,none⟩) 1 (capT n y)] w2 vU2 vV2 (decR yp (some s1)) (m1+1)):=FR.out.call p2 s2 q2
        obtain⟨d0,d1,d2,d3,d4,d5⟩:=six FR2.out.box
        obtain⟨g2,h2⟩:=FR2.out.pl.bad
        clear p2 s2 q2 hd
        obtain⟨z0,z1,z2,z3,z4,z5⟩:=HK.out.1 w2 FR2.out.bel
        have hc:=HK.out.2.1 w2 vU2 vV2 (decR yp (some s1)) (m1+1) FR2.out.bel FR2.out.pl (by have:=HBU.out;omega)
        go_wp2_with fail
        refine hc.mono ?_
        rintro e w3 ⟨rfl,vU3,vV3,p3,s3,q3⟩
        have HX:Hid (LsAt B pb W0 w vU vV xs gen st m (k+1) w3 vU3 vV3 (g0 (decR yp (some s1))) (m1+1+(szT n y - 1))) :=
         HR.out.next HY.out.2.1 c (by rw[HK.out.2.2,←HN.out.2]) p3 (FR2.out.stp.trans s3) q3 (by have:=HBU.out;omega)
        clear p3 s3 q3 hc
        go_wp2_with fail
        refine⟨⟨k+1,_,_,_,_,HX.out,by go_num⟩,?_⟩
        simp[intOf]
        omega
       ·have t4:(((nkT n y:Nat):Int) == 1)=false:=by simp;omega
        have HE:Hid (foldR (fun y st=>semR n 3 y gen st) xs st=none):=by
         show _=_
         rw[HR.out.val,HY.out.2.1,foldR,item_len n y gen _ (by rw[←HN.out.1];omega) t3,fold_bad]
        go_upto_region 4 with fail
        rw[←hwb]
        clear hwb
        go_wp2_with fail
        refine hd.mono ?_
        rintro e w2 ⟨rfl,vU2,vV2,p2,s2,q2⟩
        have FR2:Hid (Fr B pb W0 wr vU1 vV1 wr.heap.size #[.int .i64 32,.int .i64 yp,.string yn,.int .u64 yu,.string yo,.slice (atT n y) (nkT n y) (capT n y)] w2 vU2 vV2 (decR yp (some s1)) (m1+1)):=FR.out.call p2 s2 q2
        obtain⟨d0,d1,d2,d3,d4,d5⟩:=six FR2.out.box
        obtain⟨g2,h2⟩:=FR2.out.pl.bad
        clear p2 s2 q2 hd
        go_wp2_with fail
        refine bodyPost_ret (results_none rfl _ _ _) rfl ?_
        obtain⟨a1,a2⟩:=FR2.out.pl.spoil
        refine⟨rfl,vU2,vV2,?_,(HR.out.stp.trans FR2.out.stp).trans a2,FR2.out.pl.below a2 FR2.out.bel⟩
        rw[HE.out]
        exact a1.more (by have:=HR.out.bud;have:=HBU.out;have h3:szL (xs.drop k)=szT n y+szL (xs.drop (k+1)):=(by rw[HY.out.2.1,szL_cons]);omega)
  ·have HE:Hid (foldR (fun y st=>semR n 3 y gen st) xs st=st1):=by
    show _=_
    rw[HR.out.val,List.drop_of_length_le c]
    rfl
   go_wp2_with fail
   go_end0
   refine⟨rfl,vU1,vV1,?_,HR.out.stp,HR.out.bel⟩
   rw[HE.out]
   exact HR.out.pl.more (by have:=HR.out.bud;omega)
structure PaAt {n:Nat}(B pb:Nat)(W0 w:World)(vU vV:Value)(box:Array Value)(ys:List (Tr n))(st0:RS)(m0:Nat)(k:Nat)(wr:World)(vU' vV':Value)(st:RS)(m:Nat):Prop where
 le:k≤ys.length
 val:foldR (paramR (kidT n)) ys st0=foldR (paramR (kidT n)) (ys.drop k) st
 fr:Fr B pb W0 w vU vV w.heap.size box wr vU' vV' st m
 bud:m+(ys.length - k)≤m0+ys.length
theorem sz_ge {n:Nat}(xs:List (Tr n)):xs.length≤szL xs:=by
 induction xs with
 | nil=>exact Nat.le_refl _
 | cons k ks ih=>rw[szL_cons,List.length_cons];have:=sz_pos n k;omega
theorem fold_pbad {n:Nat}(xs:List (Tr n)):foldR (paramR (kidT n)) xs none=none:=fold_none _ (fun k=>by unfold paramR decR;split <;> rfl) xs
theorem last_none {n:Nat}(xs:List (Tr n))(gen:Bool):lastR (semR n) xs gen none=none:=by
 unfold lastR
 cases xs[xs.length - 1]? with
 | none=>rfl
 | some k =>
   show semR n 4 k gen none=none
   cases n with
   | zero=>exact nomatch (k:Empty)
   | succ n=>obtain⟨x,s⟩:=k;exact fold_bad s.xs gen
theorem funct_bad {n:Nat}(x:Nd)(xs:List (Tr n))(st:RS)(h:xs.length=0∨(isS x.op []=false∧isS x.op [42]=false)∨kd0 (kidT n) xs (xs.length - 1)≠44):functR (kidT n) (semR n) x xs st=none:=by
 unfold functR;rw[if_pos h]
theorem funct_good {n:Nat}(x:Nd)(ys:List (Tr n))(kb:Tr n)(st:RS)(h1:¬(isS x.op []=false∧isS x.op [42]=false))(h2:(ndT n kb).kind=44) :
  functR (kidT n) (semR n) x (ys++[kb]) st=semR n 4 kb (isS x.op [42]) (foldR (paramR (kidT n)) ys st):=by
 have e4:(ys++[kb]).length - 1=ys.length:=by simp
 unfold functR
 rw[if_neg]
 ·unfold lastR
  rw[e4]
  simp
 ·rintro(q | q | q)
  ·simp at q
  ·exact h1 q
  ·apply q
   rw[e4]
   simp only[kd0,List.getElem?_append_right (Nat.le_refl _),Nat.sub_self]
   show kdT n kb=44
   rw[kd_nd]
   exact h2
theorem funct_rc {B pb:Nat}{W0:World}{n:Nat}(H:KidsRC B pb W0 n)(hB:B=W0.heap.size)(x:Nd)(s:Sli (Tr n))(hok:okT (n+1) W0 ((x,s):Nd×Sli (Tr n))) :
  RC B pb W0 31 #[.pointer (some ⟨pb,0,none⟩),valT (n+1) ((x,s):Nd×Sli (Tr n))] (functR (kidT n) (semR n) x s.xs) (szL s.xs):=by
 intro w vU vV st m hb hp hm
 have HH:Hid (KidsRC B pb W0 n):=H
 have HBE:Hid (B=W0.heap.size):=hB
 have HS:Hid (s.ok (encT n) 6 W0∧∀y∈s.xs,okT n W0 y):=hok.2
 have hl:s.xs.length≤maxLen:=Nat.le_trans hok.2.1.len hok.2.1.cap
 have HB:Hid (Below B W0 w∧PlAt B pb w st m vU vV):=⟨hb,hp⟩
 have HM:Hid (m+szL s.xs≤1000000):=hm
 clear hb hp hok H hB hm
 rw[val_succ]
 obtain⟨kind,pl,name,num,op⟩:=x
 obtain⟨ad,cap,xs⟩:=s
 simp only at HS hl HM ⊢
 unfold maxLen at hl
 obtain⟨R,hR⟩:∃R:RS,R=functR (kidT n) (semR n) ⟨kind,pl,name,num,op⟩ xs st:=⟨_,rfl⟩
 rw[←hR]
 have HR:Hid (R=functR (kidT n) (semR n) ⟨kind,pl,name,num,op⟩ xs st):=hR
 clear hR
 rcases List.eq_nil_or_concat xs with c | ⟨ys,kb,c⟩
 ·subst c
  have e:R=none:=by rw[HR.out,funct_bad _ _ _ (Or.inl rfl)]
  rw[e]
  clear HR e
  have HSZ:Hid (szL ([]:List (Tr n))=0):=rfl
  simp only[List.length_nil] at *
  obtain⟨wb,hwb⟩:∃wb,wb=w.alloc (.cells #[.int .i64 kind,.int .i64 pl,.string name,.int .u64 num,.string op,.slice ad 0 cap] 25):=⟨_,rfl⟩
  have FR:Hid (Fr B pb W0 w vU vV w.heap.size #[.int .i64 kind,.int .i64 pl,.string name,.int .u64 num,.string op,.slice ad 0 cap] wb vU vV st m):=by rw[hwb];exact Fr.start HB.out.1 HB.out.2 _ _
  have b5:wb.cell? ⟨w.heap.size,5,none⟩=some (.slice ad 0 cap):=FR.out.box 5 _ rfl
  obtain⟨c2,f2⟩:=FR.out.pl.bad
  go_enter Tryz.func31,Tryz.ntmps31
  go_upto_region 1 with fail
  rw[←hwb]
  clear hwb
  go_wp2_with fail
  refine bodyPost_ret (results_none rfl _ _ _) rfl ?_
  exact⟨rfl,FR.out.spoil.done rfl (by omega)⟩
 ·rw[List.concat_eq_append] at c
  subst c
  have hll:(ys++[kb]).length=ys.length+1:=by simp
  obtain⟨b,off,e1,hlie⟩:=kids_lie HS.out.1 (by simp)
  simp only at e1 hlie
  subst e1
  have HL:Hid (∀(k:Nat) (y:Tr n),(ys++[kb])[k]?=some y→∀(B:Nat) (w:World),B=W0.heap.size→Below B W0 w→Six w b (off+k*6) (ndT n y) (.slice (atT n y) (nkT n y) (capT n y))):=hlie
  clear hlie
  have HKB:Hid ((ys++[kb])[ys.length]?=some kb):=by show _=_;simp
  rw[hll] at hl ⊢
  clear hll
  obtain⟨wb,hwb⟩:∃wb,wb=w.alloc (.cells #[.int .i64 kind,.int .i64 pl,.string name,.int .u64 num,.string op,.slice (some ⟨b,off,none⟩) (ys.length+1) cap] 25):=⟨_,rfl⟩
  have FR:Hid (Fr B pb W0 w vU vV w.heap.size #[.int .i64 kind,.int .i64 pl,.string name,.int .u64 num,.string op,.slice (some ⟨b,off,none⟩) (ys.length+1) cap] wb vU vV st m):=by rw[hwb];exact Fr.start HB.out.1 HB.out.2 _ _
  have b4:wb.cell? ⟨w.heap.size,4,none⟩=some (.string op):=FR.out.box 4 _ rfl
  have b5:wb.cell? ⟨w.heap.size,5,none⟩=some (.slice (some ⟨b,off,none⟩) (ys.length+1) cap):=FR.out.box 5 _ rfl
  obtain⟨c2,f2⟩:=FR.out.pl.bad
  by_cases hop:isS op []=false∧isS op [42]=false
  ·have e:R=none:=by rw[HR.out,funct_bad _ _ _ (Or.inr (Or.inl hop))]
   rw[e]
   clear HR e
   obtain⟨o1,o2⟩:=hop
   unfold isS at o1 o2
   go_enter Tryz.func31,Tryz.ntmps31
   go_upto_region 1 with fail
   rw[←hwb]
   clear hwb
   go_wp2_with fail
   refine bodyPost_ret (results_none rfl _ _ _) rfl ?_
   exact⟨rfl,FR.out.spoil.done rfl (by omega)⟩
  ·have hops:((op.toList == [])=true∧(op.toList == [42])=false)∨((op.toList == [])=false∧(op.toList == [42])=true):=by
    unfold isS at hop
    cases z1:(op.toList == []) <;> cases z2:(op.toList == [42]) <;> simp_all
   have HOP:Hid (¬(isS op []=false∧isS op [42]=false)):=hop
   clear hop
   obtain⟨y0,y1,y2,y3,y4,y5⟩:=HL.out ys.length kb HKB.out B wb HBE.out FR.out.bel
   have HKO:Hid (okT n W0 kb):=HS.out.2 kb (by simp)
   obtain⟨star,hstar⟩:∃star,star=(op.toList == [42]):=⟨_,rfl⟩
   have HST:Hid (star=isS op [42]):=hstar
   obtain⟨bk,hbk⟩:∃bk,bk=(ndT n kb).kind:=⟨_,rfl⟩
   have HBK:Hid (bk=(ndT n kb).kind):=hbk
   rw[←hbk] at y0
   clear hbk
   by_cases h44:bk=44
   ·subst h44
    have e:R=semR n 4 kb star (foldR (paramR (kidT n)) ys st):=by rw[HR.out,funct_good _ _ _ _ HOP.out HBK.out.symm,HST.out]
    rw[e]
    clear HR e
    have HI:Hid (PaAt B pb W0 w vU vV #[.int .i64 kind,.int .i64 pl,.string name,.int .u64 num,.string op,.slice (some ⟨b,off,none⟩) (ys.length+1) cap] ys st m 0 wb vU vV st m):=⟨Nat.zero_le _,rfl,FR.out,by omega⟩
    have HSZ:Hid (ys.length+szT n kb≤szL (ys++[kb])):=by
     have h1:=sz_ge ys
     have h2:szL (ys++[kb])=szL ys+szT n kb:=by unfold szL;simp
     show _≤_
     omega
    rcases hops with⟨o1,o2⟩ | ⟨o1,o2⟩
    all_goals
     rw[o2] at hstar
     have HSV:Hid (star=_):=hstar
     clear hstar
     go_enter Tryz.func31,Tryz.ntmps31
     go_upto_region 1 with fail
     rw[←hwb]
     clear hwb
     go_wp2_with fail
     go_loopw [5] (fun i wr=>∃(k:Nat) (vU' vV':Value) (st':RS) (m':Nat),PaAt B pb W0 w vU vV #[.int .i64 kind,.int .i64 pl,.string name,.int .u64 num,.string op,.slice (some ⟨b,off,none⟩) (ys.length+1) cap] ys st m k wr vU' vV' st' m'∧i = .int .i64 k) (fun i wr=>ys.length - (intOf i).toNat)
     case atStart=>exact⟨0,vU,vV,st,m,HI.out,rfl⟩
     case round =>
      obtain⟨k,vU1,vV1,st1,m1,hr,rfl⟩:=hrel
      have ple:=hr.le
      have HR1:Hid (PaAt B pb W0 w vU vV #[.int .i64 kind,.int .i64 pl,.string name,.int .u64 num,.string op,.slice (some ⟨b,off,none⟩) (ys.length+1) cap] ys st m k wr vU1 vV1 st1 m1):=hr
      have d4:wr.cell? ⟨w.heap.size,4,none⟩=some (.string op):=hr.fr.box 4 _ rfl
      have d5:wr.cell? ⟨w.heap.size,5,none⟩=some (.slice (some ⟨b,off,none⟩) (ys.length+1) cap):=hr.fr.box 5 _ rfl
      obtain⟨g2,h2⟩:=hr.fr.pl.bad
      clear hr HI FR b4 b5 c2 f2 y0 y1 y2 y3 y4 y5
      rcases Nat.lt_or_ge k ys.length with c | c
      ·have hex:∃y,ys[k]?=some y:=⟨_,List.getElem?_eq_getElem c⟩
       obtain⟨y,hy⟩:=hex
       have hd:ys.drop k=y :: ys.drop (k+1):=by
        rw[List.drop_eq_getElem_cons c]
        rw[List.getElem?_eq_getElem c] at hy
        rw[Option.some.inj hy]
       have hy2:(ys++[kb])[k]?=some y:=by rw[List.getElem?_append_left c];exact hy
       obtain⟨y0,y1,y2,y3,y4,y5⟩:=HL.out k y hy2 B wr HBE.out HR1.out.fr.bel
       have hnk:nkT n y≤maxLen:=by
        have:=HS.out.2 y (by simp;exact Or.inl (List.mem_of_getElem? hy))
        cases n with
        | zero=>exact nomatch (y:Empty)
        | succ n=>obtain⟨x,q⟩:=y;exact Nat.le_trans this.2.1.len this.2.1.cap
       unfold maxLen at hnk
       have HY:Hid (ys.drop k=y :: ys.drop (k+1)):=hd
       clear hy hy2 hd
       have kB:k<ys.length+1:=by omega
       obtain⟨yk,hyk⟩:∃yk,yk=(ndT n y).kind:=⟨_,rfl⟩
       have HYK:Hid (yk=(ndT n y).kind):=hyk
       rw[←hyk] at y0
       clear hyk
       by_cases t:yk=3∧nkT n y=0
       ·obtain⟨t1,t2⟩:=t
        subst t1
        rw[t2] at y5 hnk
        have hc:=declared_rc B pb W0 (ndT n y).pl wr vU1 vV1 st1 m1 HR1.out.fr.bel HR1.out.fr.pl (by have:=HR1.out.bud;have:=HM.out;have:=HSZ.out;have:=sz_pos n kb;omega)
        have HPA:Hid (paramR (kidT n) y st1=decR (ndT n y).pl st1):=by
         show(if kdT n y≠3∨0<nkT n y then none else decR (plT n y) st1)=_
         rw[kd_nd,pl_nd,←HYK.out,if_neg (by omega)]
        go_wp2_with fail
        refine hc.mono ?_
        rintro e w2 ⟨rfl,vU2,vV2,p2,s2,q2⟩
        have HX:Hid (PaAt B pb W0 w vU vV #[.int .i64 kind,.int .i64 pl,.string name,.int .u64 num,.string op,.slice (some ⟨b,off,none⟩) (ys.length+1) cap] ys st m (k+1) w2 vU2 vV2 (decR (ndT n y).pl st1) (m1+1)):=by
         refine⟨c,?_,HR1.out.fr.call p2 s2 q2,by have:=HR1.out.bud;omega⟩
         rw[HR1.out.val,HY.out,foldR,HPA.out]
        clear p2 s2 q2 hc
        go_wp2_with fail
        refine⟨⟨k+1,_,_,_,_,HX.out,by go_num⟩,?_⟩
        simp[intOf]
        omega
       ·have HE:Hid (semR n 4 kb star (foldR (paramR (kidT n)) ys st)=none):=by
         have e1:paramR (kidT n) y st1=none:=by
          show(if kdT n y≠3∨0<nkT n y then none else decR (plT n y) st1)=_
          rw[kd_nd,←HYK.out,if_pos (by omega)]
         have e2:=fun g=>last_none [kb] g
         show _=_
         rw[HR1.out.val,HY.out,foldR,e1,fold_pbad]
         exact e2 _
        have hyz:yk≠3∨(yk=3∧0<nkT n y):=by omega
        clear t
        rcases hyz with t1 | ⟨t1,t2⟩
        all_goals
         (try subst t1)
         go_wp2_with fail
         refine bodyPost_ret (results_none rfl _ _ _) rfl ?_
         rw[HE.out]
         exact⟨rfl,HR1.out.fr.spoil.done rfl (by have:=HR1.out.bud;have:=HSZ.out;have:=sz_pos n kb;omega)⟩
      ·have HE:Hid (foldR (paramR (kidT n)) ys st=st1):=by
        show _=_
        rw[HR1.out.val,List.drop_of_length_le c]
        rfl
       obtain rfl:k=ys.length:=by omega
       obtain⟨y0,y1,y2,y3,y4,y5⟩:=HL.out ys.length kb HKB.out B wr HBE.out HR1.out.fr.bel
       have HFD:=HR1.out.fr.new (Below.refl wr.heap.size wr).drew
       have HF:Hid (Fr B pb W0 w vU vV w.heap.size _ wr.drew vU1 vV1 st1 m1):=HFD
       clear HFD
       have hc:=HH.out.body kb star HKO.out wr.drew vU1 vV1 st1 m1 HF.out.bel HF.out.pl (by have:=HR1.out.bud;have:=HM.out;have:=HSZ.out;omega)
       rw[HSV.out] at hc
       clear c
       go_wp2_with fail
       go_region_held_law (fun w'=>w'.cell? ⟨w.heap.size,4,none⟩=some (.string op)∧w'.cell? ⟨w.heap.size,5,none⟩=some (.slice (some ⟨b,off,none⟩) (ys.length+1) cap)∧w'.cell? ⟨b,off+ys.length*6+5,none⟩=some (.slice (atT n kb) (nkT n kb) (capT n kb))) (first | exact⟨k4,k5,k6⟩ | go_keep)
        ((go_at_call 18;refine hc.mono ?_;rintro e w2 ⟨rfl,vU2,vV2,p2,s2,q2⟩;have FR2:=HF.out.call p2 s2 q2;have k4:w2.cell? ⟨w.heap.size,4,none⟩=some (.string op):=FR2.box 4 _ rfl;have k5:w2.cell? ⟨w.heap.size,5,none⟩=some (.slice (some ⟨b,off,none⟩) (ys.length+1) cap):=FR2.box 5 _ rfl;have k6:=(HL.out ys.length kb HKB.out B w2 HBE.out FR2.bel).2.2.2.2.2;have FR3:Hid (Fr B pb W0 w vU vV w.heap.size #[.int .i64 kind,.int .i64 pl,.string name,.int .u64 num,.string op,.slice (some ⟨b,off,none⟩) (ys.length+1) cap] w2 vU2 vV2 (semR n 4 kb _ st1) (m1+szT n kb)):=FR2;clear p2 s2 q2 FR2))
       go_wp2_with fail
       go_end0
       rw[HE.out,HSV.out]
       exact⟨rfl,FR3.out.done rfl (by have:=HR1.out.bud;have:=HSZ.out;omega)⟩
   ·have e:R=none:=by
     rw[HR.out,funct_bad]
     right;right
     simp only[List.length_append,List.length_cons,List.length_nil,Nat.zero_add,Nat.add_sub_cancel,kd0,HKB.out]
     show kdT n kb≠44
     rw[kd_nd,←HBK.out]
     exact h44
    rw[e]
    clear HR e hstar
    have h45:(bk != 44)=true:=by simpa using h44
    rcases hops with⟨o1,o2⟩ | ⟨o1,o2⟩
    all_goals
     go_enter Tryz.func31,Tryz.ntmps31
     go_upto_region 1 with fail
     rw[←hwb]
     clear hwb
     go_wp2_with fail
     refine bodyPost_ret (results_none rfl _ _ _) rfl ?_
     exact⟨rfl,FR.out.spoil.done rfl (by omega)⟩
end Go.Proofs.YtihmdcdifakepaaGreat.Sc
