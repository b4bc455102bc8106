/- WH, WI -/
import Derived.Test.YtihmdcdifakepaaGreatB6
import Derived.Deep.Cut
set_option linter.unusedVariables false
set_option linter.unusedSimpArgs false
set_option maxRecDepth 100000
set_option maxHeartbeats 40000000
namespace Go.Proofs.YtihmdcdifakepaaGreat.Sc
open Go.RowKit
def functT:(n:Nat)→Tr n→RS→RS
 | 0,t=>nomatch (t:Empty)
 | n+1,(x,s)=>functR (kidT n) (semR n) x s.xs
structure KidsRC (B pb:Nat)(W0:World)(n:Nat):Prop where
 term:∀(t:Tr n) (gen:Bool),okT n W0 t→RC B pb W0 32 #[.pointer (some ⟨pb,0,none⟩),valT n t,.bool gen] (semR n 0 t gen) (szT n t)
 perh:∀(t:Tr n) (gen:Bool),okT n W0 t→RC B pb W0 33 #[.pointer (some ⟨pb,0,none⟩),valT n t,.bool gen] (semR n 1 t gen) (szT n t)
 prop:∀(t:Tr n) (gen:Bool),okT n W0 t→RC B pb W0 58 #[.pointer (some ⟨pb,0,none⟩),valT n t,.bool gen] (semR n 2 t gen) (szT n t)
 body:∀(t:Tr n) (gen:Bool),okT n W0 t→RC B pb W0 18 #[.pointer (some ⟨pb,0,none⟩),.slice (atT n t) (nkT n t) (capT n t),.bool gen] (semR n 4 t gen) (szT n t)
 sing:∀(t:Tr n) (gen:Bool),okT n W0 t→RC B pb W0 29 #[.pointer (some ⟨pb,0,none⟩),valT n t,.bool gen] (semR n 5 t gen) (szT n t)
 brac:∀(t:Tr n) (gen:Bool),okT n W0 t→RC B pb W0 53 #[.pointer (some ⟨pb,0,none⟩),valT n t,.bool gen] (semR n 6 t gen) (szT n t)
 funct:∀(t:Tr n),okT n W0 t→RC B pb W0 31 #[.pointer (some ⟨pb,0,none⟩),valT n t] (functT n t) (szT n t - 1)
theorem kids_lie {n:Nat}{W0:World}{s:Sli (Tr n)}(h:s.ok (encT n) 6 W0)(hne:s.xs≠[]) :
  ∃(b off:Nat),s.at'=some ⟨b,off,none⟩∧∀(k:Nat) (y:Tr n),s.xs[k]?=some y→∀(B:Nat) (w:World),B=W0.heap.size→Below B W0 w→Six w b (off+k*6) (ndT n y) (.slice (atT n y) (nkT n y) (capT n y)):=by
 obtain⟨b,off,h1,h2⟩:=h.cells hne
 refine⟨b,off,h1,fun k y hk B w hB hb => ?_⟩
 subst hB
 have g:=h2 k _ hk
 have c:=cells_below hb
 exact⟨c _ _ (g 0 _ rfl),c _ _ (g 1 _ rfl),c _ _ (g 2 _ rfl),c _ _ (g 3 _ rfl),c _ _ (g 4 _ rfl),c _ _ (g 5 _ rfl)⟩
theorem perh_rc {B pb:Nat}{W0:World}{n:Nat}(x:Nd)(s:Sli (Tr n))(gen:Bool)(hok:okT (n+1) W0 ((x,s):Nd×Sli (Tr n)))
  (ht:RC B pb W0 32 #[.pointer (some ⟨pb,0,none⟩),valT (n+1) ((x,s):Nd×Sli (Tr n)),.bool gen] (termR (kidT n) (semR n) x s.xs gen) (szT (n+1) ((x,s):Nd×Sli (Tr n)))) :
  RC B pb W0 33 #[.pointer (some ⟨pb,0,none⟩),valT (n+1) ((x,s):Nd×Sli (Tr n)),.bool gen] (perhapsR (kidT n) (semR n) x s.xs gen) (szT (n+1) ((x,s):Nd×Sli (Tr n))):=by
 intro w vU vV st m hb hp hm
 have hl:s.xs.length≤maxLen:=Nat.le_trans hok.2.1.len hok.2.1.cap
 have HE:Hid (RC B pb W0 52 #[.pointer (some ⟨pb,0,none⟩),valT (n+1) ((x,s):Nd×Sli (Tr n))] (emptyR s.xs) 0):=empty_rc B pb W0 x s.at' s.xs.length s.cap hl
 have HT:Hid (RC B pb W0 32 #[.pointer (some ⟨pb,0,none⟩),valT (n+1) ((x,s):Nd×Sli (Tr n)),.bool gen] (termR (kidT n) (semR n) x s.xs gen) (szT (n+1) ((x,s):Nd×Sli (Tr n)))):=ht
 have HB:Hid (Below B W0 w∧PlAt B pb w st m vU vV):=⟨hb,hp⟩
 clear hb hp ht hok hl
 rw[val_succ] at HE HT ⊢
 generalize hz:szT (n+1) ((x,s):Nd×Sli (Tr n))=z at *
 clear hz
 unfold perhapsR
 obtain⟨kind,pl,name,num,op⟩:=x
 obtain⟨ad,cap,xs⟩:=s
 simp only at HE HT ⊢
 by_cases h0:kind=0
 ·subst h0
  have hr:(if (0:Int)≠0 then termR (kidT n) (semR n) ⟨0,pl,name,num,op⟩ xs gen st else emptyR xs st)=emptyR xs st:=rfl
  rw[hr]
  clear hr
  obtain⟨wb,hwb⟩:∃wb,wb=w.alloc (.cells #[.int .i64 0,.int .i64 pl,.string name,.int .u64 num,.string op,.slice ad xs.length cap] 25):=⟨_,rfl⟩
  have FR:Hid (Fr B pb W0 w vU vV w.heap.size #[.int .i64 0,.int .i64 pl,.string name,.int .u64 num,.string op,.slice ad xs.length cap] wb vU vV (st) (m)):=by rw[hwb];exact Fr.start HB.out.1 HB.out.2 _ _
  obtain⟨b0,b1,b2,b3,b4,b5⟩:=six FR.out.box
  obtain⟨c2,f2⟩:=FR.out.pl.bad
  have hc:=HE.out wb vU vV st m FR.out.bel FR.out.pl (by omega)
  go_enter Tryz.func33,Tryz.ntmps33
  go_upto_region 1 with fail
  rw[←hwb]
  clear hwb
  go_wp2_with (go_at_call 52;refine hc.mono ?_;rintro e w2 ⟨rfl,vU2,vV2,p2,s2,q2⟩;have FR2:Hid (Fr B pb W0 w vU vV w.heap.size #[.int .i64 0,.int .i64 pl,.string name,.int .u64 num,.string op,.slice ad xs.length cap] w2 vU2 vV2 (emptyR xs st) m):=FR.out.call p2 s2 q2;clear p2 s2 q2 hc)
  go_end0
  exact⟨rfl,FR2.out.done rfl (by omega)⟩
 ·have hr:(if kind≠0 then termR (kidT n) (semR n) ⟨kind,pl,name,num,op⟩ xs gen st else emptyR xs st)=termR (kidT n) (semR n) ⟨kind,pl,name,num,op⟩ xs gen st:=if_pos h0
  rw[hr]
  clear hr
  obtain⟨wb,hwb⟩:∃wb,wb=w.alloc (.cells #[.int .i64 kind,.int .i64 pl,.string name,.int .u64 num,.string op,.slice ad xs.length cap] 25):=⟨_,rfl⟩
  have FR:Hid (Fr B pb W0 w vU vV w.heap.size #[.int .i64 kind,.int .i64 pl,.string name,.int .u64 num,.string op,.slice ad xs.length cap] wb vU vV (st) (m)):=by rw[hwb];exact Fr.start HB.out.1 HB.out.2 _ _
  obtain⟨b0,b1,b2,b3,b4,b5⟩:=six FR.out.box
  obtain⟨c2,f2⟩:=FR.out.pl.bad
  have hc:=HT.out wb vU vV st m FR.out.bel FR.out.pl (by omega)
  go_enter Tryz.func33,Tryz.ntmps33
  go_upto_region 1 with fail
  rw[←hwb]
  clear hwb
  go_wp2_with (go_at_call 32;refine hc.mono ?_;rintro e w2 ⟨rfl,vU2,vV2,p2,s2,q2⟩;have FR2:Hid (Fr B pb W0 w vU vV w.heap.size #[.int .i64 kind,.int .i64 pl,.string name,.int .u64 num,.string op,.slice ad xs.length cap] w2 vU2 vV2 (termR (kidT n) (semR n) ⟨kind,pl,name,num,op⟩ xs gen st) (m+z)):=FR.out.call p2 s2 q2;clear p2 s2 q2 hc)
  go_end0
  exact⟨rfl,FR2.out.done rfl (by omega)⟩
theorem brac_rc {B pb:Nat}{W0:World}{n:Nat}(x:Nd)(s:Sli (Tr n))(gen:Bool)(hok:okT (n+1) W0 ((x,s):Nd×Sli (Tr n)))
  (ht:RC B pb W0 18 #[.pointer (some ⟨pb,0,none⟩),.slice s.at' s.xs.length s.cap,.bool gen] (bodyR (semR n) s.xs gen) (szT (n+1) ((x,s):Nd×Sli (Tr n)))) :
  RC B pb W0 53 #[.pointer (some ⟨pb,0,none⟩),valT (n+1) ((x,s):Nd×Sli (Tr n)),.bool gen] (bracesR (semR n) x s.xs gen) (szT (n+1) ((x,s):Nd×Sli (Tr n))):=by
 intro w vU vV st m hb hp hm
 have HT:Hid (RC B pb W0 18 #[.pointer (some ⟨pb,0,none⟩),.slice s.at' s.xs.length s.cap,.bool gen] (bodyR (semR n) s.xs gen) (szT (n+1) ((x,s):Nd×Sli (Tr n)))):=ht
 have HB:Hid (Below B W0 w∧PlAt B pb w st m vU vV):=⟨hb,hp⟩
 clear hb hp ht hok
 rw[val_succ]
 generalize hz:szT (n+1) ((x,s):Nd×Sli (Tr n))=z at *
 clear hz
 unfold bracesR
 obtain⟨kind,pl,name,num,op⟩:=x
 obtain⟨ad,cap,xs⟩:=s
 simp only at HT ⊢
 by_cases h0:kind=44
 ·subst h0
  rw[if_neg (by simp)]
  obtain⟨wb,hwb⟩:∃wb,wb=w.alloc (.cells #[.int .i64 44,.int .i64 pl,.string name,.int .u64 num,.string op,.slice ad xs.length cap] 25):=⟨_,rfl⟩
  have FR:Hid (Fr B pb W0 w vU vV w.heap.size #[.int .i64 44,.int .i64 pl,.string name,.int .u64 num,.string op,.slice ad xs.length cap] wb vU vV (st) (m)):=by rw[hwb];exact Fr.start HB.out.1 HB.out.2 _ _
  obtain⟨b0,b1,b2,b3,b4,b5⟩:=six FR.out.box
  obtain⟨c2,f2⟩:=FR.out.pl.bad
  have hc:=HT.out wb vU vV st m FR.out.bel FR.out.pl (by omega)
  go_enter Tryz.func53,Tryz.ntmps53
  go_upto_region 1 with fail
  rw[←hwb]
  clear hwb
  go_wp2_with (go_at_call 18;refine hc.mono ?_;rintro e w2 ⟨rfl,vU2,vV2,p2,s2,q2⟩;have FR2:Hid (Fr B pb W0 w vU vV w.heap.size #[.int .i64 44,.int .i64 pl,.string name,.int .u64 num,.string op,.slice ad xs.length cap] w2 vU2 vV2 (bodyR (semR n) xs gen st) (m+z)):=FR.out.call p2 s2 q2;clear p2 s2 q2 hc)
  go_end0
  exact⟨rfl,FR2.out.done rfl (by omega)⟩
 ·rw[if_pos h0]
  obtain⟨wb,hwb⟩:∃wb,wb=w.alloc (.cells #[.int .i64 kind,.int .i64 pl,.string name,.int .u64 num,.string op,.slice ad xs.length cap] 25):=⟨_,rfl⟩
  have FR:Hid (Fr B pb W0 w vU vV w.heap.size #[.int .i64 kind,.int .i64 pl,.string name,.int .u64 num,.string op,.slice ad xs.length cap] wb vU vV (st) (m)):=by rw[hwb];exact Fr.start HB.out.1 HB.out.2 _ _
  obtain⟨b0,b1,b2,b3,b4,b5⟩:=six FR.out.box
  obtain⟨c2,f2⟩:=FR.out.pl.bad
  go_enter Tryz.func53,Tryz.ntmps53
  go_upto_region 1 with fail
  rw[←hwb]
  clear hwb
  go_wp2_with fail
  refine bodyPost_ret (results_none rfl _ _ _) rfl ?_
  exact⟨rfl,FR.out.spoil.done rfl (by omega)⟩
theorem prop_rc {B pb:Nat}{W0:World}{n:Nat}(H:KidsRC B pb W0 n)(hB:B=W0.heap.size)(x:Nd)(s:Sli (Tr n))(gen:Bool)(hok:okT (n+1) W0 ((x,s):Nd×Sli (Tr n))) :
  RC B pb W0 58 #[.pointer (some ⟨pb,0,none⟩),valT (n+1) ((x,s):Nd×Sli (Tr n)),.bool gen] (propR (semR n) x s.xs gen) (szT (n+1) ((x,s):Nd×Sli (Tr n))):=by
 intro w vU vV st m hb hp hm
 have HH:Hid (KidsRC B pb W0 n):=H
 have HBE:Hid (B=W0.heap.size):=hB
 have HS:Hid (s.ok (encT n) 6 W0∧∀y∈s.xs,okT n W0 y):=hok.2
 have hl:s.xs.length≤maxLen:=Nat.le_trans hok.2.1.len hok.2.1.cap
 have HB:Hid (Below B W0 w∧PlAt B pb w st m vU vV):=⟨hb,hp⟩
 clear hb hp hok H hB
 rw[val_succ]
 obtain⟨kind,pl,name,num,op⟩:=x
 obtain⟨ad,cap,xs⟩:=s
 have HZ:Hid (szT (n+1) ((⟨kind,pl,name,num,op⟩,⟨ad,cap,xs⟩):Nd×Sli (Tr n))=1+szL xs):=rfl
 generalize hz:szT (n+1) ((⟨kind,pl,name,num,op⟩,⟨ad,cap,xs⟩):Nd×Sli (Tr n))=z at *
 clear hz
 unfold propR isS
 unfold maxLen at hl
 simp only at HS hl ⊢
 obtain⟨R,hR⟩:∃R:RS,R=if kind≠11∨xs.length≠2∨((op.toList == [105,110,105,116])=false∧(op.toList == [103,101,116])=false∧(op.toList == [115,101,116])=false) then none else kidR (semR n) 0 xs 1 gen (kidR (semR n) 0 xs 0 gen st):=⟨_,rfl⟩
 rw[←hR]
 have HR:Hid (R=if kind≠11∨xs.length≠2∨((op.toList == [105,110,105,116])=false∧(op.toList == [103,101,116])=false∧(op.toList == [115,101,116])=false) then none else kidR (semR n) 0 xs 1 gen (kidR (semR n) 0 xs 0 gen st)):=hR
 clear hR
 by_cases h0:kind=11
 ·by_cases h1:xs.length=2
  ·by_cases hop:(op.toList == [105,110,105,116])=false∧(op.toList == [103,101,116])=false∧(op.toList == [115,101,116])=false
   ·obtain⟨o1,o2,o3⟩:=hop
    have e:R=none:=by rw[HR.out,if_pos (Or.inr (Or.inr ⟨o1,o2,o3⟩))]
    rw[e]
    clear HR e
    subst h0
    rw[h1]
    obtain⟨wb,hwb⟩:∃wb,wb=w.alloc (.cells #[.int .i64 11,.int .i64 pl,.string name,.int .u64 num,.string op,.slice ad 2 cap] 25):=⟨_,rfl⟩
    have FR:Hid (Fr B pb W0 w vU vV w.heap.size #[.int .i64 11,.int .i64 pl,.string name,.int .u64 num,.string op,.slice ad 2 cap] wb vU vV (st) (m)):=by rw[hwb];exact Fr.start HB.out.1 HB.out.2 _ _
    obtain⟨b0,b1,b2,b3,b4,b5⟩:=six FR.out.box
    obtain⟨c2,f2⟩:=FR.out.pl.bad
    go_enter Tryz.func58,Tryz.ntmps58
    go_upto_region 1 with fail
    rw[←hwb]
    clear hwb
    go_wp2_with fail
    refine bodyPost_ret (results_none rfl _ _ _) rfl ?_
    exact⟨rfl,FR.out.spoil.done rfl (by omega)⟩
   ·have e:R=kidR (semR n) 0 xs 1 gen (kidR (semR n) 0 xs 0 gen st):=by rw[HR.out,if_neg (by rintro(q | q | q);exact q h0;exact q h1;exact hop q)]
    rw[e]
    clear HR e
    obtain⟨k0,k1,rfl⟩:∃k0 k1,xs=[k0,k1]:=by
     match xs,h1 with
     | [k0,k1],_=>exact⟨k0,k1,rfl⟩
    obtain⟨b,off,e1,hlie⟩:=kids_lie HS.out.1 (by simp)
    simp only at e1 hlie
    subst e1
    have HL:Hid (∀(k:Nat) (y:Tr n),[k0,k1][k]?=some y→∀(B:Nat) (w:World),B=W0.heap.size→Below B W0 w→Six w b (off+k*6) (ndT n y) (.slice (atT n y) (nkT n y) (capT n y))):=hlie
    clear hlie
    have hz:z=1+(szT n k0+(szT n k1+0)):=by rw[HZ.out,szL_cons,szL_cons];rfl
    have e2:kidR (semR n) 0 [k0,k1] 1 gen (kidR (semR n) 0 [k0,k1] 0 gen st)=semR n 0 k1 gen (semR n 0 k0 gen st):=rfl
    rw[e2]
    clear e2
    subst h0
    have hops:(op.toList == [105,110,105,116])=true∨((op.toList == [105,110,105,116])=false∧(op.toList == [103,101,116])=true)∨((op.toList == [105,110,105,116])=false∧(op.toList == [103,101,116])=false∧(op.toList == [115,101,116])=true):=by
     cases z1:(op.toList == [105,110,105,116]) <;> cases z2:(op.toList == [103,101,116]) <;> cases z3:(op.toList == [115,101,116]) <;> simp_all
    clear hop h1
    simp only[List.length_cons,List.length_nil,Nat.zero_add,Nat.reduceAdd]
    obtain⟨wb,hwb⟩:∃wb,wb=w.alloc (.cells #[.int .i64 11,.int .i64 pl,.string name,.int .u64 num,.string op,.slice (some ⟨b,off,none⟩) 2 cap] 25):=⟨_,rfl⟩
    have FR:Hid (Fr B pb W0 w vU vV w.heap.size #[.int .i64 11,.int .i64 pl,.string name,.int .u64 num,.string op,.slice (some ⟨b,off,none⟩) 2 cap] wb vU vV (st) (m)):=by rw[hwb];exact Fr.start HB.out.1 HB.out.2 _ _
    obtain⟨b0,b1,b2,b3,b4,b5⟩:=six FR.out.box
    obtain⟨c2,f2⟩:=FR.out.pl.bad
    have hc:=HH.out.term k0 gen (HS.out.2 k0 (by simp)) wb vU vV st m FR.out.bel FR.out.pl (by omega)
    obtain⟨y0,y1,y2,y3,y4,y5⟩:=HL.out 0 k0 rfl B wb HBE.out FR.out.bel
    simp only[Nat.zero_mul,Nat.add_zero] at y0 y1 y2 y3 y4 y5
    rcases hops with o1 | ⟨o1,o2⟩ | ⟨o1,o2,o3⟩
    all_goals
     go_enter Tryz.func58,Tryz.ntmps58
     go_upto_region 1 with fail
     rw[←hwb]
     clear hwb
     go_wp2_with fail
     refine hc.mono ?_
     rintro e w2 ⟨rfl,vU2,vV2,p2,s2,q2⟩
     have FR2:Hid (Fr B pb W0 w vU vV w.heap.size #[.int .i64 11,.int .i64 pl,.string name,.int .u64 num,.string op,.slice (some ⟨b,off,none⟩) 2 cap] w2 vU2 vV2 (semR n 0 k0 gen st) (m+szT n k0)):=FR.out.call p2 s2 q2
     have b5':w2.cell? ⟨w.heap.size,5,none⟩=some (.slice (some ⟨b,off,none⟩) 2 cap):=FR2.out.box 5 _ rfl
     obtain⟨z0,z1,z2,z3,z4,z5⟩:=HL.out 1 k1 rfl B w2 HBE.out FR2.out.bel
     have hc2:=HH.out.term k1 gen (HS.out.2 k1 (by simp)) w2 vU2 vV2 (semR n 0 k0 gen st) (m+szT n k0) FR2.out.bel FR2.out.pl (by omega)
     clear p2 s2 q2 hc
     go_wp2_with fail
     refine hc2.mono ?_
     rintro e w3 ⟨rfl,vU3,vV3,p3,s3,q3⟩
     have FR3:Hid (Fr B pb W0 w vU vV w.heap.size #[.int .i64 11,.int .i64 pl,.string name,.int .u64 num,.string op,.slice (some ⟨b,off,none⟩) 2 cap] w3 vU3 vV3 (semR n 0 k1 gen (semR n 0 k0 gen st)) (m+szT n k0+szT n k1)):=FR2.out.call p3 s3 q3
     clear p3 s3 q3 hc2
     go_wp2_with fail
     go_end0
     exact⟨rfl,FR3.out.done rfl (by omega)⟩
  ·have e:R=none:=by rw[HR.out,if_pos (Or.inr (Or.inl h1))]
   rw[e]
   clear HR e
   subst h0
   have h2:(((xs.length:Int)) == 2)=false:=by simp;omega
   obtain⟨wb,hwb⟩:∃wb,wb=w.alloc (.cells #[.int .i64 11,.int .i64 pl,.string name,.int .u64 num,.string op,.slice ad xs.length cap] 25):=⟨_,rfl⟩
   have FR:Hid (Fr B pb W0 w vU vV w.heap.size #[.int .i64 11,.int .i64 pl,.string name,.int .u64 num,.string op,.slice ad xs.length cap] wb vU vV (st) (m)):=by rw[hwb];exact Fr.start HB.out.1 HB.out.2 _ _
   obtain⟨b0,b1,b2,b3,b4,b5⟩:=six FR.out.box
   obtain⟨c2,f2⟩:=FR.out.pl.bad
   go_enter Tryz.func58,Tryz.ntmps58
   go_upto_region 1 with fail
   rw[←hwb]
   clear hwb
   go_wp2_with fail
   refine bodyPost_ret (results_none rfl _ _ _) rfl ?_
   exact⟨rfl,FR.out.spoil.done rfl (by omega)⟩
 ·have e:R=none:=by rw[HR.out,if_pos (Or.inl h0)]
  rw[e]
  clear HR e
  obtain⟨wb,hwb⟩:∃wb,wb=w.alloc (.cells #[.int .i64 kind,.int .i64 pl,.string name,.int .u64 num,.string op,.slice ad xs.length cap] 25):=⟨_,rfl⟩
  have FR:Hid (Fr B pb W0 w vU vV w.heap.size #[.int .i64 kind,.int .i64 pl,.string name,.int .u64 num,.string op,.slice ad xs.length cap] wb vU vV (st) (m)):=by rw[hwb];exact Fr.start HB.out.1 HB.out.2 _ _
  obtain⟨b0,b1,b2,b3,b4,b5⟩:=six FR.out.box
  obtain⟨c2,f2⟩:=FR.out.pl.bad
  go_enter Tryz.func58,Tryz.ntmps58
  go_upto_region 1 with fail
  rw[←hwb]
  clear hwb
  go_wp2_with fail
  refine bodyPost_ret (results_none rfl _ _ _) rfl ?_
  exact⟨rfl,FR.out.spoil.done rfl (by omega)⟩
end Go.Proofs.YtihmdcdifakepaaGreat.Sc
