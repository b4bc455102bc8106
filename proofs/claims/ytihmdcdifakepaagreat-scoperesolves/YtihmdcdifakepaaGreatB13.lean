/- WN, WO -/
import Derived.Test.YtihmdcdifakepaaGreatWM
set_option linter.unusedVariables false
set_option linter.unusedSimpArgs false
set_option maxRecDepth 100000
set_option maxHeartbeats 40000000
namespace Go.Proofs.YtihmdcdifakepaaGreat.Sc
open Go.RowKit
theorem term_gives {B pb:Nat}{W0:World}{n:Nat}(H:KidsRC B pb W0 n)(hB:B=W0.heap.size)(K pl num:Int)(name op:ByteArray)(ad:Option Addr)(cap:Nat)(xs:List (Tr n))(gen:Bool)(hsl:Sli.ok (encT n) 6 W0 ⟨ad,cap,xs⟩)(hk:∀y∈xs,okT n W0 y)(hcond:(shapeR (⟨K,pl,name,num,op⟩:Nd)).2.2=true∧¬(xs.length:Int)<(shapeR (⟨K,pl,name,num,op⟩:Nd)).1∧¬(0≤(shapeR (⟨K,pl,name,num,op⟩:Nd)).2.1∧(shapeR (⟨K,pl,name,num,op⟩:Nd)).2.1<(xs.length:Int)))
  (w:World) (vU vV:Value) (s:St) (m:Nat) (hb:Below B W0 w) (hp:PlAt B pb w (some s) m vU vV) (hm:m+(1+szL xs)≤1000000) (hl:xs.length≤2 ^ 63 - 1)
  (k0:Tr n) (hk0:xs[0]?=some k0) (kk:Int) (hkk:kk=(ndT n k0).kind) (S1 ST:RS) (hKK:K=21∨K=17)
  (hq:((kk != 3)=false∧S1=some s)∨((kk != 3)=true∧(kk != 13)=false∧S1=some s)∨((kk != 3)=true∧(kk != 13)=true∧S1=none))
  (hn:((K == 17)=false∧(K == 21)=true∧ST=S1)∨((K == 17)=true∧(K == 21)=false∧isS name preS=true∧ST=S1)∨((K == 17)=true∧(K == 21)=false∧isS name preS=false∧isS name postS=true∧ST=S1)∨((K == 17)=true∧(K == 21)=false∧isS name preS=false∧isS name postS=false∧ST=none)) :
  Calls Tryz.prog 32 #[.pointer (some ⟨pb,0,none⟩),.agg #[.int .i64 K,.int .i64 pl,.string name,.int .u64 num,.string op,.slice ad xs.length cap],.bool gen] w fun e w'=>e = .returned (.tuple #[])∧∃vU' vV',PlAt B pb w' (foldR (termKidR (semR n) ⟨K,pl,name,num,op⟩ gen) xs ST) (m+(1+szL xs)) vU' vV'∧Stp pb w vU vV w' vU' vV'∧Below B W0 w':=by
 have HH:Hid (KidsRC B pb W0 n):=H
 have HBE:Hid (B=W0.heap.size):=hB
 have HS:Hid (Sli.ok (encT n) 6 W0 ⟨ad,cap,xs⟩∧∀y∈xs,okT n W0 y):=⟨hsl,hk⟩
 have HM:Hid (m+(1+szL xs)≤1000000):=hm
 have HB:Hid (Below B W0 w∧PlAt B pb w (some s) m vU vV):=⟨hb,hp⟩
 clear hb hp H hB hm hsl hk
 obtain⟨wb,hwb⟩:∃wb,wb=w.alloc (.cells #[.int .i64 K,.int .i64 pl,.string name,.int .u64 num,.string op,.slice ad xs.length cap] 25):=⟨_,rfl⟩
 have FR:Hid (Fr B pb W0 w vU vV w.heap.size #[.int .i64 K,.int .i64 pl,.string name,.int .u64 num,.string op,.slice ad xs.length cap] wb vU vV (some s) m):=by rw[hwb];exact Fr.start HB.out.1 HB.out.2 _ _
 obtain⟨b0,b1,b2,b3,b4,b5⟩:=six FR.out.box
 obtain⟨c2,f2⟩:=FR.out.pl.bad
 simp only[Option.isNone_some] at c2
 obtain⟨b,off,e1,hlie⟩:=kids_lie HS.out.1 (by intro e;simp only at e;rw[e] at hk0;simp at hk0)
 simp only at e1 hlie
 subst e1
 have HL:Hid (∀(k:Nat) (y:Tr n),xs[k]?=some y→∀(B:Nat) (w:World),B=W0.heap.size→Below B W0 w→Six w b (off+k*6) (ndT n y) (.slice (atT n y) (nkT n y) (capT n y))):=hlie
 have HK0:Hid (xs[0]?=some k0∧kk=(ndT n k0).kind):=⟨hk0,hkk⟩
 have hlen0:0<xs.length:=by
  rcases Nat.eq_zero_or_pos xs.length with q | q
  ·rw[List.length_eq_zero_iff] at q;rw[q] at hk0;simp at hk0
  ·exact q
 clear hlie hk0 hkk
 have pbn:¬pb=w.heap.size:=fun e=>FR.out.sep (Or.inl e.symm)
 have n12:(K == 12)=false:=by rcases hKK with rfl | rfl <;> rfl
 have n3:(K == 3)=false:=by rcases hKK with rfl | rfl <;> rfl
 have n22:(K == 22)=false:=by rcases hKK with rfl | rfl <;> rfl
 have n10:(K == 10)=false:=by rcases hKK with rfl | rfl <;> rfl
 have HK:Hid (K=21∨K=17):=hKK
 clear hKK
 have hsh:=shape_any (⟨K,pl,name,num,op⟩:Nd) (some ⟨b,off,none⟩) xs.length cap wb
 simp only at hsh
 obtain⟨lo,hlo⟩:∃lo,lo=(shapeR (⟨K,pl,name,num,op⟩:Nd)).1:=⟨_,rfl⟩
 obtain⟨hi,hhi⟩:∃hi,hi=(shapeR (⟨K,pl,name,num,op⟩:Nd)).2.1:=⟨_,rfl⟩
 obtain⟨okk,hokk⟩:∃okk,okk=(shapeR (⟨K,pl,name,num,op⟩:Nd)).2.2:=⟨_,rfl⟩
 unfold ShPost at hsh
 rw[←hlo,←hhi,←hokk] at hsh
 rw[←hlo,←hhi,←hokk] at hcond
 clear hlo hhi hokk
 obtain⟨hok1,hok2,hok3⟩:=hcond
 subst hok1
 unfold isS preS postS at hn
 rcases hq with⟨k3,hS⟩ | ⟨k3,k13,hS⟩ | ⟨k3,k13,hS⟩
 all_goals rcases hn with⟨n17,n21,hT⟩ | ⟨n17,n21,hn1,hT⟩ | ⟨n17,n21,hn1,hn2,hT⟩ | ⟨n17,n21,hn1,hn2,hT⟩
 all_goals
  first
   | have HST:=(show Hid (ST=some s) from hT.trans hS)
   | have HST:=(show Hid (ST=none) from hT.trans hS)
   | have HST:=(show Hid (ST=none) from hT)
  clear hS hT
  go_enter Tryz.func32,Tryz.ntmps32
  go_upto_region 1 with fail
  rw[←hwb]
  clear hwb
  go_wp2_with fail
  refine hsh.mono ?_
  rintro e w2 ⟨sb,zs,rfl,hstr,hany,hzl,hbel⟩
  have FR2:Hid (Fr B pb W0 w vU vV w.heap.size #[.int .i64 K,.int .i64 pl,.string name,.int .u64 num,.string op,.slice (some ⟨b,off,none⟩) xs.length cap] w2 vU vV (some s) m):=FR.out.new hbel
  obtain⟨b0',b1',b2',b3',b4',b5'⟩:=six FR2.out.box
  obtain⟨g2,h2⟩:=FR2.out.pl.bad
  simp only[Option.isNone_some] at g2
  have ham:=among_any op (some ⟨sb,0,none⟩) zs.length zs w2 hstr hzl
  rw[hany] at ham
  clear hsh hstr hany hbel b0 b1 b2 b3 b4 b5 c2 f2
  go_wp2_with fail
  refine ham.mono ?_
  rintro e w3 ⟨rfl,rfl⟩
  clear ham
  go_upto_region 8 with fail
  go_cut [58] from 39 to 58 (fun c wx=>c = .bool false∧wx=w3)
  case first =>
   have hok4:decide ((xs.length:Int)<lo)=false:=by simpa using hok2
   by_cases q:0≤hi
   ·have q2:¬hi<(xs.length:Int):=fun z=>hok3 ⟨q,z⟩
    go_wp2_with fail
    go_meet
    exact⟨rfl,rfl⟩
   ·have q3:decide (0≤hi)=false:=by simpa using q
    go_wp2_with fail
    go_meet
    exact⟨rfl,rfl⟩
  case rest =>
   obtain⟨rfl,rfl⟩:=hcut
   clear hok2 hok3
   have z0:wc.cell? ⟨b,off,none⟩=some (.int .i64 kk):=by
    have:=(HL.out 0 k0 HK0.out.1 B wc HBE.out FR2.out.bel).1
    rw[←HK0.out.2] at this
    simpa using this
   have HI:Hid (∀wx,(wx=wc∧ST=some s)∨((wx=wc.setCell ⟨pb,2,none⟩ (.bool true)∨wx=(wc.setCell ⟨pb,2,none⟩ (.bool true)).setCell ⟨pb,2,none⟩ (.bool true))∧ST=none)→TmAt B pb W0 w vU vV #[.int .i64 K,.int .i64 pl,.string name,.int .u64 num,.string op,.slice (some ⟨b,off,none⟩) xs.length cap] (termKidR (semR n) (⟨K,pl,name,num,op⟩:Nd) gen) xs ST m 0 wx vU vV ST m):=fun wx h=>by
    rcases h with⟨rfl,h⟩ | ⟨rfl | rfl,h⟩ <;> rw[h]
    ·exact⟨Nat.zero_le _,rfl,FR2.out,by simp only[List.drop_zero];omega⟩
    ·exact⟨Nat.zero_le _,rfl,FR2.out.spoil,by simp only[List.drop_zero];omega⟩
    ·exact⟨Nat.zero_le _,rfl,FR2.out.spoil.spoil,by simp only[List.drop_zero];omega⟩
   go_wp2_with fail
   go_loopw [10] (fun i wr=>∃(k:Nat) (vU' vV':Value) (st':RS) (m':Nat),TmAt B pb W0 w vU vV #[.int .i64 K,.int .i64 pl,.string name,.int .u64 num,.string op,.slice (some ⟨b,off,none⟩) xs.length cap] (termKidR (semR n) (⟨K,pl,name,num,op⟩:Nd) gen) xs ST m k wr vU' vV' st' m'∧i = .int .i64 k) (fun i wr=>xs.length - (intOf i).toNat)
   case atStart=>exact⟨0,_,_,_,_,HI.out _ (by first | exact Or.inl ⟨rfl,HST.out⟩ | exact Or.inr ⟨Or.inl rfl,HST.out⟩ | exact Or.inr ⟨Or.inr rfl,HST.out⟩),rfl⟩
   case round =>
    obtain⟨k,vU1,vV1,st1,m1,hr,rfl⟩:=hrel
    have ple:=hr.le
    have HR:Hid (TmAt B pb W0 w vU vV #[.int .i64 K,.int .i64 pl,.string name,.int .u64 num,.string op,.slice (some ⟨b,off,none⟩) xs.length cap] (termKidR (semR n) (⟨K,pl,name,num,op⟩:Nd) gen) xs ST m k wr vU1 vV1 st1 m1):=hr
    have d0:wr.cell? ⟨w.heap.size,0,none⟩=some (.int .i64 K):=hr.fr.box 0 _ rfl
    have d5:wr.cell? ⟨w.heap.size,5,none⟩=some (.slice (some ⟨b,off,none⟩) xs.length cap):=hr.fr.box 5 _ rfl
    clear hr
    rcases Nat.lt_or_ge k xs.length with c | c
    ·obtain⟨y,hy,hd⟩:=kid_get c
     obtain⟨y0,y1,y2,y3,y4,y5⟩:=HL.out k y hy B wr HBE.out HR.out.fr.bel
     have HY:Hid (xs.drop k=y :: xs.drop (k+1)∧okT n W0 y):=⟨hd,HS.out.2 y (List.mem_of_getElem? hy)⟩
     clear hy hd
     obtain⟨wk,hwk⟩:∃wk,wk=wr.alloc (.cells #[.int .i64 (ndT n y).kind,.int .i64 (ndT n y).pl,.string (ndT n y).name,.int .u64 (ndT n y).num,.string (ndT n y).op,.slice (atT n y) (nkT n y) (capT n y)] 25):=⟨_,rfl⟩
     have hbl:Below wr.heap.size wr wk:=by rw[hwk];exact(Below.refl _ _).alloc (Nat.le_refl _) _
     have FC:Hid (Fr B pb W0 w vU vV w.heap.size #[.int .i64 K,.int .i64 pl,.string name,.int .u64 num,.string op,.slice (some ⟨b,off,none⟩) xs.length cap] wk vU1 vV1 st1 m1):=HR.out.fr.new hbl
     have e0:wk.cell? ⟨w.heap.size,0,none⟩=some (.int .i64 K):=FC.out.box 0 _ rfl
     obtain⟨x0,x1,x2,x3,x4,x5⟩:=six_new hwk
     have hc:=HH.out.term y gen HY.out.2 wk vU1 vV1 st1 m1 FC.out.bel FC.out.pl (by have h1:=HR.out.bud;have:=HM.out;rw[HY.out.1,szL_cons] at h1;omega)
     have HG:Hid (semR n 0 y gen st1=termKidR (semR n) (⟨K,pl,name,num,op⟩:Nd) gen y st1):=by show _=(if _ then _ else _);rw[if_neg (by have:=HK.out;simp only;omega),if_neg (by have:=HK.out;simp only;omega)]
     clear hbl
     go_upto_region 20 with fail
     rw[←hwk]
     clear hwk
     go_wp2_with fail
     refine hc.mono ?_
     rintro e w4 ⟨rfl,vU4,vV4,p4,s4,q4⟩
     have HX:Hid (TmAt B pb W0 w vU vV #[.int .i64 K,.int .i64 pl,.string name,.int .u64 num,.string op,.slice (some ⟨b,off,none⟩) xs.length cap] (termKidR (semR n) (⟨K,pl,name,num,op⟩:Nd) gen) xs ST m (k+1) w4 vU4 vV4 (termKidR (semR n) (⟨K,pl,name,num,op⟩:Nd) gen y st1) (m1+szT n y)) :=
      HR.out.next HY.out.1 c (by rw[←HG.out];exact FC.out.call p4 s4 q4) (Nat.le_refl _)
     clear p4 s4 q4 hc
     go_wp2_with fail
     refine⟨⟨k+1,_,_,_,_,HX.out,by go_num⟩,?_⟩
     simp[intOf]
     omega
    ·have HE:Hid (foldR (termKidR (semR n) (⟨K,pl,name,num,op⟩:Nd) gen) xs ST=st1):=by
      show _=_
      rw[HR.out.val,List.drop_of_length_le c]
      rfl
     go_wp2_with fail
     go_end0
     rw[HE.out]
     exact⟨rfl,HR.out.fr.done rfl (by have:=HR.out.bud;omega)⟩
theorem term_at_once {B pb:Nat}{W0:World}(kind pl num:Int)(name op:ByteArray)(ad:Option Addr)(len cap:Nat)(gen:Bool)(w:World)(vU vV:Value)(m m':Nat)(hb:Below B W0 w)(hp:PlAt B pb w none m vU vV)(hm:m≤m')(F:Nat)(hF:F=32) :
  Calls Tryz.prog F #[.pointer (some ⟨pb,0,none⟩),.agg #[.int .i64 kind,.int .i64 pl,.string name,.int .u64 num,.string op,.slice ad len cap],.bool gen] w fun e w'=>e = .returned (.tuple #[])∧∃vU' vV',PlAt B pb w' none m' vU' vV'∧Stp pb w vU vV w' vU' vV'∧Below B W0 w':=by
 subst hF
 obtain⟨wb,hwb⟩:∃wb,wb=w.alloc (.cells #[.int .i64 kind,.int .i64 pl,.string name,.int .u64 num,.string op,.slice ad len cap] 25):=⟨_,rfl⟩
 have FR:Hid (Fr B pb W0 w vU vV w.heap.size #[.int .i64 kind,.int .i64 pl,.string name,.int .u64 num,.string op,.slice ad len cap] wb vU vV none m):=by rw[hwb];exact Fr.start hb hp _ _
 obtain⟨c2,f2⟩:=FR.out.pl.bad
 simp only[Option.isNone_none] at c2
 clear hb hp
 go_enter Tryz.func32,Tryz.ntmps32
 go_upto_region 1 with fail
 rw[←hwb]
 clear hwb
 go_wp2_with fail
 refine bodyPost_ret (results_none rfl _ _ _) rfl ?_
 exact⟨rfl,FR.out.done rfl (by omega)⟩
theorem term_rc {B pb:Nat}{W0:World}{n:Nat}(H:KidsRC B pb W0 n)(hB:B=W0.heap.size)(x:Nd)(s:Sli (Tr n))(gen:Bool)(hok:okT (n+1) W0 ((x,s):Nd×Sli (Tr n)))
  (hf:RC B pb W0 31 #[.pointer (some ⟨pb,0,none⟩),valT (n+1) ((x,s):Nd×Sli (Tr n))] (functR (kidT n) (semR n) x s.xs) (szL s.xs)) :
  RC B pb W0 32 #[.pointer (some ⟨pb,0,none⟩),valT (n+1) ((x,s):Nd×Sli (Tr n)),.bool gen] (termR (kidT n) (semR n) x s.xs gen) (szT (n+1) ((x,s):Nd×Sli (Tr n))):=by
 intro w vU vV st m hb hp hm
 have hl:s.xs.length≤2 ^ 63 - 1:=Nat.le_trans hok.2.1.len hok.2.1.cap
 have hsl:=hok.2.1
 have hkd:=hok.2.2
 obtain⟨kind,pl,name,num,op⟩:=x
 obtain⟨ad,cap,xs⟩:=s
 rw[val_succ] at hf ⊢
 have hz:szT (n+1) ((⟨kind,pl,name,num,op⟩,⟨ad,cap,xs⟩):Nd×Sli (Tr n))=1+szL xs:=rfl
 rw[hz] at hm ⊢
 simp only at hf hl hsl hkd ⊢
 cases st with
 | none=>exact term_at_once kind pl num name op ad xs.length cap gen w vU vV m _ hb hp (by omega) 32 rfl
 | some a =>
   show Calls _ _ _ _ fun e w'=>_∧∃vU' vV',PlAt B pb w' (if kind=12 then functR (kidT n) (semR n) ⟨kind,pl,name,num,op⟩ xs (if isS name []=false then decR pl (some a) else some a)
    else if (shapeR ⟨kind,pl,name,num,op⟩).2.2=false∨(xs.length:Int)<(shapeR ⟨kind,pl,name,num,op⟩).1∨(0≤(shapeR ⟨kind,pl,name,num,op⟩).2.1∧(shapeR ⟨kind,pl,name,num,op⟩).2.1<(xs.length:Int)) then none
    else foldR (termKidR (semR n) ⟨kind,pl,name,num,op⟩ gen) xs (startR (kidT n) ⟨kind,pl,name,num,op⟩ xs gen a)) _ vU' vV'∧_
   by_cases h12:kind=12
   ·subst h12
    rw[if_pos rfl]
    cases hn:isS name [] with
    | true =>
      rw[if_neg (by simp)]
      exact term_fn_plain H hB pl num name op ad cap xs gen hsl hkd hn hf w vU vV a m hb hp hm hl
    | false =>
      rw[if_pos rfl]
      exact term_fn_named H hB pl num name op ad cap xs gen hsl hkd hn hf w vU vV a m hb hp hm hl
   ·rw[if_neg h12]
    by_cases hcond:(shapeR ⟨kind,pl,name,num,op⟩).2.2=false∨(xs.length:Int)<(shapeR ⟨kind,pl,name,num,op⟩).1∨(0≤(shapeR ⟨kind,pl,name,num,op⟩).2.1∧(shapeR ⟨kind,pl,name,num,op⟩).2.1<(xs.length:Int))
    ·rw[if_pos hcond]
     exact term_bad H hB kind pl num name op ad cap xs gen hsl hkd h12 hcond w vU vV a m hb hp hm hl
    ·rw[if_neg hcond]
     have hc:(shapeR ⟨kind,pl,name,num,op⟩).2.2=true∧¬(xs.length:Int)<(shapeR ⟨kind,pl,name,num,op⟩).1∧¬(0≤(shapeR ⟨kind,pl,name,num,op⟩).2.1∧(shapeR ⟨kind,pl,name,num,op⟩).2.1<(xs.length:Int)):=by
      refine⟨?_,fun q=>hcond (Or.inr (Or.inl q)),fun q=>hcond (Or.inr (Or.inr q))⟩
      cases z:(shapeR ⟨kind,pl,name,num,op⟩).2.2 with
      | true=>rfl
      | false=>exact absurd (Or.inl z) hcond
     clear hcond
     by_cases h3:kind=3
     ·subst h3
      have e:startR (kidT n) ⟨3,pl,name,num,op⟩ xs gen a=useR pl (some a):=by unfold startR;rw[if_neg (by simp),if_neg (by simp),if_pos rfl]
      rw[e]
      exact term_name H hB pl num name op ad cap xs gen hsl hkd hc w vU vV a m hb hp hm hl
     by_cases h10:kind=10
     ·subst h10
      rw[start_some _ _ _ _ (by simp) (by simp) (by simp) (by simp)]
      exact term_obj H hB pl num name op ad cap xs gen hsl hkd hc w vU vV a m hb hp hm hl
     by_cases h22:kind=22
     ·subst h22
      cases gen with
      | true =>
        have e:startR (kidT n) ⟨22,pl,name,num,op⟩ xs true a=some a:=by unfold startR;rw[if_neg (by simp),if_neg (by simp),if_neg (by simp)]
        rw[e]
        exact term_yieldyes H hB pl num name op ad cap xs true hsl hkd hc rfl w vU vV a m hb hp hm hl
      | false =>
        have e:startR (kidT n) ⟨22,pl,name,num,op⟩ xs false a=none:=by unfold startR;rw[if_pos (Or.inr ⟨rfl,rfl⟩)]
        rw[e]
        exact term_yieldno H hB pl num name op ad cap xs false hsl hkd hc rfl w vU vV a m hb hp hm hl
     by_cases h21:kind=21
     ·subst h21
      have hs2:shapeR ⟨21,pl,name,num,op⟩=(2,2,oneB op assignL):=by unfold shapeR;simp
      have hlen:0<xs.length:=by have:=hc.2.1;rw[hs2] at this;simp at this;omega
      obtain⟨k0,hk0,_⟩:=kid_get hlen
      have e:startR (kidT n) ⟨21,pl,name,num,op⟩ xs gen a=if (ndT n k0).kind≠3∧(ndT n k0).kind≠13 then none else some a:=by
       have ek:kd0 (kidT n) xs 0=(ndT n k0).kind:=by unfold kd0;rw[hk0];exact kd_nd n k0
       unfold startR
       simp only[ek]
       simp
      rw[e]
      by_cases q3:(ndT n k0).kind=3
      ·rw[if_neg (by omega)]
       exact term_gives H hB 21 pl num name op ad cap xs gen hsl hkd hc w vU vV a m hb hp hm hl k0 hk0 _ rfl (some a) (some a) (Or.inl rfl) (Or.inl ⟨by simp[q3],rfl⟩) (Or.inl ⟨rfl,rfl,rfl⟩)
      by_cases q13:(ndT n k0).kind=13
      ·rw[if_neg (by omega)]
       exact term_gives H hB 21 pl num name op ad cap xs gen hsl hkd hc w vU vV a m hb hp hm hl k0 hk0 _ rfl (some a) (some a) (Or.inl rfl) (Or.inr (Or.inl ⟨by simp[q13],by simp[q13],rfl⟩)) (Or.inl ⟨rfl,rfl,rfl⟩)
      rw[if_pos ⟨q3,q13⟩]
      exact term_gives H hB 21 pl num name op ad cap xs gen hsl hkd hc w vU vV a m hb hp hm hl k0 hk0 _ rfl none none (Or.inl rfl) (Or.inr (Or.inr ⟨by simpa using q3,by simpa using q13,rfl⟩)) (Or.inl ⟨rfl,rfl,rfl⟩)
     by_cases h17:kind=17
     ·subst h17
      have hs2:shapeR ⟨17,pl,name,num,op⟩=(1,1,oneB op updateL):=by unfold shapeR;simp
      have hlen:0<xs.length:=by have:=hc.2.1;rw[hs2] at this;simp at this;omega
      obtain⟨k0,hk0,_⟩:=kid_get hlen
      have e:startR (kidT n) ⟨17,pl,name,num,op⟩ xs gen a=if isS name preS=false∧isS name postS=false then none else if (ndT n k0).kind≠3∧(ndT n k0).kind≠13 then none else some a:=by
       have ek:kd0 (kidT n) xs 0=(ndT n k0).kind:=by unfold kd0;rw[hk0];exact kd_nd n k0
       unfold startR
       simp only[ek]
       simp
      rw[e]
      by_cases n1:isS name preS=true
      ·rw[if_neg (by rw[n1];simp)]
       by_cases q3:(ndT n k0).kind=3
       ·rw[if_neg (by omega)]
        exact term_gives H hB 17 pl num name op ad cap xs gen hsl hkd hc w vU vV a m hb hp hm hl k0 hk0 _ rfl (some a) (some a) (Or.inr rfl) (Or.inl ⟨by simp[q3],rfl⟩) (Or.inr (Or.inl ⟨rfl,rfl,n1,rfl⟩))
       by_cases q13:(ndT n k0).kind=13
       ·rw[if_neg (by omega)]
        exact term_gives H hB 17 pl num name op ad cap xs gen hsl hkd hc w vU vV a m hb hp hm hl k0 hk0 _ rfl (some a) (some a) (Or.inr rfl) (Or.inr (Or.inl ⟨by simp[q13],by simp[q13],rfl⟩)) (Or.inr (Or.inl ⟨rfl,rfl,n1,rfl⟩))
       rw[if_pos ⟨q3,q13⟩]
       exact term_gives H hB 17 pl num name op ad cap xs gen hsl hkd hc w vU vV a m hb hp hm hl k0 hk0 _ rfl none none (Or.inr rfl) (Or.inr (Or.inr ⟨by simpa using q3,by simpa using q13,rfl⟩)) (Or.inr (Or.inl ⟨rfl,rfl,n1,rfl⟩))
      ·have n1':isS name preS=false:=by simpa using n1
       by_cases n2:isS name postS=true
       ·rw[if_neg (by rw[n2];simp)]
        by_cases q3:(ndT n k0).kind=3
        ·rw[if_neg (by omega)]
         exact term_gives H hB 17 pl num name op ad cap xs gen hsl hkd hc w vU vV a m hb hp hm hl k0 hk0 _ rfl (some a) (some a) (Or.inr rfl) (Or.inl ⟨by simp[q3],rfl⟩) (Or.inr (Or.inr (Or.inl ⟨rfl,rfl,n1',n2,rfl⟩)))
        by_cases q13:(ndT n k0).kind=13
        ·rw[if_neg (by omega)]
         exact term_gives H hB 17 pl num name op ad cap xs gen hsl hkd hc w vU vV a m hb hp hm hl k0 hk0 _ rfl (some a) (some a) (Or.inr rfl) (Or.inr (Or.inl ⟨by simp[q13],by simp[q13],rfl⟩)) (Or.inr (Or.inr (Or.inl ⟨rfl,rfl,n1',n2,rfl⟩)))
        rw[if_pos ⟨q3,q13⟩]
        exact term_gives H hB 17 pl num name op ad cap xs gen hsl hkd hc w vU vV a m hb hp hm hl k0 hk0 _ rfl none none (Or.inr rfl) (Or.inr (Or.inr ⟨by simpa using q3,by simpa using q13,rfl⟩)) (Or.inr (Or.inr (Or.inl ⟨rfl,rfl,n1',n2,rfl⟩)))
       ·have n2':isS name postS=false:=by simpa using n2
        rw[if_pos ⟨n1',n2'⟩]
        by_cases q3:(ndT n k0).kind=3
        ·exact term_gives H hB 17 pl num name op ad cap xs gen hsl hkd hc w vU vV a m hb hp hm hl k0 hk0 _ rfl (some a) none (Or.inr rfl) (Or.inl ⟨by simp[q3],rfl⟩) (Or.inr (Or.inr (Or.inr ⟨rfl,rfl,n1',n2',rfl⟩)))
        by_cases q13:(ndT n k0).kind=13
        ·exact term_gives H hB 17 pl num name op ad cap xs gen hsl hkd hc w vU vV a m hb hp hm hl k0 hk0 _ rfl (some a) none (Or.inr rfl) (Or.inr (Or.inl ⟨by simp[q13],by simp[q13],rfl⟩)) (Or.inr (Or.inr (Or.inr ⟨rfl,rfl,n1',n2',rfl⟩)))
        exact term_gives H hB 17 pl num name op ad cap xs gen hsl hkd hc w vU vV a m hb hp hm hl k0 hk0 _ rfl none none (Or.inr rfl) (Or.inr (Or.inr ⟨by simpa using q3,by simpa using q13,rfl⟩)) (Or.inr (Or.inr (Or.inr ⟨rfl,rfl,n1',n2',rfl⟩)))
     rw[start_some _ _ _ _ h3 h17 h21 h22]
     exact term_other H hB kind pl num name op ad cap xs gen hsl hkd hc h12 h3 h17 h21 h22 h10 w vU vV a m hb hp hm hl
end Go.Proofs.YtihmdcdifakepaaGreat.Sc
