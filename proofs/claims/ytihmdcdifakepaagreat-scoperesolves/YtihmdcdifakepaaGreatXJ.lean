/- XJ -/
import Derived.Test.YtihmdcdifakepaaGreatB17
set_option linter.unusedVariables false
set_option linter.unusedSimpArgs false
set_option maxRecDepth 100000
set_option maxHeartbeats 40000000
namespace Go.Proofs.YtihmdcdifakepaaGreat.Sc
open Go.RowKit
structure RtAt {n:Nat}(B cb mu md:Nat)(W0 w:World)(box:Array Value)(ps:List UInt8)(xs:List (Tr n))(star:Bool)(st0:St)(m0:Nat)(k:Nat)(wr:World)(st:St)(m:Nat):Prop where
 le:k≤xs.length
 val:kidsP (partP n) star ps xs st0=kidsP (partP n) star (ps.drop k) (xs.drop k) st
 fp:Fp B W0 w (Cs cb mu md) w.heap.size box wr
 ck:CkAt B cb mu md wr star st m
 bud:m+szL (xs.drop k)≤m0+1+szL xs
theorem bs_get (l:List UInt8)(k:Nat)(h:k<(bs l).size):l[k]?=some ((bs l)[k]):=by
 have h2:k<l.length:=by simpa [bs,ByteArray.size] using h
 rw[List.getElem?_eq_getElem h2]
 rfl
theorem bs_size (l:List UInt8):(bs l).size=l.length:=by simp[bs,ByteArray.size]
theorem right_loop {B cb mu md:Nat}{W0:World}{n:Nat}(hBE:B=W0.heap.size)(hkid:∀(t:Tr n)(p:UInt8),p∈letters→okT n W0 t→PC B cb mu md W0 25 #[.pointer (some ⟨cb,0,none⟩),.int .u8 p.toNat,valT n t] (fun star st=>partP n p t star st) (szT n t))
  (kind pl num:Int) (name op:ByteArray) (ad:Option Addr) (cap:Nat) (xs:List (Tr n)) (hwf:(⟨kind,pl,name,num,op⟩:Nd).wf) (hsl:Sli.ok (encT n) 6 W0 ⟨ad,cap,xs⟩) (hk:∀y∈xs,okT n W0 y) (star:Bool) (st:St) (m:Nat)
  (w:World) (hb:Below B W0 w) (hck:CkAt B cb mu md w star st m) (hm:m+(1+szL xs)≤1000000) :
  Calls Tryz.prog 15 #[.pointer (some ⟨cb,0,none⟩),.agg #[.int .i64 kind,.int .i64 pl,.string name,.int .u64 num,.string op,.slice ad xs.length cap]] w (PcPost B cb mu md w star (rightP (kidT n) (partP n) ⟨kind,pl,name,num,op⟩ xs star st) (m+(1+szL xs))):=by
 have hlz:xs.length≤1000000:=by have:=sz_ge xs;omega
 obtain⟨ps,hps⟩:∃ps,ps=partsI kind xs.length:=⟨_,rfl⟩
 obtain⟨R,hR⟩:∃R,R=rightP (kidT n) (partP n) ⟨kind,pl,name,num,op⟩ xs star st:=⟨_,rfl⟩
 rw[←hR]
 have HR:Hid (R=if ps.length≠xs.length then none else if rightOpB ⟨kind,pl,name,num,op⟩=false then none else (hereP (kidT n) ⟨kind,pl,name,num,op⟩ xs star st).bind (kidsP (partP n) (if isFnB ⟨kind,pl,name,num,op⟩=true then isS op [42] else star) ps xs)):=by
  show _=_
  rw[hR,hps]
  rfl
 have HPS:Hid (ps=partsI kind xs.length):=hps
 obtain⟨wb,hwb⟩:∃wb,wb=w.alloc (.cells #[.int .i64 kind,.int .i64 pl,.string name,.int .u64 num,.string op,.slice ad xs.length cap] 25):=⟨_,rfl⟩
 have hbl:Below w.heap.size w wb:=by rw[hwb];exact(Below.refl _ _).alloc (Nat.le_refl _) _
 have HF:Hid (Fp B W0 w (Cs cb mu md) w.heap.size #[.int .i64 kind,.int .i64 pl,.string name,.int .u64 num,.string op,.slice ad xs.length cap] wb):=by rw[hwb];exact Fp.start hb hck.size hck.lts _ _
 have HCK:Hid (CkAt B cb mu md wb star st m):=hck.new hbl
 have HM:Hid (m+(1+szL xs)≤1000000∧B=W0.heap.size):=⟨hm,hBE⟩
 have HKID:Hid ((∀(t:Tr n) (p:UInt8),p∈letters→okT n W0 t→PC B cb mu md W0 25 #[.pointer (some ⟨cb,0,none⟩),.int .u8 p.toNat,valT n t] (fun star st=>partP n p t star st) (szT n t))∧(∀y∈xs,okT n W0 y)∧Sli.ok (encT n) 6 W0 ⟨ad,cap,xs⟩∧(⟨kind,pl,name,num,op⟩:Nd).wf):=⟨hkid,hk,hsl,hwf⟩
 obtain⟨b0,b1,b2,b3,b4,b5⟩:=six HF.out.box
 have hpa:=parts_any kind xs.length hlz wb
 rw[←hps] at hpa
 obtain⟨PS,hPS⟩:∃PS,PS=bs ps:=⟨_,rfl⟩
 rw[←hPS] at hpa
 have hsz:PS.size=ps.length:=by rw[hPS];exact bs_size ps
 have HPB:Hid (PS=bs ps):=hPS
 have hpl:ps.length≤1000004:=by
  have:=parts_len kind xs.length
  rw[←hps] at this
  omega
 clear hbl hck hm hb hkid hk hsl hwf hR hps hPS hBE
 by_cases hlen:ps.length=xs.length
 ·have hn1:((PS.size:Int) != (xs.length:Int))=false:=by rw[hsz,hlen];simp
  have h43:kind=43→xs.length=3:=by
   intro h
   have:=HPS.out
   rw[h] at this
   rw[←hlen,this]
   unfold partsI
   simp
  have hop:=fun w'=>rightOp_any (⟨kind,pl,name,num,op⟩:Nd) ad xs.length cap w'
  unfold ndA at hop
  simp only at hop
  obtain⟨O,hO⟩:∃O,O=rightOpB ⟨kind,pl,name,num,op⟩:=⟨_,rfl⟩
  rw[←hO] at hop HR
  have HOP:Hid (∀w',Calls Tryz.prog 22 #[.agg #[.int .i64 kind,.int .i64 pl,.string name,.int .u64 num,.string op,.slice ad xs.length cap]] w' fun e w''=>e = .returned (.bool O)∧Below w'.heap.size w' w''):=hop
  rw[if_neg (fun q=>q hlen)] at HR
  have HH43:Hid (kind=43→xs.length=3):=h43
  clear hO hop h43
  cases O with
  | false =>
    have e:R=none:=by rw[HR.out,if_pos rfl]
    rw[e]
    go_enter Tryz.func15,Tryz.ntmps15
    go_upto_region 1 with fail
    rw[←hwb]
    clear hwb
    go_wp2_with fail
    refine hpa.mono ?_
    rintro e w2 ⟨rfl,hb2⟩
    have F2:=HF.out.call (Chg.of_below (S:=Cs cb mu md) hb2)
    obtain⟨b0',b1',b2',b3',b4',b5'⟩:=six F2.box
    have HF2:Hid (Fp B W0 w (Cs cb mu md) w.heap.size #[.int .i64 kind,.int .i64 pl,.string name,.int .u64 num,.string op,.slice ad xs.length cap] w2):=F2
    have hop:=HOP.out w2
    clear hb2 hpa F2
    go_wp2_with fail
    refine hop.mono ?_
    rintro e w3 ⟨rfl,hb3⟩
    have HX:Hid (Chg (Cs cb mu md) w w3):=(HF2.out.call (Chg.of_below (S:=Cs cb mu md) hb3)).chg
    clear hb3 hop
    go_wp2_with fail
    go_ret
    exact⟨rfl,HX.out,fun st' q=>by cases q⟩
  | true =>
    rw[if_neg (by simp)] at HR
    obtain⟨Hh,hHh⟩:∃Hh,Hh=hereP (kidT n) ⟨kind,pl,name,num,op⟩ xs star st:=⟨_,rfl⟩
    rw[←hHh] at HR
    have HHH:Hid (Hh=hereP (kidT n) ⟨kind,pl,name,num,op⟩ xs star st):=hHh
    clear hHh
    obtain⟨FN,hFN⟩:∃FN,FN=isFnB ⟨kind,pl,name,num,op⟩:=⟨_,rfl⟩
    have hfn:=fun w'=>isFn_any (⟨kind,pl,name,num,op⟩:Nd) ad xs.length cap w'
    unfold ndA at hfn
    simp only at hfn
    rw[←hFN] at hfn HR
    have HFN:Hid (∀w',Calls Tryz.prog 24 #[.agg #[.int .i64 kind,.int .i64 pl,.string name,.int .u64 num,.string op,.slice ad xs.length cap]] w' fun e w''=>e = .returned (.bool FN)∧Below w'.heap.size w' w''):=hfn
    clear hFN hfn
    obtain⟨ob,hob⟩:∃ob,(op.toList == [42])=ob:=⟨_,rfl⟩
    have HOB:Hid (isS op [42]=ob):=hob
    rw[HOB.out] at HR
    cases Hh with
    | none =>
      have e:R=none:=by rw[HR.out];rfl
      rw[e]
      go_enter Tryz.func15,Tryz.ntmps15
      go_upto_region 1 with fail
      rw[←hwb]
      clear hwb
      go_wp2_with fail
      refine hpa.mono ?_
      rintro e w2 ⟨rfl,hb2⟩
      have F2:=HF.out.call (Chg.of_below (S:=Cs cb mu md) hb2)
      obtain⟨b0',b1',b2',b3',b4',b5'⟩:=six F2.box
      have HF2:Hid (Fp B W0 w (Cs cb mu md) w.heap.size #[.int .i64 kind,.int .i64 pl,.string name,.int .u64 num,.string op,.slice ad xs.length cap] w2):=F2
      have HC2:Hid (CkAt B cb mu md w2 star st m):=HCK.out.new hb2
      have hop:=HOP.out w2
      clear hb2 hpa F2 b0 b1 b2 b3 b4 b5
      go_wp2_with fail
      refine hop.mono ?_
      rintro e w3 ⟨rfl,hb3⟩
      have F3:=HF2.out.call (Chg.of_below (S:=Cs cb mu md) hb3)
      obtain⟨b0'',b1'',b2'',b3'',b4'',b5''⟩:=six F3.box
      have HF3:Hid (Fp B W0 w (Cs cb mu md) w.heap.size #[.int .i64 kind,.int .i64 pl,.string name,.int .u64 num,.string op,.slice ad xs.length cap] w3):=F3
      have HC3:Hid (CkAt B cb mu md w3 star st m):=HC2.out.new hb3
      have hhe:=here_any (⟨kind,pl,name,num,op⟩:Nd) ad xs cap HKID.out.2.2.2 HKID.out.2.2.1 HH43.out w3 HF3.out.bel HM.out.2 star st m HC3.out (by have:=HM.out.1;omega)
      rw[←HHH.out] at hhe
      unfold ndA at hhe
      simp only at hhe
      clear hb3 hop F3 b0' b1' b2' b3' b4' b5'
      go_wp2_with fail
      refine hhe.mono ?_
      rintro e w4 ⟨rfl,h3,h4⟩
      have F4:=HF3.out.call h3
      obtain⟨b0q,b1q,b2q,b3q,b4q,b5q⟩:=six F4.box
      have HF4:Hid (Fp B W0 w (Cs cb mu md) w.heap.size #[.int .i64 kind,.int .i64 pl,.string name,.int .u64 num,.string op,.slice ad xs.length cap] w4):=F4
      have HX4:Hid (Chg (Cs cb mu md) w w4):=F4.chg
      clear h3 h4 hhe F4
      go_wp2_with fail
      go_ret
      exact⟨rfl,HX4.out,fun st' q=>by cases q⟩
    | some st1 =>
      cases FN with
      | false =>
        have HG:Hid (R=kidsP (partP n) star ps xs st1):=by show _=_;rw[HR.out];rfl
        go_enter Tryz.func15,Tryz.ntmps15
        go_upto_region 1 with fail
        rw[←hwb]
        clear hwb
        go_wp2_with fail
        refine hpa.mono ?_
        rintro e w2 ⟨rfl,hb2⟩
        have F2:=HF.out.call (Chg.of_below (S:=Cs cb mu md) hb2)
        obtain⟨b0',b1',b2',b3',b4',b5'⟩:=six F2.box
        have HF2:Hid (Fp B W0 w (Cs cb mu md) w.heap.size #[.int .i64 kind,.int .i64 pl,.string name,.int .u64 num,.string op,.slice ad xs.length cap] w2):=F2
        have HC2:Hid (CkAt B cb mu md w2 star st m):=HCK.out.new hb2
        have hop:=HOP.out w2
        clear hb2 hpa F2 b0 b1 b2 b3 b4 b5
        go_wp2_with fail
        refine hop.mono ?_
        rintro e w3 ⟨rfl,hb3⟩
        have F3:=HF2.out.call (Chg.of_below (S:=Cs cb mu md) hb3)
        obtain⟨b0'',b1'',b2'',b3'',b4'',b5''⟩:=six F3.box
        have HF3:Hid (Fp B W0 w (Cs cb mu md) w.heap.size #[.int .i64 kind,.int .i64 pl,.string name,.int .u64 num,.string op,.slice ad xs.length cap] w3):=F3
        have HC3:Hid (CkAt B cb mu md w3 star st m):=HC2.out.new hb3
        have hhe:=here_any (⟨kind,pl,name,num,op⟩:Nd) ad xs cap HKID.out.2.2.2 HKID.out.2.2.1 HH43.out w3 HF3.out.bel HM.out.2 star st m HC3.out (by have:=HM.out.1;omega)
        rw[←HHH.out] at hhe
        unfold ndA at hhe
        simp only at hhe
        clear hb3 hop F3 b0' b1' b2' b3' b4' b5'
        go_wp2_with fail
        refine hhe.mono ?_
        rintro e w4 ⟨rfl,h3,h4⟩
        have F4:=HF3.out.call h3
        obtain⟨b0q,b1q,b2q,b3q,b4q,b5q⟩:=six F4.box
        have HF4:Hid (Fp B W0 w (Cs cb mu md) w.heap.size #[.int .i64 kind,.int .i64 pl,.string name,.int .u64 num,.string op,.slice ad xs.length cap] w4):=F4
        have HX4:Hid (Chg (Cs cb mu md) w w4):=F4.chg
        have HC4:Hid (CkAt B cb mu md w4 star st1 (m+1)):=h4 st1 rfl
        obtain⟨d0,g0,_,_⟩:=HC4.out.cells
        have hfn:=HFN.out w4
        clear h3 h4 hhe F4 b0'' b1'' b2'' b3'' b4'' b5''
        go_wp2_with fail
        refine hfn.mono ?_
        rintro e w5 ⟨rfl,hb5⟩
        have F5:=HF4.out.call (Chg.of_below (S:=Cs cb mu md) hb5)
        obtain⟨b0r,b1r,b2r,b3r,b4r,b5r⟩:=six F5.box
        have HF5:Hid (Fp B W0 w (Cs cb mu md) w.heap.size #[.int .i64 kind,.int .i64 pl,.string name,.int .u64 num,.string op,.slice ad xs.length cap] w5):=F5
        have HC5:Hid (CkAt B cb mu md w5 star st1 (m+1)):=HC4.out.new hb5
        obtain⟨e0,h0,_,_⟩:=HC5.out.cells
        clear hb5 hfn F5 d0 g0 b0q b1q b2q b3q b4q b5q
        have HI:Hid (RtAt B cb mu md W0 w #[.int .i64 kind,.int .i64 pl,.string name,.int .u64 num,.string op,.slice ad xs.length cap] ps xs star st1 m 0 w5 st1 (m+1)):=⟨Nat.zero_le _,rfl,HF5.out,HC5.out,by simp only[List.drop_zero];omega⟩
        go_wp2_with fail
        go_loopw [47] (fun i wr=>∃(k:Nat) (st':St) (m':Nat),RtAt B cb mu md W0 w #[.int .i64 kind,.int .i64 pl,.string name,.int .u64 num,.string op,.slice ad xs.length cap] ps xs star st1 m k wr st' m'∧i = .int .i64 k) (fun i wr=>xs.length - (intOf i).toNat)
        case atStart=>exact⟨0,st1,m+1,HI.out,rfl⟩
        case round =>
         obtain⟨k,st2,m2,hr,rfl⟩:=hrel
         have ple:=hr.le
         have HRT:Hid (RtAt B cb mu md W0 w #[.int .i64 kind,.int .i64 pl,.string name,.int .u64 num,.string op,.slice ad xs.length cap] ps xs star st1 m k wr st2 m2):=hr
         clear hr HI
         rcases Nat.lt_or_ge k xs.length with c | c
         ·obtain⟨y,hy,hd⟩:=kid_get c
          obtain⟨b,off,e1,hlie⟩:=kids_lie HKID.out.2.2.1 (by intro e;simp only at e;rw[e] at c;simp at c)
          simp only at e1 hlie
          subst e1
          obtain⟨y0,y1,y2,y3,y4,y5⟩:=hlie k y hy B wr HM.out.2 HRT.out.fp.bel
          have hlt:k<PS.size:=by omega
          have hltI:(k:Int)<(PS.size:Int):=by omega
          have hpk:ps[k]?=some (PS[k]'hlt):=by
           have:=HPB.out
           subst this
           exact bs_get ps k hlt
          have hpd:ps.drop k=(PS[k]'hlt) :: ps.drop (k+1):=by
           have h2:k<ps.length:=by omega
           rw[List.drop_eq_getElem_cons h2]
           rw[List.getElem?_eq_getElem h2] at hpk
           rw[Option.some.inj hpk]
          have HY:Hid (xs.drop k=y :: xs.drop (k+1)∧okT n W0 y∧ps.drop k=(PS[k]'hlt) :: ps.drop (k+1)∧(PS[k]'hlt)∈letters):=⟨hd,HKID.out.2.1 y (List.mem_of_getElem? hy),hpd,letters_part kind xs.length _ (by rw[←HPS.out];exact List.mem_of_getElem? hpk)⟩
          clear hy hd hlie hpk hpd
          obtain⟨wk,hwk⟩:∃wk,wk=wr.alloc (.cells #[.int .i64 (ndT n y).kind,.int .i64 (ndT n y).pl,.string (ndT n y).name,.int .u64 (ndT n y).num,.string (ndT n y).op,.slice (atT n y) (nkT n y) (capT n y)] 25):=⟨_,rfl⟩
          have hbl:Below wr.heap.size wr wk:=by rw[hwk];exact(Below.refl _ _).alloc (Nat.le_refl _) _
          have hbld:Below wr.heap.size wr wk.drew:=hbl.drew
          have FK:Hid (Fp B W0 w (Cs cb mu md) w.heap.size #[.int .i64 kind,.int .i64 pl,.string name,.int .u64 num,.string op,.slice (some ⟨b,off,none⟩) xs.length cap] wk.drew):=HRT.out.fp.call (Chg.of_below hbld)
          have CKK:Hid (CkAt B cb mu md wk.drew star st2 m2):=HRT.out.ck.new hbld
          have hsepk:¬Cs cb mu md wr.heap.size:=fun q=>by have:=(HRT.out.ck.lts _ q).2;omega
          have hbk:∀i v,(#[.int .i64 (ndT n y).kind,.int .i64 (ndT n y).pl,.string (ndT n y).name,.int .u64 (ndT n y).num,.string (ndT n y).op,.slice (atT n y) (nkT n y) (capT n y)]:Array Value)[i]?=some v→wk.cell? ⟨wr.heap.size,i,none⟩=some v:=by rw[hwk];exact box_new wr _ _
          have HBK:Hid ((∀i v,(#[.int .i64 (ndT n y).kind,.int .i64 (ndT n y).pl,.string (ndT n y).name,.int .u64 (ndT n y).num,.string (ndT n y).op,.slice (atT n y) (nkT n y) (capT n y)]:Array Value)[i]?=some v→wk.drew.cell? ⟨wr.heap.size,i,none⟩=some v)∧¬Cs cb mu md wr.heap.size):=⟨hbk,hsepk⟩
          have x0:wk.cell? ⟨wr.heap.size,0,none⟩=some (.int .i64 (ndT n y).kind):=hbk 0 _ rfl
          have x1:wk.cell? ⟨wr.heap.size,1,none⟩=some (.int .i64 (ndT n y).pl):=hbk 1 _ rfl
          have x2:wk.cell? ⟨wr.heap.size,2,none⟩=some (.string (ndT n y).name):=hbk 2 _ rfl
          have x3:wk.cell? ⟨wr.heap.size,3,none⟩=some (.int .u64 (ndT n y).num):=hbk 3 _ rfl
          have x4:wk.cell? ⟨wr.heap.size,4,none⟩=some (.string (ndT n y).op):=hbk 4 _ rfl
          have x5:wk.cell? ⟨wr.heap.size,5,none⟩=some (.slice (atT n y) (nkT n y) (capT n y)):=hbk 5 _ rfl
          have hcall:=HKID.out.1 y (PS[k]'hlt) HY.out.2.2.2 HY.out.2.1 wk.drew star st2 m2 FK.out.bel CKK.out (by have h1:=HRT.out.bud;have:=HM.out.1;rw[HY.out.1,szL_cons] at h1;omega)
          obtain⟨A,hA⟩:∃A,A=partP n (PS[k]'hlt) y star st2:=⟨_,rfl⟩
          simp only at hcall
          rw[←hA] at hcall
          have HA:Hid (A=partP n (PS[k]'hlt) y star st2):=hA
          clear hA hbl hbld hsepk hbk
          cases A with
          | none =>
            have HE:Hid (R=none):=by
             show _=_
             rw[HG.out,HRT.out.val,HY.out.2.2.1,HY.out.1,kidsP,←HA.out]
             rfl
            go_upto_region 10 with fail
            rw[←hwk]
            clear hwk
            go_region_held_law (fun w'=>w'.cell? ⟨wr.heap.size,0,none⟩=some (.int .i64 (ndT n y).kind)∧w'.cell? ⟨wr.heap.size,1,none⟩=some (.int .i64 (ndT n y).pl)∧w'.cell? ⟨wr.heap.size,2,none⟩=some (.string (ndT n y).name)∧w'.cell? ⟨wr.heap.size,3,none⟩=some (.int .u64 (ndT n y).num)∧w'.cell? ⟨wr.heap.size,4,none⟩=some (.string (ndT n y).op)∧w'.cell? ⟨wr.heap.size,5,none⟩=some (.slice (atT n y) (nkT n y) (capT n y))) (first | exact⟨k0,k1,k2,k3,k4,k5⟩ | go_keep)
             ((go_at_call 25;refine hcall.mono ?_;rintro e w4 ⟨rfl,h3,h4⟩;have k0:=h3.cell (HBK.out.1 0 _ rfl) HBK.out.2;have k1:=h3.cell (HBK.out.1 1 _ rfl) HBK.out.2;have k2:=h3.cell (HBK.out.1 2 _ rfl) HBK.out.2;have k3:=h3.cell (HBK.out.1 3 _ rfl) HBK.out.2;have k4:=h3.cell (HBK.out.1 4 _ rfl) HBK.out.2;have k5:=h3.cell (HBK.out.1 5 _ rfl) HBK.out.2;have HX:Hid (Chg (Cs cb mu md) w w4):=(FK.out.call h3).chg;clear h3 h4))
            go_wp2_with fail
            go_ret
            rw[HE.out]
            exact⟨rfl,HX.out,fun st' q=>by cases q⟩
          | some st3 =>
            go_upto_region 10 with fail
            rw[←hwk]
            clear hwk
            go_region_held_law (fun w'=>w'.cell? ⟨wr.heap.size,0,none⟩=some (.int .i64 (ndT n y).kind)∧w'.cell? ⟨wr.heap.size,1,none⟩=some (.int .i64 (ndT n y).pl)∧w'.cell? ⟨wr.heap.size,2,none⟩=some (.string (ndT n y).name)∧w'.cell? ⟨wr.heap.size,3,none⟩=some (.int .u64 (ndT n y).num)∧w'.cell? ⟨wr.heap.size,4,none⟩=some (.string (ndT n y).op)∧w'.cell? ⟨wr.heap.size,5,none⟩=some (.slice (atT n y) (nkT n y) (capT n y))) (first | exact⟨k0,k1,k2,k3,k4,k5⟩ | go_keep)
             ((go_at_call 25;refine hcall.mono ?_;rintro e w4 ⟨rfl,h3,h4⟩;have k0:=h3.cell (HBK.out.1 0 _ rfl) HBK.out.2;have k1:=h3.cell (HBK.out.1 1 _ rfl) HBK.out.2;have k2:=h3.cell (HBK.out.1 2 _ rfl) HBK.out.2;have k3:=h3.cell (HBK.out.1 3 _ rfl) HBK.out.2;have k4:=h3.cell (HBK.out.1 4 _ rfl) HBK.out.2;have k5:=h3.cell (HBK.out.1 5 _ rfl) HBK.out.2;have HX:Hid (RtAt B cb mu md W0 w #[.int .i64 kind,.int .i64 pl,.string name,.int .u64 num,.string op,.slice (some ⟨b,off,none⟩) xs.length cap] ps xs star st1 m (k+1) w4 st3 (m2+szT n y)):=⟨c,by rw[HRT.out.val,HY.out.2.2.1,HY.out.1,kidsP,←HA.out];rfl,FK.out.call h3,h4 st3 rfl,by have h1:=HRT.out.bud;rw[HY.out.1,szL_cons] at h1;omega⟩;clear h3 h4))
            go_wp2_with fail
            refine⟨⟨k+1,st3,m2+szT n y,HX.out,by go_num⟩,?_⟩
            simp[intOf]
            omega
         ·have HE:Hid (R=some st2):=by
           show _=_
           rw[HG.out,HRT.out.val,List.drop_of_length_le c,List.drop_of_length_le (by omega)]
           rfl
          obtain⟨d0,g0,_,_⟩:=HRT.out.ck.cells
          obtain⟨hst,hcs⟩:=HRT.out.ck.star star
          have HX:Hid (PcPost B cb mu md w star (some st2) (m+(1+szL xs)) (.returned (.bool true)) (wr.setCell ⟨cb,0,none⟩ (.bool star))):=by
           refine⟨rfl,(HRT.out.fp.call hcs).chg,fun st' q => ?_⟩
           cases q
           exact hst.more (by have:=HRT.out.bud;rw[List.drop_of_length_le c,szL_nil] at this;omega)
          clear hst hcs
          go_wp2_with fail
          go_ret
          rw[HE.out]
          exact HX.out
      | true =>
        have HG:Hid (R=kidsP (partP n) ob ps xs st1):=by show _=_;rw[HR.out];rfl
        go_enter Tryz.func15,Tryz.ntmps15
        go_upto_region 1 with fail
        rw[←hwb]
        clear hwb
        go_wp2_with fail
        refine hpa.mono ?_
        rintro e w2 ⟨rfl,hb2⟩
        have F2:=HF.out.call (Chg.of_below (S:=Cs cb mu md) hb2)
        obtain⟨b0',b1',b2',b3',b4',b5'⟩:=six F2.box
        have HF2:Hid (Fp B W0 w (Cs cb mu md) w.heap.size #[.int .i64 kind,.int .i64 pl,.string name,.int .u64 num,.string op,.slice ad xs.length cap] w2):=F2
        have HC2:Hid (CkAt B cb mu md w2 star st m):=HCK.out.new hb2
        have hop:=HOP.out w2
        clear hb2 hpa F2 b0 b1 b2 b3 b4 b5
        go_wp2_with fail
        refine hop.mono ?_
        rintro e w3 ⟨rfl,hb3⟩
        have F3:=HF2.out.call (Chg.of_below (S:=Cs cb mu md) hb3)
        obtain⟨b0'',b1'',b2'',b3'',b4'',b5''⟩:=six F3.box
        have HF3:Hid (Fp B W0 w (Cs cb mu md) w.heap.size #[.int .i64 kind,.int .i64 pl,.string name,.int .u64 num,.string op,.slice ad xs.length cap] w3):=F3
        have HC3:Hid (CkAt B cb mu md w3 star st m):=HC2.out.new hb3
        have hhe:=here_any (⟨kind,pl,name,num,op⟩:Nd) ad xs cap HKID.out.2.2.2 HKID.out.2.2.1 HH43.out w3 HF3.out.bel HM.out.2 star st m HC3.out (by have:=HM.out.1;omega)
        rw[←HHH.out] at hhe
        unfold ndA at hhe
        simp only at hhe
        clear hb3 hop F3 b0' b1' b2' b3' b4' b5'
        go_wp2_with fail
        refine hhe.mono ?_
        rintro e w4 ⟨rfl,h3,h4⟩
        have F4:=HF3.out.call h3
        obtain⟨b0q,b1q,b2q,b3q,b4q,b5q⟩:=six F4.box
        have HF4:Hid (Fp B W0 w (Cs cb mu md) w.heap.size #[.int .i64 kind,.int .i64 pl,.string name,.int .u64 num,.string op,.slice ad xs.length cap] w4):=F4
        have HX4:Hid (Chg (Cs cb mu md) w w4):=F4.chg
        have HC4:Hid (CkAt B cb mu md w4 star st1 (m+1)):=h4 st1 rfl
        obtain⟨d0,g0,_,_⟩:=HC4.out.cells
        have hfn:=HFN.out w4
        clear h3 h4 hhe F4 b0'' b1'' b2'' b3'' b4'' b5''
        go_wp2_with fail
        refine hfn.mono ?_
        rintro e w5 ⟨rfl,hb5⟩
        have F5:=HF4.out.call (Chg.of_below (S:=Cs cb mu md) hb5)
        obtain⟨b0r,b1r,b2r,b3r,b4r,b5r⟩:=six F5.box
        have HF5:Hid (Fp B W0 w (Cs cb mu md) w.heap.size #[.int .i64 kind,.int .i64 pl,.string name,.int .u64 num,.string op,.slice ad xs.length cap] w5):=F5
        have HC5:Hid (CkAt B cb mu md w5 star st1 (m+1)):=HC4.out.new hb5
        obtain⟨e0,h0,_,_⟩:=HC5.out.cells
        clear hb5 hfn F5 d0 g0 b0q b1q b2q b3q b4q b5q
        obtain⟨ws,hws⟩:∃ws,ws=w5.setCell ⟨cb,0,none⟩ (.bool ob):=⟨_,rfl⟩
        obtain⟨hst5,hcs5⟩:=HC5.out.star ob
        have HI:Hid (RtAt B cb mu md W0 w #[.int .i64 kind,.int .i64 pl,.string name,.int .u64 num,.string op,.slice ad xs.length cap] ps xs ob st1 m 0 ws st1 (m+1)):=by
         rw[hws]
         exact⟨Nat.zero_le _,rfl,HF5.out.call hcs5,hst5,by simp only[List.drop_zero];omega⟩
        have v5:ws.cell? ⟨w.heap.size,5,none⟩=some (.slice ad xs.length cap):=HI.out.fp.box 5 _ rfl
        clear hst5 hcs5
        go_upto_region 7 with fail
        rw[←hws]
        clear hws
        go_wp2_with fail
        go_loopw [47] (fun i wr=>∃(k:Nat) (st':St) (m':Nat),RtAt B cb mu md W0 w #[.int .i64 kind,.int .i64 pl,.string name,.int .u64 num,.string op,.slice ad xs.length cap] ps xs ob st1 m k wr st' m'∧i = .int .i64 k) (fun i wr=>xs.length - (intOf i).toNat)
        case atStart=>exact⟨0,st1,m+1,HI.out,rfl⟩
        case round =>
         obtain⟨k,st2,m2,hr,rfl⟩:=hrel
         have ple:=hr.le
         have HRT:Hid (RtAt B cb mu md W0 w #[.int .i64 kind,.int .i64 pl,.string name,.int .u64 num,.string op,.slice ad xs.length cap] ps xs ob st1 m k wr st2 m2):=hr
         clear hr HI
         rcases Nat.lt_or_ge k xs.length with c | c
         ·obtain⟨y,hy,hd⟩:=kid_get c
          obtain⟨b,off,e1,hlie⟩:=kids_lie HKID.out.2.2.1 (by intro e;simp only at e;rw[e] at c;simp at c)
          simp only at e1 hlie
          subst e1
          obtain⟨y0,y1,y2,y3,y4,y5⟩:=hlie k y hy B wr HM.out.2 HRT.out.fp.bel
          have hlt:k<PS.size:=by omega
          have hltI:(k:Int)<(PS.size:Int):=by omega
          have hpk:ps[k]?=some (PS[k]'hlt):=by
           have:=HPB.out
           subst this
           exact bs_get ps k hlt
          have hpd:ps.drop k=(PS[k]'hlt) :: ps.drop (k+1):=by
           have h2:k<ps.length:=by omega
           rw[List.drop_eq_getElem_cons h2]
           rw[List.getElem?_eq_getElem h2] at hpk
           rw[Option.some.inj hpk]
          have HY:Hid (xs.drop k=y :: xs.drop (k+1)∧okT n W0 y∧ps.drop k=(PS[k]'hlt) :: ps.drop (k+1)∧(PS[k]'hlt)∈letters):=⟨hd,HKID.out.2.1 y (List.mem_of_getElem? hy),hpd,letters_part kind xs.length _ (by rw[←HPS.out];exact List.mem_of_getElem? hpk)⟩
          clear hy hd hlie hpk hpd
          obtain⟨wk,hwk⟩:∃wk,wk=wr.alloc (.cells #[.int .i64 (ndT n y).kind,.int .i64 (ndT n y).pl,.string (ndT n y).name,.int .u64 (ndT n y).num,.string (ndT n y).op,.slice (atT n y) (nkT n y) (capT n y)] 25):=⟨_,rfl⟩
          have hbl:Below wr.heap.size wr wk:=by rw[hwk];exact(Below.refl _ _).alloc (Nat.le_refl _) _
          have hbld:Below wr.heap.size wr wk.drew:=hbl.drew
          have FK:Hid (Fp B W0 w (Cs cb mu md) w.heap.size #[.int .i64 kind,.int .i64 pl,.string name,.int .u64 num,.string op,.slice (some ⟨b,off,none⟩) xs.length cap] wk.drew):=HRT.out.fp.call (Chg.of_below hbld)
          have CKK:Hid (CkAt B cb mu md wk.drew ob st2 m2):=HRT.out.ck.new hbld
          have hsepk:¬Cs cb mu md wr.heap.size:=fun q=>by have:=(HRT.out.ck.lts _ q).2;omega
          have hbk:∀i v,(#[.int .i64 (ndT n y).kind,.int .i64 (ndT n y).pl,.string (ndT n y).name,.int .u64 (ndT n y).num,.string (ndT n y).op,.slice (atT n y) (nkT n y) (capT n y)]:Array Value)[i]?=some v→wk.cell? ⟨wr.heap.size,i,none⟩=some v:=by rw[hwk];exact box_new wr _ _
          have HBK:Hid ((∀i v,(#[.int .i64 (ndT n y).kind,.int .i64 (ndT n y).pl,.string (ndT n y).name,.int .u64 (ndT n y).num,.string (ndT n y).op,.slice (atT n y) (nkT n y) (capT n y)]:Array Value)[i]?=some v→wk.drew.cell? ⟨wr.heap.size,i,none⟩=some v)∧¬Cs cb mu md wr.heap.size):=⟨hbk,hsepk⟩
          have x0:wk.cell? ⟨wr.heap.size,0,none⟩=some (.int .i64 (ndT n y).kind):=hbk 0 _ rfl
          have x1:wk.cell? ⟨wr.heap.size,1,none⟩=some (.int .i64 (ndT n y).pl):=hbk 1 _ rfl
          have x2:wk.cell? ⟨wr.heap.size,2,none⟩=some (.string (ndT n y).name):=hbk 2 _ rfl
          have x3:wk.cell? ⟨wr.heap.size,3,none⟩=some (.int .u64 (ndT n y).num):=hbk 3 _ rfl
          have x4:wk.cell? ⟨wr.heap.size,4,none⟩=some (.string (ndT n y).op):=hbk 4 _ rfl
          have x5:wk.cell? ⟨wr.heap.size,5,none⟩=some (.slice (atT n y) (nkT n y) (capT n y)):=hbk 5 _ rfl
          have hcall:=HKID.out.1 y (PS[k]'hlt) HY.out.2.2.2 HY.out.2.1 wk.drew ob st2 m2 FK.out.bel CKK.out (by have h1:=HRT.out.bud;have:=HM.out.1;rw[HY.out.1,szL_cons] at h1;omega)
          obtain⟨A,hA⟩:∃A,A=partP n (PS[k]'hlt) y ob st2:=⟨_,rfl⟩
          simp only at hcall
          rw[←hA] at hcall
          have HA:Hid (A=partP n (PS[k]'hlt) y ob st2):=hA
          clear hA hbl hbld hsepk hbk
          cases A with
          | none =>
            have HE:Hid (R=none):=by
             show _=_
             rw[HG.out,HRT.out.val,HY.out.2.2.1,HY.out.1,kidsP,←HA.out]
             rfl
            go_upto_region 10 with fail
            rw[←hwk]
            clear hwk
            go_region_held_law (fun w'=>w'.cell? ⟨wr.heap.size,0,none⟩=some (.int .i64 (ndT n y).kind)∧w'.cell? ⟨wr.heap.size,1,none⟩=some (.int .i64 (ndT n y).pl)∧w'.cell? ⟨wr.heap.size,2,none⟩=some (.string (ndT n y).name)∧w'.cell? ⟨wr.heap.size,3,none⟩=some (.int .u64 (ndT n y).num)∧w'.cell? ⟨wr.heap.size,4,none⟩=some (.string (ndT n y).op)∧w'.cell? ⟨wr.heap.size,5,none⟩=some (.slice (atT n y) (nkT n y) (capT n y))) (first | exact⟨k0,k1,k2,k3,k4,k5⟩ | go_keep)
             ((go_at_call 25;refine hcall.mono ?_;rintro e w4 ⟨rfl,h3,h4⟩;have k0:=h3.cell (HBK.out.1 0 _ rfl) HBK.out.2;have k1:=h3.cell (HBK.out.1 1 _ rfl) HBK.out.2;have k2:=h3.cell (HBK.out.1 2 _ rfl) HBK.out.2;have k3:=h3.cell (HBK.out.1 3 _ rfl) HBK.out.2;have k4:=h3.cell (HBK.out.1 4 _ rfl) HBK.out.2;have k5:=h3.cell (HBK.out.1 5 _ rfl) HBK.out.2;have HX:Hid (Chg (Cs cb mu md) w w4):=(FK.out.call h3).chg;clear h3 h4))
            go_wp2_with fail
            go_ret
            rw[HE.out]
            exact⟨rfl,HX.out,fun st' q=>by cases q⟩
          | some st3 =>
            go_upto_region 10 with fail
            rw[←hwk]
            clear hwk
            go_region_held_law (fun w'=>w'.cell? ⟨wr.heap.size,0,none⟩=some (.int .i64 (ndT n y).kind)∧w'.cell? ⟨wr.heap.size,1,none⟩=some (.int .i64 (ndT n y).pl)∧w'.cell? ⟨wr.heap.size,2,none⟩=some (.string (ndT n y).name)∧w'.cell? ⟨wr.heap.size,3,none⟩=some (.int .u64 (ndT n y).num)∧w'.cell? ⟨wr.heap.size,4,none⟩=some (.string (ndT n y).op)∧w'.cell? ⟨wr.heap.size,5,none⟩=some (.slice (atT n y) (nkT n y) (capT n y))) (first | exact⟨k0,k1,k2,k3,k4,k5⟩ | go_keep)
             ((go_at_call 25;refine hcall.mono ?_;rintro e w4 ⟨rfl,h3,h4⟩;have k0:=h3.cell (HBK.out.1 0 _ rfl) HBK.out.2;have k1:=h3.cell (HBK.out.1 1 _ rfl) HBK.out.2;have k2:=h3.cell (HBK.out.1 2 _ rfl) HBK.out.2;have k3:=h3.cell (HBK.out.1 3 _ rfl) HBK.out.2;have k4:=h3.cell (HBK.out.1 4 _ rfl) HBK.out.2;have k5:=h3.cell (HBK.out.1 5 _ rfl) HBK.out.2;have HX:Hid (RtAt B cb mu md W0 w #[.int .i64 kind,.int .i64 pl,.string name,.int .u64 num,.string op,.slice (some ⟨b,off,none⟩) xs.length cap] ps xs ob st1 m (k+1) w4 st3 (m2+szT n y)):=⟨c,by rw[HRT.out.val,HY.out.2.2.1,HY.out.1,kidsP,←HA.out];rfl,FK.out.call h3,h4 st3 rfl,by have h1:=HRT.out.bud;rw[HY.out.1,szL_cons] at h1;omega⟩;clear h3 h4))
            go_wp2_with fail
            refine⟨⟨k+1,st3,m2+szT n y,HX.out,by go_num⟩,?_⟩
            simp[intOf]
            omega
         ·have HE:Hid (R=some st2):=by
           show _=_
           rw[HG.out,HRT.out.val,List.drop_of_length_le c,List.drop_of_length_le (by omega)]
           rfl
          obtain⟨d0,g0,_,_⟩:=HRT.out.ck.cells
          obtain⟨hst,hcs⟩:=HRT.out.ck.star star
          have HX:Hid (PcPost B cb mu md w star (some st2) (m+(1+szL xs)) (.returned (.bool true)) (wr.setCell ⟨cb,0,none⟩ (.bool star))):=by
           refine⟨rfl,(HRT.out.fp.call hcs).chg,fun st' q => ?_⟩
           cases q
           exact hst.more (by have:=HRT.out.bud;rw[List.drop_of_length_le c,szL_nil] at this;omega)
          clear hst hcs
          go_wp2_with fail
          go_ret
          rw[HE.out]
          exact HX.out
 ·have e:R=none:=by rw[HR.out,if_pos hlen]
  rw[e]
  have hn1:((PS.size:Int) != (xs.length:Int))=true:=by rw[hsz];simp;omega
  go_enter Tryz.func15,Tryz.ntmps15
  go_upto_region 1 with fail
  rw[←hwb]
  clear hwb
  go_wp2_with fail
  refine hpa.mono ?_
  rintro e w2 ⟨rfl,hb2⟩
  have F2:=HF.out.call (Chg.of_below (S:=Cs cb mu md) hb2)
  have d5:w2.cell? ⟨w.heap.size,5,none⟩=some (.slice ad xs.length cap):=F2.box 5 _ rfl
  have HX:Hid (Chg (Cs cb mu md) w w2):=F2.chg
  clear hb2 hpa F2
  go_wp2_with fail
  go_ret
  exact⟨rfl,HX.out,fun st' q=>by cases q⟩
end Go.Proofs.YtihmdcdifakepaaGreat.Sc
