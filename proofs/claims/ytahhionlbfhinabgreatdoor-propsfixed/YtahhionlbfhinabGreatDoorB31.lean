/- LV, KR -/
import Derived.Test.YtahhionlbfhinabGreatDoorB29
import Derived.Test.YtahhionlbfhinabGreatDoorKO
import Derived.Test.YtahhionlbfhinabGreatDoorB14
import Derived.Test.YtahhionlbfhinabGreatDoorB15
set_option linter.unusedVariables false
set_option linter.unusedSimpArgs false
set_option maxRecDepth 100000
set_option maxHeartbeats 40000000
namespace Go.Proofs.YtahhionlbfhinabGreatDoor.Hp
open Go.RowKit
theorem and_le (n m:Int)(M:Nat)(hm:(BitVec.ofInt 64 m).toNat=M)(h:M≤63):bits .and .i64 n m=(((BitVec.ofInt 64 n).toNat &&& M:Nat):Int):=by
 have h6:(BitVec.ofInt 64 n).toNat &&& M≤M:=Nat.and_le_right
 show IntKind.i64.wrap ((BitVec.ofInt 64 n &&& BitVec.ofInt 64 m).toNat:Nat)=_
 rw[BitVec.toNat_and,hm,IntKind.wrap_i64]
 omega
theorem nat_or_zero (a b:Nat):a ||| b=0↔a=0∧b=0:=by
 constructor
 ·intro h
  have h1:a≤a ||| b:=Nat.left_le_or
  have h2:b≤a ||| b:=Nat.right_le_or
  omega
 ·rintro⟨rfl,rfl⟩;rfl
theorem and_two (n:Int)(a b c:Int)(A B C:Nat)(ha:(BitVec.ofInt 64 a).toNat=A)(hb:(BitVec.ofInt 64 b).toNat=B)(hc:(BitVec.ofInt 64 c).toNat=C)(hA:A≤63)(hB:B≤63)(hC:C≤63)(h:C=A ||| B) :
  (bits .and .i64 n c != 0)=((bits .and .i64 n a != 0) || (bits .and .i64 n b != 0)):=by
 rw[and_le n a A ha hA,and_le n b B hb hB,and_le n c C hc hC,h,Nat.and_or_distrib_left]
 generalize (BitVec.ofInt 64 n).toNat &&& A=x
 generalize (BitVec.ofInt 64 n).toNat &&& B=y
 have:=nat_or_zero x y
 generalize x ||| y=z at *
 rw[Bool.eq_iff_iff]
 simp only[Bool.or_eq_true,bne_iff_ne,ne_eq]
 omega
theorem has48 (u:Ws):(bits .and .i64 u.has 48 != 0)=(hasU u 16 || hasU u 32):=and_two u.has 16 32 48 16 32 48 (by decide) (by decide) (by decide) (by decide) (by decide) (by decide) (by decide)
theorem has3 (u:Ws):(bits .and .i64 u.has 3 != 0)=(hasU u 1 || hasU u 2):=and_two u.has 1 2 3 1 2 3 (by decide) (by decide) (by decide) (by decide) (by decide) (by decide) (by decide)
theorem fl_bit (n:Int)(b:Nat)(hb:b<63):∃g:Bool,bits .and .i64 n (2 ^ b:Nat)=if g=true then ((2 ^ b:Nat):Int) else 0:=⟨btB n b,and_pow n b hb⟩
def stP (b g:Bool)(p fl:Int):Int:=if b=true then bits .or .i64 (bits .andNot .i64 fl p) (if g=true then p else 0) else fl
def acF (f:Int):Bool:=bits .and .i64 f 8 != 0
def tuF (f:Int)(b1 b2 b16 b32:Bool):Int:=if (if acF f=true then (b1 || b2) else (b16 || b32))=false then f else bits .andNot .i64 (bits .xor .i64 f 8) 1
def flP (f:Int)(b1 b2 b4 b8 b16 b32 g1 g2 g4:Bool):Int:=stP b8 g4 4 (stP b4 g2 2 (stP b2 g1 1 (tuF f b1 b2 b16 b32)))
def fgP (o:Int)(b g:Bool)(p:Int):Int:=if b=true then (if g=true then p else 0) else bits .and .i64 o p
def coF (f:Int)(b1 b2:Bool):Int:=if acF f=true∧(b1=true∨b2=true) then bits .and .i64 f 6 else f
def flD (f:Int)(b1 b2 b4 b8 b16 b32 g1 g2 g4:Bool):Int :=
 if b16=true∨b32=true then bits .or .i64 (bits .or .i64 8 (fgP f b4 g2 2)) (fgP f b8 g4 4)
 else if (bits .and .i64 (coF f b1 b2) 8 != 0)=true then bits .or .i64 (bits .or .i64 (bits .or .i64 (bits .or .i64 (bits .and .i64 (coF f b1 b2) 8) (fgP (coF f b1 b2) b2 g1 1)) (fgP f b4 g2 2)) (fgP f b8 g4 4)) 8
  else bits .or .i64 (bits .or .i64 (bits .or .i64 (bits .and .i64 (coF f b1 b2) 8) (fgP (coF f b1 b2) b2 g1 1)) (fgP f b4 g2 2)) (fgP f b8 g4 4)
theorem fl_all:∀f:Fin 16,(f.val<8∨f.val % 2=0)→∀b1 b2 b4 b8 b16 b32 g1 g2 g4:Bool,((b16 || b32) && (b1 || b2))=false→flP (f.val:Int) b1 b2 b4 b8 b16 b32 g1 g2 g4=flD (f.val:Int) b1 b2 b4 b8 b16 b32 g1 g2 g4∧0≤flP (f.val:Int) b1 b2 b4 b8 b16 b32 g1 g2 g4∧flP (f.val:Int) b1 b2 b4 b8 b16 b32 g1 g2 g4≤15:=by
 decide +kernel
theorem may_all:∀f d:Fin 16,((!(bits .and .i64 (f.val:Int) 8 != 0)) && !(bits .and .i64 (f.val:Int) 1 == 0) && (bits .andNot .i64 (d.val:Int) 1 == bits .andNot .i64 (f.val:Int) 1))=(!((bits .and .i64 (f.val:Int) 8 != 0) || (bits .and .i64 (d.val:Int) 8 != 0) || (bits .and .i64 (f.val:Int) 6 != bits .and .i64 (d.val:Int) 6)) && (bits .and .i64 (f.val:Int) 1 != 0)):=by
 decide +kernel
def De.ok (d:De):Prop:=0≤d.fl∧d.fl≤15∧(d.fl<8∨d.fl % 2=0)
theorem kept_ok (d:De):(keptD d).ok:=by
 show 0≤keptI d.fl∧keptI d.fl≤15∧(keptI d.fl<8∨keptI d.fl % 2=0)
 unfold keptI
 split <;> omega
theorem new_ok:newD.ok:=by unfold De.ok newD;decide
theorem wish_fl (d:De)(u:Ws)(hd:d.ok)(hn:rnoB u=false):(wishD d u).fl=(rWishD d u).fl∧0≤(wishD d u).fl∧(wishD d u).fl≤15:=by
 obtain⟨h1,h2,h3⟩:=hd
 obtain⟨g1,e1⟩:=fl_bit u.fl 0 (by decide)
 obtain⟨g2,e2⟩:=fl_bit u.fl 1 (by decide)
 obtain⟨g4,e4⟩:=fl_bit u.fl 2 (by decide)
 rw[show((2 ^ 0:Nat):Int)=1 from rfl] at e1
 rw[show((2 ^ 1:Nat):Int)=2 from rfl] at e2
 rw[show((2 ^ 2:Nat):Int)=4 from rfl] at e4
 have k:=fl_all ⟨d.fl.toNat,by omega⟩ (by show d.fl.toNat<8∨d.fl.toNat % 2=0;omega) (hasU u 1) (hasU u 2) (hasU u 4) (hasU u 8) (hasU u 16) (hasU u 32) g1 g2 g4 hn
 rw[show(((⟨d.fl.toNat,by omega⟩:Fin 16).val:Nat):Int)=d.fl from by show((d.fl.toNat:Nat):Int)=d.fl;omega] at k
 have p1:(wishD d u).fl=flP d.fl (hasU u 1) (hasU u 2) (hasU u 4) (hasU u 8) (hasU u 16) (hasU u 32) g1 g2 g4:=by
  have ht:(turnD d u).fl=tuF d.fl (hasU u 1) (hasU u 2) (hasU u 16) (hasU u 32):=by
   unfold turnD tuF
   have q3:=has3 u
   have q48:=has48 u
   have qa:accB d=acF d.fl:=rfl
   rw[qa]
   cases acF d.fl with
   | true =>
     rw[if_pos rfl,if_pos rfl,←q3]
     cases c:(bits .and .i64 u.has 3 == 0) with
     | true=>rw[if_pos rfl,if_pos (by rw[bne,c];rfl)]
     | false=>rw[if_neg (by decide),if_neg (by rw[bne,c];decide)]
   | false =>
     rw[show(if (false:Bool)=true then (3:Int) else 48)=48 from rfl,show(if (false:Bool)=true then (hasU u 1 || hasU u 2) else (hasU u 16 || hasU u 32))=(hasU u 16 || hasU u 32) from rfl,←q48]
     cases c:(bits .and .i64 u.has 48 == 0) with
     | true=>rw[if_pos rfl,if_pos (by rw[bne,c];rfl)]
     | false=>rw[if_neg (by decide),if_neg (by rw[bne,c];decide)]
  show flR u (turnD d u).fl 3=_
  rw[ht]
  show stF u 8 4 (stF u 4 2 (stF u 2 1 _))=_
  unfold stF flP stP
  rw[e1,e2,e4]
  rfl
 have p2:(rWishD d u).fl=flD d.fl (hasU u 1) (hasU u 2) (hasU u 4) (hasU u 8) (hasU u 16) (hasU u 32) g1 g2 g4:=by
  have hc:(rconv d u).fl=coF d.fl (hasU u 1) (hasU u 2):=by
   unfold rconv coF
   show(if acF d.fl=true∧(hasU u 1=true∨hasU u 2=true) then (⟨undW,undW,bits .and .i64 d.fl 6⟩:De) else d).fl=_
   by_cases c:acF d.fl=true∧(hasU u 1=true∨hasU u 2=true)
   ·rw[if_pos c,if_pos c]
   ·rw[if_neg c,if_neg c]
  unfold rWishD flD
  by_cases c:hasU u 16=true∨hasU u 32=true
  ·rw[if_pos c,if_pos c]
   unfold flagU fgP
   rw[e2,e4]
  ·rw[if_neg c,if_neg c]
   unfold rflags flagU fgP
   rw[hc,e1,e2,e4]
 rw[p1,p2]
 exact k
theorem wish_same (d:De)(u:Ws)(hd:d.ok)(hn:rnoB u=false):wishD d u=rWishD d u:=by
 have hf:=(wish_fl d u hd hn).1
 have hv:(wishD d u).va=(rWishD d u).va∧(wishD d u).se=(rWishD d u).se:=by
  unfold wishD rWishD turnD rconv rbase
  have q3:=has3 u
  have q48:=has48 u
  unfold rnoB at hn
  have w1:(bits .and .i64 u.has 16 != 0)=hasU u 16:=rfl
  have w2:(bits .and .i64 u.has 32 != 0)=hasU u 32:=rfl
  have w3:(bits .and .i64 u.has 1 != 0)=hasU u 1:=rfl
  rw[w1,w2,w3]
  have b3:(bits .and .i64 u.has 3 == 0) = !(hasU u 1 || hasU u 2):=by rw[←q3,bne,Bool.not_not]
  have b48:(bits .and .i64 u.has 48 == 0) = !(hasU u 16 || hasU u 32):=by rw[←q48,bne,Bool.not_not]
  cases hac:accB d with
  | true =>
    rw[show(if (true:Bool)=true then (3:Int) else 48)=3 from rfl,b3]
    revert hn
    cases hasU u 1 <;> cases hasU u 2 <;> cases hasU u 16 <;> cases hasU u 32 <;> simp
  | false =>
    rw[show(if (false:Bool)=true then (3:Int) else 48)=48 from rfl,b48]
    revert hn
    cases hasU u 1 <;> cases hasU u 2 <;> cases hasU u 16 <;> cases hasU u 32 <;> simp
 have ext:∀a b:De,a.va=b.va∧a.se=b.se→a.fl=b.fl→a=b:=fun a b q r=>by
  cases a;cases b;simp only at q r;obtain⟨q1,q2⟩:=q;subst q1;subst q2;subst r;rfl
 exact ext _ _ hv hf
theorem may_same (o d:De)(ho:o.ok)(h0:0≤d.fl)(h1:d.fl≤15):mayD o d=rmayD o d:=by
 obtain⟨o0,o1,_⟩:=ho
 have k:=may_all ⟨o.fl.toNat,by omega⟩ ⟨d.fl.toNat,by omega⟩
 rw[show(((⟨o.fl.toNat,by omega⟩:Fin 16).val:Nat):Int)=o.fl from by show((o.fl.toNat:Nat):Int)=o.fl;omega,show(((⟨d.fl.toNat,by omega⟩:Fin 16).val:Nat):Int)=d.fl from by show((d.fl.toNat:Nat):Int)=d.fl;omega] at k
 unfold mayD rmayD
 have hq:deqB d o=deqB o d:=by
  unfold deqB
  rw[BEq.comm (a:=d.va),BEq.comm (a:=d.se),BEq.comm (a:=d.fl)]
 rw[←k,hq]
 show(_ || _ || (!(bits .and .i64 o.fl 8 != 0) && _ && _))=_
 generalize (bits .and .i64 o.fl 4 != 0)=a
 generalize deqB o d=b
 cases a <;> cases b <;> rfl
section
variable {H:He}{x:So}{k:ByteArray}{ob:Ob}{m:Nat}
end
def wsAll (v:Int):Ws:=⟨15,v,0,0,7⟩
def wsVal (v:Int):Ws:=⟨1,v,0,0,0⟩
theorem wsAll_ok {v:Int}(hv:0≤v∧v<18446744073709551616):(wsAll v).ok:=⟨hv,(by decide:(0:Int)≤0),(by decide:(0:Int)<18446744073709551616)⟩
theorem wsVal_ok {v:Int}(hv:0≤v∧v<18446744073709551616):(wsVal v).ok:=⟨hv,(by decide:(0:Int)≤0),(by decide:(0:Int)<18446744073709551616)⟩
def asgE (r:Bool×He):Int×Int×He:=(undW,if r.1=true then 0 else 1,r.2)
def asgP (H:He)(o:Int)(k:ByteArray)(v:Int)(N:Nat):Int×Int×He :=
 match lookF H k N o with
 | none=>asgE (defP H o k (wsAll v))
 | some (p,d) =>
   if accB d=true then (if d.se=undW then (undW,1,H) else (d.se,2,H))
   else if (bits .and .i64 d.fl 1 == 0)=true then (undW,1,H)
   else if p=o then asgE (defP H o k (wsVal v)) else asgE (defP H o k (wsAll v))
section
variable {w w' w1:World}{B hb:Nat}{O S:Nat→Prop}{H H':He}{M M':HV}{tg:Nat→Nat}
theorem assign_at (h:HeapAt w B hb tg H M)(hF:FpAt w){n:Int}(hg:H.gd n)(hn:n<2000000000000)(o:Int)(o0:0≤o)(o1:o<18446744073709551616)(k:ByteArray)(hk:k.size≤maxLen)(v:Int)(hv:0≤v∧v<18446744073709551616)(N:Nat)(he:EndsH H N o) :
  Calls Tryz.prog 11 #[.pointer (some ⟨hb,0,none⟩),.int .u64 o,.string k,.int .u64 v] w fun e w'=>e = .returned (.tuple #[.int .u64 (asgP H o k v N).1,.int .i64 (asgP H o k v N).2.1])∧∃M',WentM w B hb tg (asgP H o k v N).2.2 M' w':=by
 have kl:=lookup_at h hg.neat o o0 o1 k hk N he
 have HS:Hid (∀W,Below w.heap.size w W→∃M',WentM w B hb tg H M' W):=fun W q=>⟨M,WentM.same h q⟩
 have HD:Hid (∀W u,Below w.heap.size w W→u.ok→Calls Tryz.prog 28 #[.pointer (some ⟨hb,0,none⟩),.int .u64 o,.string k,wsV u] W fun e w'=>e = .returned (.bool (defP H o k u).1)∧∃M',WentM w B hb tg (defP H o k u).2 M' w'):=fun W u q hu=>(define_at (h.below q) (hF.below q) hg hn o o0 o1 k hk u hu).mono fun e w' ⟨e1,M',e2⟩=>⟨e1,M',e2.behind q⟩
 have HV:Hid (0≤v∧v<18446744073709551616):=hv
 have hor:bits .or .i64 1 14=15:=by decide
 unfold asgP
 clear h hF hg hk he
 cases hl:lookF H k N o with
 | none =>
   rw[hl] at kl
   simp only[Option.map_none,Option.getD_none,Option.isSome_none] at kl
   simp only
   unfold deV zDe undW at kl
   clear hl
   generalize hr:defP H o k (wsAll v)=r at *
   obtain⟨rb,rh⟩:=r
   cases rb with
   | true =>
     simp only[asgE,if_true]
     have HR:Hid (defP H o k (wsAll v)=(true,rh)):=hr
     clear hr
     go_enter Tryz.func11,Tryz.ntmps11
     go_wp2_with fail
     refine kl.mono ?_
     rintro e w2 ⟨rfl,hB2⟩
     have hB3:=hB2.alloc hB2.size (.cells #[.int .u64 0,.int .u64 0,.int .i64 0] 39)
     have HB3:Hid (Below w.heap.size w (w2.alloc (.cells #[.int .u64 0,.int .u64 0,.int .i64 0] 39))):=hB3
     clear kl hB2 hB3
     have hB5:=(HB3.out).alloc (HB3.out).size (.cells #[.int .i64 15,.int .u64 v,.int .u64 0,.int .u64 0,.int .i64 7] 26)
     have kd:=HD.out _ (wsAll v) hB5 (wsAll_ok HV.out)
     unfold wsV wsAll at kd
     simp only at kd
     clear hB5 HD HS
     rw[show defP H o k ⟨15,v,0,0,7⟩=(true,rh) from HR.out] at kd
     simp only at kd
     clear HR HB3
     go_wp2_with fail
     refine kd.mono ?_
     rintro e w9 ⟨rfl,M9,hw9⟩
     have HW9:=(show Hid _ from hw9)
     clear kd hw9
     go_wp2_with fail
     go_ret2
     exact⟨rfl,M9,HW9.out⟩
   | false =>
     simp only[asgE,Bool.false_eq_true,if_false]
     have HR:Hid (defP H o k (wsAll v)=(false,rh)):=hr
     clear hr
     go_enter Tryz.func11,Tryz.ntmps11
     go_wp2_with fail
     refine kl.mono ?_
     rintro e w2 ⟨rfl,hB2⟩
     have hB3:=hB2.alloc hB2.size (.cells #[.int .u64 0,.int .u64 0,.int .i64 0] 39)
     have HB3:Hid (Below w.heap.size w (w2.alloc (.cells #[.int .u64 0,.int .u64 0,.int .i64 0] 39))):=hB3
     clear kl hB2 hB3
     have hB5:=(HB3.out).alloc (HB3.out).size (.cells #[.int .i64 15,.int .u64 v,.int .u64 0,.int .u64 0,.int .i64 7] 26)
     have kd:=HD.out _ (wsAll v) hB5 (wsAll_ok HV.out)
     unfold wsV wsAll at kd
     simp only at kd
     clear hB5 HD HS
     rw[show defP H o k ⟨15,v,0,0,7⟩=(false,rh) from HR.out] at kd
     simp only at kd
     clear HR HB3
     go_wp2_with fail
     refine kd.mono ?_
     rintro e w9 ⟨rfl,M9,hw9⟩
     have HW9:=(show Hid _ from hw9)
     clear kd hw9
     go_wp2_with fail
     go_ret2
     exact⟨rfl,M9,HW9.out⟩
 | some q =>
   obtain⟨p,d⟩:=q
   rw[hl] at kl
   simp only[Option.map_some,Option.getD_some,Option.isSome_some] at kl
   simp only
   unfold deV at kl
   have ka:=fun W=>isAcc_any W d
   unfold deV at ka
   clear hl
   cases hac:accB d with
   | true =>
     rw[hac] at ka
     simp only[if_true]
     by_cases cs:d.se=undW
     ·rw[if_pos cs]
      have cs1:(d.se == 18445336698825998336)=true:=by rw[cs];rfl
      clear cs
      go_enter Tryz.func11,Tryz.ntmps11
      go_wp2_with fail
      refine kl.mono ?_
      rintro e w2 ⟨rfl,hB2⟩
      have hB3:=hB2.alloc hB2.size (.cells #[.int .u64 d.va,.int .u64 d.se,.int .i64 d.fl] 39)
      have hx:=Bx3.box w2 d
      obtain⟨x0,x1,x2⟩:=hx.ce
      have HB3:Hid (Below w.heap.size w (w2.alloc (.cells #[.int .u64 d.va,.int .u64 d.se,.int .i64 d.fl] 39))∧Bx3 (w2.alloc (.cells #[.int .u64 d.va,.int .u64 d.se,.int .i64 d.fl] 39)) w2.heap.size d):=⟨hB3,hx⟩
      clear kl hB2 hB3 hx
      go_wp2_with fail
      refine(ka _).mono ?_
      rintro e w4 ⟨rfl,hB4⟩
      obtain⟨x0,x1,x2⟩:=(HB3.out.2.below hB4).ce
      have HR:=(show Hid _ from HS.out w4 (bel_sm HB3.out.1 hB4))
      clear ka hB4 HB3 HS HD
      go_wp2_with fail
      go_ret2
      exact⟨rfl,HR.out⟩
     ·rw[if_neg cs]
      have cs1:(d.se == 18445336698825998336)=false:=by simpa [undW] using cs
      clear cs
      go_enter Tryz.func11,Tryz.ntmps11
      go_wp2_with fail
      refine kl.mono ?_
      rintro e w2 ⟨rfl,hB2⟩
      have hB3:=hB2.alloc hB2.size (.cells #[.int .u64 d.va,.int .u64 d.se,.int .i64 d.fl] 39)
      have hx:=Bx3.box w2 d
      obtain⟨x0,x1,x2⟩:=hx.ce
      have HB3:Hid (Below w.heap.size w (w2.alloc (.cells #[.int .u64 d.va,.int .u64 d.se,.int .i64 d.fl] 39))∧Bx3 (w2.alloc (.cells #[.int .u64 d.va,.int .u64 d.se,.int .i64 d.fl] 39)) w2.heap.size d):=⟨hB3,hx⟩
      clear kl hB2 hB3 hx
      go_wp2_with fail
      refine(ka _).mono ?_
      rintro e w4 ⟨rfl,hB4⟩
      obtain⟨x0,x1,x2⟩:=(HB3.out.2.below hB4).ce
      have HR:=(show Hid _ from HS.out w4 (bel_sm HB3.out.1 hB4))
      clear ka hB4 HB3 HS HD
      go_wp2_with fail
      go_ret2
      exact⟨rfl,HR.out⟩
   | false =>
     rw[hac] at ka
     simp only[Bool.false_eq_true,if_false]
     cases hw:(bits .and .i64 d.fl 1 == 0) with
     | true =>
       simp only[if_true]
       go_enter Tryz.func11,Tryz.ntmps11
       go_wp2_with fail
       refine kl.mono ?_
       rintro e w2 ⟨rfl,hB2⟩
       have hB3:=hB2.alloc hB2.size (.cells #[.int .u64 d.va,.int .u64 d.se,.int .i64 d.fl] 39)
       have hx:=Bx3.box w2 d
       obtain⟨x0,x1,x2⟩:=hx.ce
       have HB3:Hid (Below w.heap.size w (w2.alloc (.cells #[.int .u64 d.va,.int .u64 d.se,.int .i64 d.fl] 39))∧Bx3 (w2.alloc (.cells #[.int .u64 d.va,.int .u64 d.se,.int .i64 d.fl] 39)) w2.heap.size d):=⟨hB3,hx⟩
       clear kl hB2 hB3 hx
       go_wp2_with fail
       refine(ka _).mono ?_
       rintro e w4 ⟨rfl,hB4⟩
       obtain⟨x0,x1,x2⟩:=(HB3.out.2.below hB4).ce
       have HR:=(show Hid _ from HS.out w4 (bel_sm HB3.out.1 hB4))
       clear ka hB4 HB3 HS HD
       go_wp2_with fail
       go_ret2
       exact⟨rfl,HR.out⟩
     | false =>
       simp only[Bool.false_eq_true,if_false]
       by_cases cp:p=o
       ·rw[if_pos cp]
        have cp1:(p != o)=false:=by rw[cp];simp
        generalize hr:defP H o k (wsVal v)=r at *
        obtain⟨rb,rh⟩:=r
        cases rb with
        | true =>
          simp only[asgE,if_true]
          have HR:Hid (defP H o k (wsVal v)=(true,rh)):=hr
          clear hr cp
          go_enter Tryz.func11,Tryz.ntmps11
          go_wp2_with fail
          refine kl.mono ?_
          rintro e w2 ⟨rfl,hB2⟩
          have hB3:=hB2.alloc hB2.size (.cells #[.int .u64 d.va,.int .u64 d.se,.int .i64 d.fl] 39)
          have hx:=Bx3.box w2 d
          obtain⟨x0,x1,x2⟩:=hx.ce
          have HB3:Hid (Below w.heap.size w (w2.alloc (.cells #[.int .u64 d.va,.int .u64 d.se,.int .i64 d.fl] 39))∧Bx3 (w2.alloc (.cells #[.int .u64 d.va,.int .u64 d.se,.int .i64 d.fl] 39)) w2.heap.size d):=⟨hB3,hx⟩
          clear kl hB2 hB3 hx
          go_wp2_with fail
          refine(ka _).mono ?_
          rintro e w4 ⟨rfl,hB4⟩
          obtain⟨x0,x1,x2⟩:=(HB3.out.2.below hB4).ce
          have HB4:Hid (Below w.heap.size w w4):=bel_sm HB3.out.1 hB4
          clear ka hB4 HB3
          have hB5:=(HB4.out).alloc (HB4.out).size (.cells #[.int .i64 1,.int .u64 v,.int .u64 0,.int .u64 0,.int .i64 0] 26)
          have kd:=HD.out _ (wsVal v) hB5 (wsVal_ok HV.out)
          unfold wsV wsVal at kd
          simp only at kd
          clear hB5 HD HS
          rw[show defP H o k ⟨1,v,0,0,0⟩=(true,rh) from HR.out] at kd
          simp only at kd
          clear HR HB4
          go_wp2_with fail
          refine kd.mono ?_
          rintro e w9 ⟨rfl,M9,hw9⟩
          have HW9:=(show Hid _ from hw9)
          clear kd hw9
          go_wp2_with fail
          go_ret2
          exact⟨rfl,M9,HW9.out⟩
        | false =>
          simp only[asgE,Bool.false_eq_true,if_false]
          have HR:Hid (defP H o k (wsVal v)=(false,rh)):=hr
          clear hr cp
          go_enter Tryz.func11,Tryz.ntmps11
          go_wp2_with fail
          refine kl.mono ?_
          rintro e w2 ⟨rfl,hB2⟩
          have hB3:=hB2.alloc hB2.size (.cells #[.int .u64 d.va,.int .u64 d.se,.int .i64 d.fl] 39)
          have hx:=Bx3.box w2 d
          obtain⟨x0,x1,x2⟩:=hx.ce
          have HB3:Hid (Below w.heap.size w (w2.alloc (.cells #[.int .u64 d.va,.int .u64 d.se,.int .i64 d.fl] 39))∧Bx3 (w2.alloc (.cells #[.int .u64 d.va,.int .u64 d.se,.int .i64 d.fl] 39)) w2.heap.size d):=⟨hB3,hx⟩
          clear kl hB2 hB3 hx
          go_wp2_with fail
          refine(ka _).mono ?_
          rintro e w4 ⟨rfl,hB4⟩
          obtain⟨x0,x1,x2⟩:=(HB3.out.2.below hB4).ce
          have HB4:Hid (Below w.heap.size w w4):=bel_sm HB3.out.1 hB4
          clear ka hB4 HB3
          have hB5:=(HB4.out).alloc (HB4.out).size (.cells #[.int .i64 1,.int .u64 v,.int .u64 0,.int .u64 0,.int .i64 0] 26)
          have kd:=HD.out _ (wsVal v) hB5 (wsVal_ok HV.out)
          unfold wsV wsVal at kd
          simp only at kd
          clear hB5 HD HS
          rw[show defP H o k ⟨1,v,0,0,0⟩=(false,rh) from HR.out] at kd
          simp only at kd
          clear HR HB4
          go_wp2_with fail
          refine kd.mono ?_
          rintro e w9 ⟨rfl,M9,hw9⟩
          have HW9:=(show Hid _ from hw9)
          clear kd hw9
          go_wp2_with fail
          go_ret2
          exact⟨rfl,M9,HW9.out⟩
       ·rw[if_neg cp]
        have cp1:(p != o)=true:=by simpa using cp
        generalize hr:defP H o k (wsAll v)=r at *
        obtain⟨rb,rh⟩:=r
        cases rb with
        | true =>
          simp only[asgE,if_true]
          have HR:Hid (defP H o k (wsAll v)=(true,rh)):=hr
          clear hr cp
          go_enter Tryz.func11,Tryz.ntmps11
          go_wp2_with fail
          refine kl.mono ?_
          rintro e w2 ⟨rfl,hB2⟩
          have hB3:=hB2.alloc hB2.size (.cells #[.int .u64 d.va,.int .u64 d.se,.int .i64 d.fl] 39)
          have hx:=Bx3.box w2 d
          obtain⟨x0,x1,x2⟩:=hx.ce
          have HB3:Hid (Below w.heap.size w (w2.alloc (.cells #[.int .u64 d.va,.int .u64 d.se,.int .i64 d.fl] 39))∧Bx3 (w2.alloc (.cells #[.int .u64 d.va,.int .u64 d.se,.int .i64 d.fl] 39)) w2.heap.size d):=⟨hB3,hx⟩
          clear kl hB2 hB3 hx
          go_wp2_with fail
          refine(ka _).mono ?_
          rintro e w4 ⟨rfl,hB4⟩
          obtain⟨x0,x1,x2⟩:=(HB3.out.2.below hB4).ce
          have HB4:Hid (Below w.heap.size w w4):=bel_sm HB3.out.1 hB4
          clear ka hB4 HB3
          have hB5:=(HB4.out).alloc (HB4.out).size (.cells #[.int .i64 15,.int .u64 v,.int .u64 0,.int .u64 0,.int .i64 7] 26)
          have kd:=HD.out _ (wsAll v) hB5 (wsAll_ok HV.out)
          unfold wsV wsAll at kd
          simp only at kd
          clear hB5 HD HS
          rw[show defP H o k ⟨15,v,0,0,7⟩=(true,rh) from HR.out] at kd
          simp only at kd
          clear HR HB4
          go_wp2_with fail
          refine kd.mono ?_
          rintro e w9 ⟨rfl,M9,hw9⟩
          have HW9:=(show Hid _ from hw9)
          clear kd hw9
          go_wp2_with fail
          go_ret2
          exact⟨rfl,M9,HW9.out⟩
        | false =>
          simp only[asgE,Bool.false_eq_true,if_false]
          have HR:Hid (defP H o k (wsAll v)=(false,rh)):=hr
          clear hr cp
          go_enter Tryz.func11,Tryz.ntmps11
          go_wp2_with fail
          refine kl.mono ?_
          rintro e w2 ⟨rfl,hB2⟩
          have hB3:=hB2.alloc hB2.size (.cells #[.int .u64 d.va,.int .u64 d.se,.int .i64 d.fl] 39)
          have hx:=Bx3.box w2 d
          obtain⟨x0,x1,x2⟩:=hx.ce
          have HB3:Hid (Below w.heap.size w (w2.alloc (.cells #[.int .u64 d.va,.int .u64 d.se,.int .i64 d.fl] 39))∧Bx3 (w2.alloc (.cells #[.int .u64 d.va,.int .u64 d.se,.int .i64 d.fl] 39)) w2.heap.size d):=⟨hB3,hx⟩
          clear kl hB2 hB3 hx
          go_wp2_with fail
          refine(ka _).mono ?_
          rintro e w4 ⟨rfl,hB4⟩
          obtain⟨x0,x1,x2⟩:=(HB3.out.2.below hB4).ce
          have HB4:Hid (Below w.heap.size w w4):=bel_sm HB3.out.1 hB4
          clear ka hB4 HB3
          have hB5:=(HB4.out).alloc (HB4.out).size (.cells #[.int .i64 15,.int .u64 v,.int .u64 0,.int .u64 0,.int .i64 7] 26)
          have kd:=HD.out _ (wsAll v) hB5 (wsAll_ok HV.out)
          unfold wsV wsAll at kd
          simp only at kd
          clear hB5 HD HS
          rw[show defP H o k ⟨15,v,0,0,7⟩=(false,rh) from HR.out] at kd
          simp only at kd
          clear HR HB4
          go_wp2_with fail
          refine kd.mono ?_
          rintro e w9 ⟨rfl,M9,hw9⟩
          have HW9:=(show Hid _ from hw9)
          clear kd hw9
          go_wp2_with fail
          go_ret2
          exact⟨rfl,M9,HW9.out⟩
end
end Go.Proofs.YtahhionlbfhinabGreatDoor.Hp
