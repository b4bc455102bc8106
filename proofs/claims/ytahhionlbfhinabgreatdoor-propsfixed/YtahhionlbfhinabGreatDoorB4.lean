/- PO, CA, CB, CC, CD, CE, CF, CG, CH -/
import Derived.Test.YtahhionlbfhinabGreatDoorB3
import Derived.Below
set_option linter.unusedVariables false
set_option linter.unusedSimpArgs false
set_option maxRecDepth 100000
set_option maxHeartbeats 40000000
namespace Go.Proofs.YtahhionlbfhinabGreatDoor.Sp
open Go.RowKit Go.Proofs.YtahhionlbfhinabGreatDoor.Hp
theorem new_any (w:World)(most:Int) :
  Calls Tryz.prog 87 #[.int .i64 most] w fun e w'=>∃tb O,e = .returned (.pointer (some ⟨tb,0,none⟩))∧Tree w' w.heap.size tb O most []∧Below w.heap.size w w':=by
 have HM:Hid (∀w' ,w'=(w.alloc (.map #[] 0)).alloc (.cells #[.int .i64 most,.slice none 0 0,.map (some w.heap.size)] 165)→Tree w' w.heap.size (w.heap.size+1) (fun b=>b=w.heap.size+1∨b=w.heap.size∨(Value.slice none 0 0).ownBlock=some b) most []∧Below w.heap.size w w'):=by
  rintro w' rfl
  refine⟨⟨[],.slice none 0 0,w.heap.size,⟨at_two _ _ _,OwnR.nil _ _,⟨#[],0,at_old _ _ _ _ (at_new _ _),rfl⟩,⟨rfl,fun i l s h=>by simp at h,fun i j a b h=>by simp at h⟩,fun x hx=>by simp at hx,by simp,by omega,by omega,by omega,by simp[Value.ownBlock],by simp[Value.ownBlock],fun b=>Iff.rfl⟩⟩,B2 _ _ _⟩
 have hmm:(Instr.makeMap 162 none).run Tryz.prog w = .ok (.map (some w.heap.size)) (w.alloc (.map #[] 0)):=rfl
 go_enter Tryz.func87,Tryz.ntmps87
 go_wp2_with fail
 go_ret
 obtain⟨h1,h2⟩:=HM.out _ rfl
 exact⟨_,_,rfl,h1,h2⟩
end Go.Proofs.YtahhionlbfhinabGreatDoor.Sp
namespace Go.Proofs.YtahhionlbfhinabGreatDoor.Ce
structure Cel where
 ok:Bool
 on:Int
def roundD (i:Nat)(r:List Cel×Nat):List Cel×Nat :=
 match r.1[i]? with
 | none=>r
 | some c=>if c.ok=true∧0≤c.on∧c.on<(i:Int)∧((r.1[c.on.toNat]?).map Cel.ok).getD true=false then (r.1.set i ⟨false,c.on⟩,r.2+1) else r
def roundsD:Nat→Nat→List Cel×Nat→List Cel×Nat
 | _,0,r=>r
 | i,n+1,r=>roundsD (i+1) n (roundD i r)
def okAt (l:List Cel)(n:Nat):Bool:=((l[n]?).map Cel.ok).getD false
def breakD (l:List Cel)(n:Int):List Cel×Nat :=
 if 0≤n∧okAt l n.toNat=true then
  match l[n.toNat]? with
  | some c=>roundsD (n.toNat+1) (l.length - (n.toNat+1)) (l.set n.toNat ⟨false,c.on⟩,1)
  | none=>(l,0)
 else (l,0)
def hitF (l:List Cel)(n:Nat):Nat→Nat→Bool
 | 0,i=>decide (i=n)
 | f+1,i=>decide (i=n) || (match l[i]? with
   | none=>false
   | some c=>decide (0≤c.on∧c.on<(i:Int)) && hitF l n f c.on.toNat)
def hit (l:List Cel)(n i:Nat):Bool:=hitF l n (i+1) i
theorem hitF_more (l:List Cel)(n:Nat):∀(f g i:Nat),i<f→i<g→hitF l n f i=hitF l n g i
 | 0,g,i,h,_=>by omega
 | f+1,0,i,_,h=>by omega
 | f+1,g+1,i,h1,h2=>by
   unfold hitF
   cases l[i]? with
   | none=>rfl
   | some c =>
     simp only
     by_cases q:0≤c.on∧c.on<(i:Int)
     ·rw[hitF_more l n f g c.on.toNat (by omega) (by omega)]
     ·rw[decide_eq_false q,Bool.false_and,Bool.false_and]
theorem hit_eq (l:List Cel)(n i:Nat):hit l n i=(decide (i=n) || (match l[i]? with
  | none=>false
  | some c=>decide (0≤c.on∧c.on<(i:Int)) && hit l n c.on.toNat)):=by
 unfold hit
 rw[hitF]
 cases l[i]? with
 | none=>rfl
 | some c =>
   simp only
   by_cases q:0≤c.on∧c.on<(i:Int)
   ·rw[hitF_more l n i (c.on.toNat+1) c.on.toNat (by omega) (by omega)]
   ·rw[decide_eq_false q,Bool.false_and,Bool.false_and]
theorem hit_low (l:List Cel)(n:Nat):∀m i,i<m→i<n→hit l n i=false:=by
 intro m
 induction m with
 | zero=>intro i h;omega
 | succ m ih =>
   intro i h1 h2
   rw[hit_eq,decide_eq_false (by omega),Bool.false_or]
   cases l[i]? with
   | none=>rfl
   | some c =>
     simp only
     by_cases q:0≤c.on∧c.on<(i:Int)
     ·rw[ih c.on.toNat (by omega) (by omega),Bool.and_false]
     ·rw[decide_eq_false q,Bool.false_and]
def Inv (l:List Cel):Prop:=∀(i:Nat)(c:Cel),l[i]?=some c→c.ok=true→c.on = -1∨(0≤c.on∧c.on<(i:Int)∧okAt l c.on.toNat=true)
structure Way (l:List Cel)(n i:Nat)(r:List Cel×Nat):Prop where
 len:r.1.length=l.length
 at':∀(k:Nat) (c:Cel),l[k]?=some c→r.1[k]?=some ⟨c.ok && !(decide (k<i) && hit l n k),c.on⟩
theorem way_round {l:List Cel}(hI:Inv l){n i:Nat}{r:List Cel×Nat}(h:Way l n i r)(hi:n<i):Way l n (i+1) (roundD i r)∧(roundD i r).2=r.2+(if okAt l i=true∧hit l n i=true then 1 else 0):=by
 have key:∀k,k≠i→(decide (k<i+1)=decide (k<i)):=fun k hk=>by
  by_cases q:k<i
  ·rw[decide_eq_true q,decide_eq_true (by omega)]
  ·rw[decide_eq_false q,decide_eq_false (by omega)]
 cases hc:l[i]? with
 | none =>
   have hr:r.1[i]?=none:=List.getElem?_eq_none (by rw[h.len];exact List.getElem?_eq_none_iff.1 hc)
   have e:roundD i r=r:=by unfold roundD;rw[hr]
   rw[e]
   refine⟨⟨h.len,fun k c hk => ?_⟩,?_⟩
   ·rw[h.at' k c hk,key k (fun q=>by rw[q,hc] at hk;cases hk)]
   ·unfold okAt
    rw[hc]
    simp
 | some c =>
   have hr:=h.at' i c hc
   rw[decide_eq_false (show ¬i<i by omega),Bool.false_and,Bool.not_false,Bool.and_true] at hr
   have hok:okAt l i=c.ok:=by unfold okAt;rw[hc];rfl
   have hhit:hit l n i=(decide (0≤c.on∧c.on<(i:Int)) && hit l n c.on.toNat):=by
    rw[hit_eq,decide_eq_false (show ¬i=n by omega),Bool.false_or,hc]
   rw[hok]
   by_cases q:c.ok=true∧hit l n i=true
   ·have q2:=q.2
    rw[hhit,Bool.and_eq_true] at q2
    have q3:=of_decide_eq_true q2.1
    have hlt:c.on.toNat<i:=by omega
    have hil:i<l.length:=(List.getElem?_eq_some_iff.1 hc).1
    have hex:∃d,l[c.on.toNat]?=some d:=⟨_,List.getElem?_eq_getElem (by omega)⟩
    obtain⟨d,hd⟩:=hex
    have hrd:=h.at' _ d hd
    rw[decide_eq_true hlt,Bool.true_and,q2.2] at hrd
    have e:roundD i r=(r.1.set i ⟨false,c.on⟩,r.2+1):=by
     unfold roundD
     rw[hr]
     simp only
     rw[if_pos ⟨q.1,q3.1,q3.2,by rw[hrd];simp⟩]
    rw[e,if_pos q]
    refine⟨⟨by rw[List.length_set];exact h.len,fun k c' hk => ?_⟩,rfl⟩
    by_cases e5:k=i
    ·subst e5
     rw[hc] at hk
     cases hk
     rw[List.getElem?_set_self (by rw[h.len];exact hil),decide_eq_true (by omega),Bool.true_and,q.2]
     simp
    ·rw[List.getElem?_set_ne (fun e6=>e5 e6.symm),h.at' k c' hk,key k e5]
   ·have e:roundD i r=r:=by
     unfold roundD
     rw[hr]
     simp only
     rw[if_neg ?_]
     rintro⟨a1,a2,a3,a4⟩
     apply q
     refine⟨a1,?_⟩
     rw[hhit,decide_eq_true ⟨a2,a3⟩,Bool.true_and]
     rcases hI i c hc a1 with b | ⟨b1,b2,b3⟩
     ·omega
     ·have hex:∃d,l[c.on.toNat]?=some d:=by
       unfold okAt at b3
       cases hd:l[c.on.toNat]? with
       | none=>rw[hd] at b3;cases b3
       | some d=>exact⟨d,rfl⟩
      obtain⟨d,hd⟩:=hex
      rw[h.at' _ d hd,decide_eq_true (show c.on.toNat<i by omega),Bool.true_and] at a4
      have hdk:d.ok=true:=by unfold okAt at b3;rw[hd] at b3;exact b3
      simp only[Option.map_some,Option.getD_some,hdk,Bool.true_and] at a4
      simpa using a4
    rw[e,if_neg q]
    refine⟨⟨h.len,fun k c' hk => ?_⟩,rfl⟩
    by_cases e5:k=i
    ·subst e5
     rw[hc] at hk
     cases hk
     rw[hr,decide_eq_true (show k<k+1 by omega),Bool.true_and]
     congr 2
     cases ho:c.ok with
     | false=>rfl
     | true =>
       have:hit l n k=false:=by
        cases hh:hit l n k with
        | false=>rfl
        | true=>exact absurd ⟨ho,hh⟩ q
       rw[this]
       rfl
    ·rw[h.at' k c' hk,key k e5]
def cnt (l:List Cel)(n:Nat):Nat→Nat
 | 0=>0
 | i+1=>cnt l n i+(if okAt l i=true∧hit l n i=true then 1 else 0)
theorem cnt_low (l:List Cel)(n:Nat):∀i,i≤n→cnt l n i=0
 | 0,_=>rfl
 | i+1,h=>by
   rw[cnt,cnt_low l n i (by omega),if_neg]
   rintro⟨_,q⟩
   rw[hit_low l n (i+1) i (by omega) (by omega)] at q
   cases q
theorem hit_self (l:List Cel)(n:Nat):hit l n n=true:=by rw[hit_eq,decide_eq_true rfl,Bool.true_or]
theorem way_start {l:List Cel}{n:Nat}{c:Cel}(hc:l[n]?=some c):Way l n (n+1) (l.set n ⟨false,c.on⟩,1):=by
 refine⟨by simp,fun k d hk => ?_⟩
 by_cases e:k=n
 ·subst e
  rw[hc] at hk
  cases hk
  rw[List.getElem?_set_self (List.getElem?_eq_some_iff.1 hc).1,decide_eq_true (by omega),Bool.true_and,hit_self]
  simp
 ·rw[List.getElem?_set_ne (fun q=>e q.symm),hk]
  congr 1
  by_cases q:k<n
  ·rw[hit_low l n (k+1) k (by omega) q,Bool.and_false,Bool.not_false,Bool.and_true]
  ·rw[decide_eq_false (by omega),Bool.false_and,Bool.not_false,Bool.and_true]
theorem way_rounds {l:List Cel}(hI:Inv l){n:Nat}:∀(m i:Nat)(r:List Cel×Nat),n<i→Way l n i r→r.2=cnt l n i→Way l n (i+m) (roundsD i m r)∧(roundsD i m r).2=cnt l n (i+m)
 | 0,i,r,_,h,hc=>⟨h,hc⟩
 | m+1,i,r,hi,h,hc=>by
   obtain⟨h1,h2⟩:=way_round hI h hi
   have:=way_rounds hI m (i+1) (roundD i r) (by omega) h1 (by rw[h2,hc,cnt])
   rw[roundsD,show i+(m+1)=i+1+m by omega]
   exact this
theorem break_spec {l:List Cel}(hI:Inv l){n:Nat}(hn:okAt l n=true):(breakD l n).2=cnt l n l.length∧(breakD l n).1.length=l.length∧∀(k:Nat)(c:Cel),l[k]?=some c→(breakD l n).1[k]?=some ⟨c.ok && !hit l n k,c.on⟩:=by
 have hex:∃c,l[n]?=some c:=by
  unfold okAt at hn
  cases hc:l[n]? with
  | none=>rw[hc] at hn;cases hn
  | some c=>exact⟨c,rfl⟩
 obtain⟨c,hc⟩:=hex
 have hl:=(List.getElem?_eq_some_iff.1 hc).1
 have e:breakD l n=roundsD (n+1) (l.length - (n+1)) (l.set n ⟨false,c.on⟩,1):=by
  unfold breakD
  rw[if_pos ⟨by omega,by rw[Int.toNat_natCast];exact hn⟩,Int.toNat_natCast,hc]
 rw[e]
 have h0:(1:Nat)=cnt l n (n+1):=by
  rw[cnt,cnt_low l n n (Nat.le_refl _),if_pos ⟨hn,hit_self l n⟩]
 obtain⟨h1,h2⟩:=way_rounds hI (l.length - (n+1)) (n+1) _ (by omega) (way_start hc) h0
 rw[show n+1+(l.length - (n+1))=l.length by omega] at h1 h2
 refine⟨h2,h1.len,fun k d hk => ?_⟩
 rw[h1.at' k d hk,decide_eq_true (List.getElem?_eq_some_iff.1 hk).1,Bool.true_and]
theorem break_none {l:List Cel}{n:Int}(h:¬(0≤n∧okAt l n.toNat=true)):breakD l n=(l,0):=by
 unfold breakD
 rw[if_neg h]
theorem inv_break {l:List Cel}(hI:Inv l)(n:Int):Inv (breakD l n).1:=by
 by_cases h:0≤n∧okAt l n.toNat=true
 ·obtain⟨m,rfl⟩:∃m:Nat,n=m:=⟨n.toNat,by omega⟩
  rw[Int.toNat_natCast] at h
  obtain⟨_,hl,hk⟩:=break_spec hI h.2
  intro i c hc hok
  have hil:i<l.length:=by rw[←hl];exact(List.getElem?_eq_some_iff.1 hc).1
  have h1:=hk i _ (List.getElem?_eq_getElem hil)
  rw[hc] at h1
  have h2:=Option.some.inj h1
  rw[h2] at hok ⊢
  simp only[Bool.and_eq_true] at hok
  rcases hI i _ (List.getElem?_eq_getElem hil) hok.1 with q | ⟨q1,q2,q3⟩
  ·exact Or.inl q
  ·refine Or.inr ⟨q1,q2,?_⟩
   have hex:∃d,l[(l[i]).on.toNat]?=some d:=by
    unfold okAt at q3
    cases hd:l[(l[i]).on.toNat]? with
    | none=>rw[hd] at q3;cases q3
    | some d=>exact⟨d,rfl⟩
   obtain⟨d,hd⟩:=hex
   have hdk:d.ok=true:=by unfold okAt at q3;rw[hd] at q3;exact q3
   unfold okAt
   simp only
   rw[hk _ d hd]
   simp only[Option.map_some,Option.getD_some,hdk,Bool.true_and]
   have hh:=hok.2
   rw[hit_eq,List.getElem?_eq_getElem hil] at hh
   simp only[decide_eq_true (show 0≤(l[i]).on∧(l[i]).on<(i:Int) from ⟨q1,q2⟩),Bool.true_and] at hh
   cases hx:hit l m (l[i]).on.toNat with
   | false=>rfl
   | true=>rw[hx,Bool.or_true] at hh;cases hh
 ·rw[break_none h]
  exact hI
theorem inv_nil:Inv []:=fun i c h=>by simp at h
def Child (l:List Cel)(j k:Nat):Prop:=∃c,l[k]?=some c∧c.on=(j:Int)∧j<k
theorem hit_child {l:List Cel}{n j k:Nat}(h:Child l j k)(hh:hit l n j=true):hit l n k=true:=by
 obtain⟨c,h1,h2,h3⟩:=h
 rw[hit_eq,h1]
 simp only
 rw[h2,Int.toNat_natCast,hh,decide_eq_true (show(0:Int)≤(j:Int)∧(j:Int)<(k:Int) by omega)]
 simp
theorem hit_back {l:List Cel}{n k:Nat}(hh:hit l n k=true)(hk:k≠n):∃j,Child l j k∧hit l n j=true:=by
 rw[hit_eq,decide_eq_false hk,Bool.false_or] at hh
 cases hc:l[k]? with
 | none=>rw[hc] at hh;cases hh
 | some c =>
   rw[hc] at hh
   simp only[Bool.and_eq_true] at hh
   have h1:=of_decide_eq_true hh.1
   exact⟨c.on.toNat,⟨c,hc,by omega,by omega⟩,hh.2⟩
theorem ok_child {l:List Cel}(hI:Inv l){j k:Nat}(h:Child l j k)(hk:okAt l k=true):okAt l j=true:=by
 obtain⟨c,h1,h2,h3⟩:=h
 have hck:c.ok=true:=by unfold okAt at hk;rw[h1] at hk;exact hk
 rcases hI k c h1 hck with q | ⟨_,_,q⟩
 ·omega
 ·rw[h2,Int.toNat_natCast] at q
  exact q
def cntD (D:Nat→Bool):Nat→Nat
 | 0=>0
 | i+1=>cntD D i+(if D i=true then 1 else 0)
theorem cntD_put {D:Nat→Bool}{i:Nat}(hi:D i=false):∀m,cntD (fun k=>D k || decide (k=i)) m=cntD D m+(if i<m then 1 else 0)
 | 0=>by simp[cntD]
 | m+1=>by
   rw[cntD,cntD,cntD_put hi m]
   by_cases e:m=i
   ·subst e
    rw[hi]
    simp
   ·by_cases q:i<m
    ·rw[if_pos q,if_pos (show i<m+1 by omega)]
     simp[e]
     omega
    ·rw[if_neg q,if_neg (show ¬i<m+1 by omega)]
     simp[e]
theorem cntD_hit {l:List Cel}{n:Nat}{D:Nat→Bool}(h1:∀k,D k=true→okAt l k=true)(h2:∀k,okAt l k=true→(D k=true↔hit l n k=true)):∀m,cntD D m=cnt l n m
 | 0=>rfl
 | m+1=>by
   rw[cntD,cnt,cntD_hit h1 h2 m]
   congr 1
   by_cases q:D m=true
   ·rw[if_pos q,if_pos ⟨h1 m q,(h2 m (h1 m q)).1 q⟩]
   ·rw[if_neg q,if_neg (fun e=>q ((h2 m e.1).2 e.2))]
theorem break_on {l:List Cel}(hI:Inv l)(n:Int):∀k:Nat,((breakD l n).1[k]?).map Cel.on=(l[k]?).map Cel.on:=by
 intro k
 by_cases h:0≤n∧okAt l n.toNat=true
 ·obtain⟨m,rfl⟩:∃m:Nat,n=m:=⟨n.toNat,by omega⟩
  rw[Int.toNat_natCast] at h
  obtain⟨_,hl,hk⟩:=break_spec hI h.2
  cases hc:l[k]? with
  | none=>rw[List.getElem?_eq_none (by rw[hl];exact List.getElem?_eq_none_iff.1 hc)]
  | some c=>rw[hk k c hc];rfl
 ·rw[break_none h]
def onF (a i:Nat):Int:=if i<2 then -1 else if i=2 then 0 else if i<a+2 then (i:Int) - 1 else if i=a+2 then 1 else (i:Int) - 1
def two (a:Nat):Nat→List Cel
 | 0=>[]
 | m+1=>two a m++[⟨true,onF a m⟩]
structure En where
 ok:Bool
 top:Int
 bes:Int
def Ch (E:List En):Int→List Nat→Prop
 | t,[]=>t=0
 | t,k :: ks=>t=(k:Int)∧0<k∧(∃e,E[k]?=some e∧Ch E e.bes ks)∧∀j∈ks,j<k
theorem ch_bes {E E':List En}(h:∀(k:Nat)(e:En),E[k]?=some e→∃e',E'[k]?=some e'∧e'.bes=e.bes):∀(ks:List Nat)(t:Int),Ch E t ks→Ch E' t ks
 | [],t,q=>q
 | k :: ks,t,⟨q1,q2,⟨e,q3,q4⟩,q5⟩=>by
   obtain⟨e',r1,r2⟩:=h k e q3
   exact⟨q1,q2,⟨e',r1,by rw[r2];exact ch_bes h ks _ q4⟩,q5⟩
theorem ch_zero {E:List En}:∀ {ks:List Nat},Ch E 0 ks→ks=[]
 | [],_=>rfl
 | k :: ks,⟨q1,q2,_⟩=>by omega
theorem ch_lt {E:List En}{k:Nat}{ks:List Nat}{t:Int}(h:Ch E t (k :: ks)):∃e,E[k]?=some e∧Ch E e.bes ks∧(e.bes<(k:Int))∧0≤e.bes:=by
 obtain⟨_,hk,⟨e,h1,h2⟩,h3⟩:=h
 refine⟨e,h1,h2,?_⟩
 cases ks with
 | nil=>have:e.bes=0:=h2;omega
 | cons j ks =>
   have:=h2.1
   have:=h3 j (List.mem_cons_self ..)
   omega
structure Bk (E:List En)(l:List Cel)(D:Nat→Bool):Prop where
 len:E.length=l.length
 ok:∀(i:Nat) (e:En) (c:Cel),E[i]?=some e→l[i]?=some c→e.ok=(c.ok && !D i)
 ch:∀(j:Nat) (e:En),E[j]?=some e→∃ks,Ch E e.top ks∧(∀k∈ks,Child l j k)∧∀k,Child l j k→okAt l k=true→D k=false→k∈ks
def Rl (E:List En)(l:List Cel):Prop:=Bk E l (fun _=>false)
def enAt (E:List En)(i:Nat):Bool:=((E[i]?).map En.ok).getD false
theorem Bk.at' {E:List En}{l:List Cel}{D:Nat→Bool}(h:Bk E l D)(i:Nat):enAt E i=(okAt l i && !D i):=by
 unfold enAt okAt
 rcases Nat.lt_or_ge i l.length with c | c
 ·have h1:=List.getElem?_eq_getElem c
  have h2:E[i]?=some (E[i]'(by rw[h.len];exact c)):=List.getElem?_eq_getElem _
  have:=h.ok i _ _ h2 h1
  rw[h1,h2]
  simpa using this
 ·rw[List.getElem?_eq_none c,List.getElem?_eq_none (by rw[h.len];exact c)]
  rfl
theorem Rl.at' {E:List En}{l:List Cel}(h:Rl E l)(i:Nat):enAt E i=okAt l i:=by
 have:=Bk.at' h i
 rw[this]
 simp
theorem rl_nil:Rl [] []:=⟨rfl,fun i e c h=>by simp at h,fun j e h=>by simp at h⟩
theorem child_lt {l:List Cel}{j k:Nat}(h:Child l j k):k<l.length∧j<k:=by
 obtain⟨c,h1,h2,h3⟩:=h
 exact⟨(List.getElem?_eq_some_iff.1 h1).1,h3⟩
def put (D:Nat→Bool)(k:Nat):Nat→Bool:=fun i=>D i || decide (i=k)
theorem put_self (D:Nat→Bool)(k:Nat):put D k k=true:=by unfold put;simp
theorem put_other (D:Nat→Bool){k i:Nat}(h:i≠k):put D k i=D i:=by unfold put;simp[h]
theorem put_old (D:Nat→Bool)(k:Nat){i:Nat}(h:D i=true):put D k i=true:=by unfold put;simp[h]
theorem bk_mark {E:List En}{l:List Cel}{D:Nat→Bool}(h:Bk E l D)(k:Nat)(e:En)(he:E[k]?=some e):Bk (E.set k ⟨false,e.top,e.bes⟩) l (put D k):=by
 have hk:=(List.getElem?_eq_some_iff.1 he).1
 have hb:∀(i:Nat) (e0:En),E[i]?=some e0→∃e',(E.set k ⟨false,e.top,e.bes⟩)[i]?=some e'∧e'.bes=e0.bes:=fun i e0 hi=>by
  by_cases c:k=i
  ·subst c
   rw[List.getElem?_set_self hk]
   rw[he] at hi
   cases hi
   exact⟨_,rfl,rfl⟩
  ·rw[List.getElem?_set_ne c]
   exact⟨e0,hi,rfl⟩
 refine⟨by rw[List.length_set];exact h.len,fun i e1 c h1 h2 => ?_,fun j e1 h1 => ?_⟩
 ·by_cases q:k=i
  ·subst q
   rw[List.getElem?_set_self hk] at h1
   cases h1
   rw[put_self]
   simp
  ·rw[List.getElem?_set_ne q] at h1
   rw[put_other D (fun e=>q e.symm)]
   exact h.ok i e1 c h1 h2
 ·have key:∃e2,E[j]?=some e2∧e2.top=e1.top:=by
   by_cases q:k=j
   ·subst q
    rw[List.getElem?_set_self hk] at h1
    cases h1
    exact⟨e,he,rfl⟩
   ·rw[List.getElem?_set_ne q] at h1
    exact⟨e1,h1,rfl⟩
  obtain⟨e2,k1,k2⟩:=key
  obtain⟨ks,g1,g2,g3⟩:=h.ch j e2 k1
  refine⟨ks,by rw[←k2];exact ch_bes hb ks _ g1,g2,fun i hi ho hd=>g3 i hi ho ?_⟩
  unfold put at hd
  rw[Bool.or_eq_false_iff] at hd
  exact hd.1
theorem bk_none {E:List En}{l:List Cel}{D:Nat→Bool}(h:Bk E l D)(j:Nat)(e:En)(he:E[j]?=some e)(h0:e.top=0):∀k,Child l j k→okAt l k=true→D k=true:=by
 obtain⟨ks,g1,g2,g3⟩:=h.ch j e he
 rw[h0] at g1
 have:=ch_zero g1
 subst this
 intro k hk ho
 cases hd:D k with
 | true=>rfl
 | false=>exact absurd (g3 k hk ho hd) (by simp)
theorem bk_lift {E:List En}{l:List Cel}{D:Nat→Bool}(h:Bk E l D)(j:Nat)(e:En)(he:E[j]?=some e)(h0:e.top≠0) :
  ∃(k:Nat) (x:En),e.top=(k:Int)∧E[k]?=some x∧Child l j k∧x.bes<(k:Int)∧0≤x.bes∧k≠j ∧
   (x.ok=false→Bk (E.set j ⟨e.ok,x.bes,e.bes⟩) l D) ∧
   (x.ok=true→D k=false∧okAt l k=true∧Bk ((E.set j ⟨e.ok,x.bes,e.bes⟩).set k ⟨false,x.top,x.bes⟩) l (put D k)):=by
 obtain⟨ks,g1,g2,g3⟩:=h.ch j e he
 have hj:=(List.getElem?_eq_some_iff.1 he).1
 cases ks with
 | nil=>exact absurd g1 h0
 | cons k ks =>
   obtain⟨x,hx,hxc,hx1,hx2⟩:=ch_lt g1
   have hch:=g2 k (List.mem_cons_self ..)
   have hkl:=(child_lt hch).1
   have hne:k≠j:=by have:=(child_lt hch).2;omega
   have hc:∃c,l[k]?=some c:=⟨_,List.getElem?_eq_getElem hkl⟩
   obtain⟨c,hc⟩:=hc
   have hoc:okAt l k=c.ok:=by unfold okAt;rw[hc];rfl
   have hxo:=h.ok k x c hx hc
   have hb:∀(i:Nat) (e0:En),E[i]?=some e0→∃e',(E.set j ⟨e.ok,x.bes,e.bes⟩)[i]?=some e'∧e'.bes=e0.bes:=fun i e0 hi=>by
    by_cases c:j=i
    ·subst c
     rw[List.getElem?_set_self hj]
     rw[he] at hi
     cases hi
     exact⟨_,rfl,rfl⟩
    ·rw[List.getElem?_set_ne c]
     exact⟨e0,hi,rfl⟩
   have main:∀D':Nat→Bool,(∀i,D' i=false→D i=false)→(okAt l k=true→D' k=true)→(∀(i:Nat) (e1:En) (c1:Cel),(E.set j ⟨e.ok,x.bes,e.bes⟩)[i]?=some e1→l[i]?=some c1→e1.ok=(c1.ok && !D i))∧(∀(i:Nat) (e1:En),(E.set j ⟨e.ok,x.bes,e.bes⟩)[i]?=some e1→∃ks,Ch (E.set j ⟨e.ok,x.bes,e.bes⟩) e1.top ks∧(∀k∈ks,Child l i k)∧∀k,Child l i k→okAt l k=true→D' k=false→k∈ks):=by
    intro D' hD hDk
    refine⟨fun i e1 c1 h1 h2 => ?_,fun i e1 h1 => ?_⟩
    ·by_cases q:j=i
     ·subst q
      rw[List.getElem?_set_self hj] at h1
      cases h1
      exact h.ok j e c1 he h2
     ·rw[List.getElem?_set_ne q] at h1
      exact h.ok i e1 c1 h1 h2
    ·by_cases q:j=i
     ·subst q
      rw[List.getElem?_set_self hj] at h1
      cases h1
      refine⟨ks,ch_bes hb ks _ hxc,fun i hi=>g2 i (List.mem_cons_of_mem _ hi),fun i hi ho hd => ?_⟩
      rcases List.mem_cons.1 (g3 i hi ho (hD i hd)) with r | r
      ·subst r
       rw[hDk ho] at hd
       cases hd
      ·exact r
     ·rw[List.getElem?_set_ne q] at h1
      obtain⟨ks',r1,r2,r3⟩:=h.ch i e1 h1
      exact⟨ks',ch_bes hb ks' _ r1,r2,fun a ha ho hd=>r3 a ha ho (hD a hd)⟩
   refine⟨k,x,g1.1,hx,hch,hx1,hx2,hne,fun hf => ?_,fun ht => ?_⟩
   ·have:=main D (fun i q=>q) (fun ho=>by
     rw[hoc] at ho
     rw[hf,ho] at hxo
     cases hd:D k with
     | true=>rfl
     | false=>rw[hd] at hxo;cases hxo)
    exact⟨by rw[List.length_set];exact h.len,this.1,this.2⟩
   ·rw[ht] at hxo
    have hxo:=hxo.symm
    rw[Bool.and_eq_true,Bool.not_eq_true'] at hxo
    refine⟨hxo.2,by rw[hoc];exact hxo.1,?_⟩
    have hm:=main (put D k) (fun i q=>by unfold put at q;rw[Bool.or_eq_false_iff] at q;exact q.1) (fun _=>put_self D k)
    have hk2:(E.set j ⟨e.ok,x.bes,e.bes⟩)[k]?=some x:=by rw[List.getElem?_set_ne (fun q=>hne q.symm)];exact hx
    have hk3:k<(E.set j ⟨e.ok,x.bes,e.bes⟩).length:=(List.getElem?_eq_some_iff.1 hk2).1
    have hb2:∀(i:Nat) (e0:En),(E.set j ⟨e.ok,x.bes,e.bes⟩)[i]?=some e0→∃e',((E.set j ⟨e.ok,x.bes,e.bes⟩).set k ⟨false,x.top,x.bes⟩)[i]?=some e'∧e'.bes=e0.bes:=fun i e0 hi=>by
     by_cases c:k=i
     ·subst c
      rw[List.getElem?_set_self hk3]
      rw[hk2] at hi
      cases hi
      exact⟨_,rfl,rfl⟩
     ·rw[List.getElem?_set_ne c]
      exact⟨e0,hi,rfl⟩
    refine⟨by rw[List.length_set,List.length_set];exact h.len,fun i e1 c1 h1 h2 => ?_,fun i e1 h1 => ?_⟩
    ·by_cases q:k=i
     ·subst q
      rw[List.getElem?_set_self hk3] at h1
      cases h1
      rw[put_self]
      simp
     ·rw[List.getElem?_set_ne q] at h1
      rw[put_other D (fun e=>q e.symm)]
      exact hm.1 i e1 c1 h1 h2
    ·have key:∃e2,(E.set j ⟨e.ok,x.bes,e.bes⟩)[i]?=some e2∧e2.top=e1.top:=by
      by_cases q:k=i
      ·subst q
       rw[List.getElem?_set_self hk3] at h1
       cases h1
       exact⟨x,hk2,rfl⟩
      ·rw[List.getElem?_set_ne q] at h1
       exact⟨e1,h1,rfl⟩
     obtain⟨e2,k1,k2⟩:=key
     obtain⟨ks2,r1,r2,r3⟩:=hm.2 i e2 k1
     exact⟨ks2,by rw[←k2];exact ch_bes hb2 ks2 _ r1,r2,r3⟩
structure Pile (E:List En)(l:List Cel)(n:Nat)(D:Nat→Bool)(S:List Nat):Prop where
 bk:Bk E l D
 done:∀k,D k=true→okAt l k=true∧hit l n k=true
 st:D n=true
 on:∀s∈S,D s=true
 fin:∀j,D j=true→j∉S→∀k,Child l j k→okAt l k=true→D k=true
 len:S.length≤cntD D l.length
theorem cntD_none:∀m,cntD (fun _=>false) m=0
 | 0=>rfl
 | m+1=>by rw[cntD,cntD_none m];simp
theorem cntD_le (D:Nat→Bool):∀m,cntD D m≤m
 | 0=>Nat.le_refl _
 | m+1=>by
   rw[cntD]
   have:=cntD_le D m
   split <;> omega
theorem ok_lt {l:List Cel}{k:Nat}(h:okAt l k=true):k<l.length:=by
 unfold okAt at h
 rcases Nat.lt_or_ge k l.length with c | c
 ·exact c
 ·rw[List.getElem?_eq_none c] at h
  cases h
theorem cntD_more {D:Nat→Bool}{k m:Nat}(hk:D k=false)(hm:k<m):cntD (put D k) m=cntD D m+1:=by
 have:=cntD_put hk m
 rw[if_pos hm] at this
 exact this
theorem pile_start {E:List En}{l:List Cel}(h:Rl E l){n:Nat}(hn:okAt l n=true)(e:En)(he:E[n]?=some e):Pile (E.set n ⟨false,e.top,e.bes⟩) l n (put (fun _=>false) n) [n]∧cntD (put (fun _=>false) n) l.length=1:=by
 have h1:cntD (put (fun _=>false) n) l.length=1:=by
  rw[cntD_more rfl (ok_lt hn),cntD_none]
 have hp:∀k,put (fun _=>false) n k=true→k=n:=fun k q=>by
  unfold put at q
  simpa using q
 refine⟨⟨bk_mark h n e he,fun k q => ?_,put_self _ _,fun s hs => ?_,fun j hj hs => ?_,?_⟩,h1⟩
 ·rw[hp k q]
  exact⟨hn,hit_self l n⟩
 ·rw[List.mem_singleton.1 hs]
  exact put_self _ _
 ·exact absurd (List.mem_singleton.2 (hp j hj)) hs
 ·rw[h1]
  exact Nat.le_refl _
theorem Pile.skip {E E':List En}{l:List Cel}{n:Nat}{D:Nat→Bool}{S:List Nat}(h:Pile E l n D S)(hb:Bk E' l D):Pile E' l n D S :=
 ⟨hb,h.done,h.st,h.on,h.fin,h.len⟩
theorem Pile.push {E E':List En}{l:List Cel}{n:Nat}{D:Nat→Bool}{S:List Nat}(h:Pile E l n D S){j k:Nat}(hj:j∈S)(hc:Child l j k)(hd:D k=false)(ho:okAt l k=true)(hb:Bk E' l (put D k)):Pile E' l n (put D k) (S++[k])∧cntD (put D k) l.length=cntD D l.length+1:=by
 have hcnt:=cntD_more hd (ok_lt ho)
 refine⟨⟨hb,fun i q => ?_,put_old _ _ h.st,fun s hs => ?_,fun i q hs => ?_,?_⟩,hcnt⟩
 ·by_cases c:i=k
  ·subst c
   exact⟨ho,hit_child hc (h.done j (h.on j hj)).2⟩
  ·rw[put_other D c] at q
   exact h.done i q
 ·rcases List.mem_append.1 hs with c | c
  ·exact put_old _ _ (h.on s c)
  ·rw[List.mem_singleton.1 c]
   exact put_self _ _
 ·have c:i≠k:=fun c=>hs (List.mem_append_right _ (List.mem_singleton.2 c))
  rw[put_other D c] at q
  intro a ha hoa
  exact put_old _ _ (h.fin i q (fun r=>hs (List.mem_append_left _ r)) a ha hoa)
 ·rw[hcnt,List.length_append,List.length_singleton]
  have:=h.len
  omega
theorem Pile.pop {E:List En}{l:List Cel}{n:Nat}{D:Nat→Bool}{S:List Nat}{j:Nat}(h:Pile E l n D (S++[j]))(e:En)(he:E[j]?=some e)(h0:e.top=0):Pile E l n D S:=by
 refine⟨h.bk,h.done,h.st,fun s hs=>h.on s (List.mem_append_left _ hs),fun i q hs => ?_,?_⟩
 ·by_cases c:i=j
  ·subst c
   exact bk_none h.bk i e he h0
  ·refine h.fin i q (fun r => ?_)
   rcases List.mem_append.1 r with r | r
   ·exact hs r
   ·exact c (List.mem_singleton.1 r)
 ·have:=h.len
  rw[List.length_append,List.length_singleton] at this
  omega
theorem Pile.last {E:List En}{l:List Cel}(hI:Inv l){n:Nat}{D:Nat→Bool}(h:Pile E l n D [])(hn:okAt l n=true):cntD D l.length=(breakD l n).2∧Rl E (breakD l n).1:=by
 have key:∀m k,k<m→okAt l k=true→hit l n k=true→D k=true:=by
  intro m
  induction m with
  | zero=>intro k hk;omega
  | succ m ih =>
    intro k hk h1 h2
    by_cases c:k=n
    ·rw[c];exact h.st
    ·obtain⟨j,q1,q2⟩:=hit_back h2 c
     have hjk:=(child_lt q1).2
     exact h.fin j (ih j (by omega) (ok_child hI q1 h1) q2) (by simp) k q1 h1
 have hD:∀k,okAt l k=true→(D k=true↔hit l n k=true):=fun k hk=>⟨fun q=>(h.done k q).2,fun q=>key (k+1) k (by omega) hk q⟩
 obtain⟨s1,s2,s3⟩:=break_spec hI hn
 refine⟨?_,?_⟩
 ·rw[s1]
  exact cntD_hit (fun k q=>(h.done k q).1) hD _
 ·have hch:∀ {j k:Nat},Child (breakD l n).1 j k↔Child l j k:=by
   intro j k
   have:=break_on hI n k
   constructor
   ·rintro⟨c,c1,c2,c3⟩
    rw[c1] at this
    cases hl:l[k]? with
    | none=>rw[hl] at this;cases this
    | some d =>
      rw[hl] at this
      have e:c.on=d.on:=Option.some.inj this
      exact⟨d,hl,by rw[←e];exact c2,c3⟩
   ·rintro⟨c,c1,c2,c3⟩
    rw[c1] at this
    cases hl:(breakD l n).1[k]? with
    | none=>rw[hl] at this;cases this
    | some d =>
      rw[hl] at this
      have e:d.on=c.on:=Option.some.inj this
      exact⟨d,hl,by rw[e];exact c2,c3⟩
  have hok:∀k,okAt (breakD l n).1 k=(okAt l k && !hit l n k):=by
   intro k
   unfold okAt
   cases hl:l[k]? with
   | none=>rw[List.getElem?_eq_none (by rw[s2];exact List.getElem?_eq_none_iff.1 hl)];rfl
   | some d=>rw[s3 k d hl];rfl
  refine⟨by rw[s2];exact h.bk.len,fun i e c h1 h2 => ?_,fun j e he => ?_⟩
  ·have hil:i<l.length:=by rw[←s2];exact(List.getElem?_eq_some_iff.1 h2).1
   have hd:=List.getElem?_eq_getElem hil
   have h3:=s3 i _ hd
   rw[h2] at h3
   have h3:=Option.some.inj h3
   rw[h.bk.ok i e _ h1 hd,h3]
   simp only[Bool.not_false,Bool.and_true]
   cases ho:(l[i]).ok with
   | false=>rfl
   | true =>
     have hoa:okAt l i=true:=by unfold okAt;rw[hd];exact ho
     have:=hD i hoa
     cases hh:hit l n i with
     | true=>rw[this.2 hh]
     | false =>
       cases hdd:D i with
       | false=>rfl
       | true=>rw[this.1 hdd] at hh;cases hh
  ·obtain⟨ks,g1,g2,g3⟩:=h.bk.ch j e he
   refine⟨ks,g1,fun k hk=>hch.2 (g2 k hk),fun k hk ho _ => ?_⟩
   rw[hok,Bool.and_eq_true,Bool.not_eq_true'] at ho
   refine g3 k (hch.1 hk) ho.1 ?_
   cases hdd:D k with
   | false=>rfl
   | true=>rw[(hD k ho.1).1 hdd] at ho;cases ho.2
end Go.Proofs.YtahhionlbfhinabGreatDoor.Ce
