/- MG, KP, KE -/
import Derived.Test.YtahhionlbfhinaaGreatDoorB13
import Derived.Test.YtahhionlbfhinaaGreatDoorB6
import Derived.Test.YtahhionlbfhinaaGreatDoorB1
import Derived.Test.YtahhionlbfhinaaGreatDoorB2
set_option linter.unusedVariables false
set_option linter.unusedSimpArgs false
set_option maxRecDepth 100000
set_option maxHeartbeats 40000000
namespace Go.Proofs.YtahhionlbfhinaaGreatDoor.Hp
open Go.RowKit
section
variable {w W W' w' w1:World}{B b n:Nat}{tg:Nat→Nat}{S:List So}{vo vt:SV}{qs:List QV}
theorem rlen_miss (h:StAt w B tg S vo qs)(vt:SV)(o:Int)(o0:0≤o)(o1:o<18446744073709551616)(hm:obS S o=none) :
  Calls Tryz.prog 74 #[stV vo vt,.int .u64 o] w fun e w'=>e = .returned (.int .i64 0)∧Below w.heap.size w w':=by
 obtain⟨wb,hwb⟩:∃wb,wb=w.alloc (.cells #[vo.val,vt.val] 28):=⟨_,rfl⟩
 have hB:Below w.heap.size w wb:=by rw[hwb];exact(Below.refl _ _).alloc (Nat.le_refl _) _
 have hbx:BxS wb w.heap.size vo vt:=by rw[hwb];exact BxS.new w vo vt
 have ka:=rat_miss (h.below hB) vt o o0 o1 hm
 have HB:Hid (Below w.heap.size w wb):=hB
 obtain⟨b0,b1⟩:=hbx.ce
 unfold stV SV.val at *
 clear h hB hbx hm
 go_enter Tryz.func74,Tryz.ntmps74
 go_upto_region 1 with fail
 rw[←hwb]
 clear hwb
 go_wp2_with fail
 refine ka.mono ?_
 rintro e w2 ⟨rfl,hB2⟩
 have HB2:Hid (Below w.heap.size w w2):=bel_sm HB.out hB2
 clear ka hB2 HB
 go_wp2_with fail
 go_ret
 exact⟨rfl,HB2.out⟩
def lenO (S:List So)(o:Int):Nat:=((soO S o).map (fun x=>x.el.length)).getD 0
theorem rlen_o (h:StAt w B tg S vo qs)(vt:SV)(o:Int)(o0:0≤o)(o1:o<18446744073709551616) :
  Calls Tryz.prog 74 #[stV vo vt,.int .u64 o] w fun e w'=>e = .returned (.int .i64 (lenO S o:Int))∧Below w.heap.size w w':=by
 unfold lenO
 cases hq:soO S o with
 | none=>exact rlen_miss h vt o o0 o1 (soO_none hq o0 o1)
 | some x =>
   obtain⟨i,h1,rfl,_⟩:=soO_some hq o0 o1
   exact rlen_hit h vt h1
def elS (l:List Int)(n:Int):Option Int:=if n<0 then none else (l[n.toNat]?).bind (fun v=>if v=18445336698825998340 then none else some v)
theorem relem_low (h:StAt w B tg S vo qs)(vt:SV)(o:Int)(o0:0≤o)(o1:o<18446744073709551616)(n:Int)(hn:n<0∨(lenO S o:Int)≤n) :
  Calls Tryz.prog 75 #[stV vo vt,.int .u64 o,.int .i64 n] w fun e w'=>e = .returned (.tuple #[.int .u64 18445336698825998336,.bool false])∧Below w.heap.size w w':=by
 obtain⟨wb,hwb⟩:∃wb,wb=w.alloc (.cells #[vo.val,vt.val] 28):=⟨_,rfl⟩
 have hB:Below w.heap.size w wb:=by rw[hwb];exact(Below.refl _ _).alloc (Nat.le_refl _) _
 have hbx:BxS wb w.heap.size vo vt:=by rw[hwb];exact BxS.new w vo vt
 have ka:=rlen_o (h.below hB) vt o o0 o1
 have HB:Hid (Below w.heap.size w wb):=hB
 obtain⟨b0,b1⟩:=hbx.ce
 unfold stV SV.val at *
 generalize (lenO S o:Int)=ln at *
 clear h hB hbx
 by_cases c:n<0
 ·have c1:decide (n<0)=true:=decide_eq_true c
  go_enter Tryz.func75,Tryz.ntmps75
  go_upto_region 1 with fail
  rw[←hwb]
  clear hwb
  go_wp2_with fail
  go_ret2
  exact⟨rfl,HB.out⟩
 ·have c1:decide (n<0)=false:=decide_eq_false c
  have c2:decide (ln≤n)=true:=decide_eq_true (by omega)
  clear hn
  go_enter Tryz.func75,Tryz.ntmps75
  go_upto_region 1 with fail
  rw[←hwb]
  clear hwb
  go_wp2_with fail
  refine ka.mono ?_
  rintro e w2 ⟨rfl,hB2⟩
  have HB2:Hid (Below w.heap.size w w2):=bel_sm HB.out hB2
  clear ka hB2 HB
  go_wp2_with fail
  go_ret2
  exact⟨rfl,HB2.out⟩
theorem relem_in (h:StAt w B tg S vo qs)(vt:SV){i:Nat}{x:So}(hi:S[i]?=some x)(n:Nat)(v:Int)(hv:x.el[n]?=some v) :
  Calls Tryz.prog 75 #[stV vo vt,.int .u64 (objW (i:Int)),.int .i64 (n:Int)] w fun e w'=>e = .returned (.tuple #[.int .u64 (if v=18445336698825998340 then 18445336698825998336 else v),.bool (if v=18445336698825998340 then false else true)])∧Below w.heap.size w w':=by
 obtain⟨wb,hwb⟩:∃wb,wb=w.alloc (.cells #[vo.val,vt.val] 28):=⟨_,rfl⟩
 have hB:Below w.heap.size w wb:=by rw[hwb];exact(Below.refl _ _).alloc (Nat.le_refl _) _
 have hbx:BxS wb w.heap.size vo vt:=by rw[hwb];exact BxS.new w vo vt
 have hil:i<S.length:=(List.getElem?_eq_some_iff.1 hi).1
 have hnl:n<x.el.length:=(List.getElem?_eq_some_iff.1 hv).1
 have kl:=rlen_hit (h.below hB) vt hi
 have HA:Hid (∀W,Below wb.heap.size wb W→Calls Tryz.prog 20 #[stV vo vt,.int .u64 (objW (i:Int))] W fun e w'=>e = .returned (.int .i64 (i:Int))∧Below W.heap.size W w'):=fun W r=>rat_any ((h.below hB).below r) vt hil
 obtain⟨g,cap,q,hvo,hq,t1,hgl,hcell,hfz,hl1,hl2,hrow⟩:=(h.below hB).obj hi
 obtain⟨ad5,cap5,hve,hel⟩:=(h.below hB).elen hi hq
 have hr:RowIn wC 1 33 B wb (fun b=>tg b=2+4*i+2) q.ve x.el:=(h.below hB).ob i x q 2 hi hq (by omega)
 obtain⟨_,hlc,hcm,q4⟩:=hr.open rtW.len
 obtain⟨ge,e1,_,hgel,_,hce,_⟩:=q4 (by intro e;rw[e] at hnl;simp at hnl)
 rw[hve] at e1 hlc hcm
 simp only at e1 hlc hcm
 subst e1
 have hvc:=hce n v hv 0 _ rfl
 simp only[Nat.mul_one,Nat.add_zero] at hvc
 have hbig:=h.big
 have HN:Hid (∀W,Below wb.heap.size wb W→W.cell? ⟨w.heap.size,0,none⟩=some vo.val∧W.cell? ⟨w.heap.size,1,none⟩=some vt.val∧W.cell? ⟨g,i*7+5,none⟩=some (.slice (some ⟨ge,0,none⟩) x.el.length cap5)∧W.cell? ⟨ge,n,none⟩=some (.int .u64 v)∧Below w.heap.size w W):=fun W r=>⟨(hbx.below r).ce.1,(hbx.below r).ce.2,cells_below r _ _ (hcell 5 _ (by rw[show(soC (x,q))[5]?=some q.ve.val from rfl,hve];rfl)),cells_below r _ _ hvc,hB.trans (r.mono hB.size)⟩
 have hii:(i:Int)<(S.length:Int):=by omega
 have hsl:(S.length:Int)≤65536:=by omega
 obtain⟨b0,b1⟩:=hbx.ce
 have h0i:(0:Int)≤(i:Int):=by omega
 have c1:decide ((n:Int)<0)=false:=decide_eq_false (by omega)
 have c2:decide ((x.el.length:Int)≤(n:Int))=false:=decide_eq_false (by omega)
 have hn3:(n:Int)<(x.el.length:Int):=by omega
 have hel3:(x.el.length:Int)≤9223372036854775807:=by unfold maxLen at hel;omega
 have HV:Hid ((v=18445336698825998340→(if v=18445336698825998340 then 18445336698825998336 else v)=18445336698825998336∧(if v=18445336698825998340 then false else true)=false)∧(¬v=18445336698825998340→(if v=18445336698825998340 then 18445336698825998336 else v)=v∧(if v=18445336698825998340 then false else true)=true)):=⟨fun e=>⟨if_pos e,if_pos e⟩,fun e=>⟨if_neg e,if_neg e⟩⟩
 generalize (if v=18445336698825998340 then 18445336698825998336 else v)=rv at *
 generalize (if v=18445336698825998340 then false else true)=rb at *
 subst hvo
 unfold stV SV.val at *
 simp only at *
 generalize objW (i:Int)=o at *
 generalize x.el.length=ln at *
 clear h hB hbx hi hq t1 hgl hcell hfz hrow hve hel hr q4 hce hvc hv hlc hcm hgel
 go_enter Tryz.func75,Tryz.ntmps75
 go_upto_region 1 with fail
 rw[←hwb]
 clear hwb
 go_wp2_with fail
 refine kl.mono ?_
 rintro e w2 ⟨rfl,hB2⟩
 obtain⟨b0,b1,c5,cv,hbel⟩:=HN.out w2 hB2
 have HB2:Hid (Below wb.heap.size wb w2):=hB2
 have ka:=HA.out w2.drew hB2.drew
 clear kl hB2 hbel
 go_upto_region 3 with fail
 go_region_with ((go_at_call 20;refine ka.mono ?_;rintro e w3 ⟨rfl,hB3⟩;have HX:=(show Hid _ from HN.out w3 (bel_dr HB2.out hB3));obtain⟨b0,b1,c5,cv,_⟩:=HX.out;clear hB3))
 all_goals
  by_cases ch:v=18445336698825998340
  ·subst ch
   have HE:Hid (Below w.heap.size w w3):=HX.out.2.2.2.2
   clear HX HN HA HB2
   have HG:=(show Hid _ from HV.out.1 rfl)
   clear HV
   go_wp2_with fail
   go_ret2
   rw[HG.out.1,HG.out.2]
   exact⟨rfl,HE.out⟩
  ·have c9:(v == 18445336698825998340)=false:=by simpa using ch
   have HE:Hid (Below w.heap.size w w3):=HX.out.2.2.2.2
   clear HX HN HA HB2
   have HG:=(show Hid _ from HV.out.2 ch)
   clear HV
   go_wp2_with fail
   go_ret2
   rw[HG.out.1,HG.out.2]
   exact⟨rfl,HE.out⟩
end
def ixF:List UInt8→Nat→Option Nat
 | [],n=>some n
 | c :: l,n=>if 48≤c.toNat∧c.toNat≤57 then (if 4096≤n*10+(c.toNat - 48) then none else ixF l (n*10+(c.toNat - 48))) else none
def rxF:List UInt8→Nat→Option Nat
 | [],n=>some n
 | c :: l,n=>if 48≤c.toNat∧c.toNat≤57 then rxF l (n*10+(c.toNat - 48)) else none
def noughtB (k:ByteArray):Bool:=match k.data.toList with
 | c :: _ :: _=>decide (c=48)
 | _=>false
def ixI (k:ByteArray):Option Nat:=if k.size=0∨noughtB k=true then none else ixF k.data.toList 0
def rxI (k:ByteArray):Option Nat:=if k.size=0∨4<k.size∨noughtB k=true then none else (rxF k.data.toList 0).filter (fun n=>decide (n<4096))
theorem rx_ge:∀(l:List UInt8)(n r:Nat),rxF l n=some r→n*10 ^ l.length≤r
 | [],n,r,h=>by
   simp only[rxF,Option.some.injEq] at h
   simp[h]
 | c :: l,n,r,h=>by
   unfold rxF at h
   split at h
   ·have:=rx_ge l _ r h
    refine Nat.le_trans ?_ this
    rw[List.length_cons,Nat.pow_succ,←Nat.mul_assoc,Nat.mul_right_comm]
    exact Nat.mul_le_mul_right _ (Nat.le_add_right _ _)
   ·cases h
theorem rx_ge1 (l:List UInt8)(n r:Nat)(h:rxF l n=some r):n≤r:=by
 have h1:=rx_ge l n r h
 have h2:1≤10 ^ l.length:=Nat.pow_pos (by omega)
 have h3:=Nat.mul_le_mul_left n h2
 omega
theorem ix_rx:∀(l:List UInt8)(n:Nat),n<4096→ixF l n=(rxF l n).filter (fun n=>decide (n<4096))
 | [],n,h=>by simp[ixF,rxF,Option.filter,h]
 | c :: l,n,h=>by
   unfold ixF rxF
   split
   ·split
    ·rename_i q
     cases hr:rxF l (n*10+(c.toNat - 48)) with
     | none=>rfl
     | some r =>
       have:=rx_ge1 _ _ _ hr
       simp only[Option.filter]
       rw[if_neg]
       simp
       omega
    ·rename_i q
     exact ix_rx l _ (by omega)
   ·rfl
theorem ix_same (k:ByteArray):ixI k=rxI k:=by
 unfold ixI rxI
 by_cases h0:k.size=0∨noughtB k=true
 ·rw[if_pos h0,if_pos (by rcases h0 with q | q;exact Or.inl q;exact Or.inr (Or.inr q))]
 ·rw[if_neg h0]
  have e0:k.size≠0:=fun q=>h0 (Or.inl q)
  have e1:noughtB k≠true:=fun q=>h0 (Or.inr q)
  by_cases h4:4<k.size
  ·rw[if_pos (Or.inr (Or.inl h4)),ix_rx _ _ (by omega)]
   have hl:k.data.toList.length=k.size:=Array.length_toList
   unfold noughtB at e1
   cases hd:k.data.toList with
   | nil=>rw[hd] at hl;simp at hl;omega
   | cons c l =>
     rw[hd] at hl e1
     cases l with
     | nil=>simp at hl;omega
     | cons c2 l2 =>
       simp only at e1
       cases hr:rxF (c :: c2 :: l2) 0 with
       | none=>rfl
       | some r =>
         simp only[Option.filter]
         rw[if_neg]
         unfold rxF at hr
         split at hr
         ·rename_i q
          have hc:c.toNat≠48:=fun q2=>e1 (decide_eq_true (by apply UInt8.toNat_inj.1;rw[q2];rfl))
          have h5:=rx_ge _ _ _ hr
          simp only[List.length_cons] at hl h5
          have h6:10 ^ 4≤10 ^ (l2.length+1):=Nat.pow_le_pow_right (by omega) (by omega)
          have h7:1*10 ^ (l2.length+1)≤(0*10+(c.toNat - 48))*10 ^ (l2.length+1):=Nat.mul_le_mul_right _ (by omega)
          simp
          omega
         ·cases hr
  ·rw[if_neg (by intro q;rcases q with q | q | q;exact e0 q;exact h4 q;exact e1 q),ix_rx _ _ (by omega)]
def dgF:Nat→Nat→List UInt8
 | 0,n=>[UInt8.ofNat (48+n % 10)]
 | f+1,n=>if n<10 then [UInt8.ofNat (48+n)] else dgF f (n / 10)++[UInt8.ofNat (48+n % 10)]
def dgI (n:Nat):ByteArray:=⟨(dgF 4 n).toArray⟩
theorem ofn (d:Nat)(h:d<10):(UInt8.ofNat (48+d)).toNat=48+d:=by
 rw[UInt8.toNat_ofNat']
 omega
theorem drop_ix (s:ByteArray)(k:Nat)(h:k<s.size):s.data.toList.drop k=s[k] :: s.data.toList.drop (k+1):=by
 have hl:k<s.data.toList.length:=by rw[Array.length_toList];exact h
 rw[List.drop_eq_getElem_cons hl]
 rfl
theorem nought_ix (s:ByteArray)(h:1<s.size):noughtB s=decide (s[0]'(by omega)=48):=by
 unfold noughtB
 have h0:=drop_ix s 0 (by omega)
 have h1:=drop_ix s 1 h
 rw[List.drop_zero] at h0
 rw[h0,h1]
theorem nought_one (s:ByteArray)(h:¬1<s.size):noughtB s=false:=by
 unfold noughtB
 have hl:s.data.toList.length=s.size:=Array.length_toList
 cases hd:s.data.toList with
 | nil=>rfl
 | cons c l =>
   cases l with
   | nil=>rfl
   | cons c2 l2 =>
     rw[hd] at hl
     simp at hl
     omega
section
variable {s:ByteArray}{k n:Nat}(h:k<s.size)(e:ixI s=ixF (s.data.toList.drop k) n)
theorem ix_no (h:k<s.size)(e:ixI s=ixF (s.data.toList.drop k) n)(d:¬(48≤(s[k]).toNat∧(s[k]).toNat≤57)):ixI s=none:=by
 rw[e,drop_ix s k h]
 unfold ixF
 rw[if_neg d]
theorem ix_big (h:k<s.size)(e:ixI s=ixF (s.data.toList.drop k) n)(d:48≤(s[k]).toNat∧(s[k]).toNat≤57)(g:4096≤n*10+((s[k]).toNat - 48)):ixI s=none:=by
 rw[e,drop_ix s k h]
 unfold ixF
 rw[if_pos d,if_pos g]
theorem ix_next (h:k<s.size)(e:ixI s=ixF (s.data.toList.drop k) n)(d:48≤(s[k]).toNat∧(s[k]).toNat≤57)(g:¬4096≤n*10+((s[k]).toNat - 48)):ixI s=ixF (s.data.toList.drop (k+1)) (n*10+((s[k]).toNat - 48)):=by
 rw[e,drop_ix s k h]
 conv=>lhs;unfold ixF
 rw[if_pos d,if_neg g]
end
theorem index_any (s:ByteArray)(w:World)(hs:s.size≤maxLen) :
  Calls Tryz.prog 81 #[.string s] w fun e w'=>e = .returned (.tuple #[.int .i64 (((ixI s).getD 0:Nat):Int),.bool (ixI s).isSome])∧w'=w:=by
 have hlim:(s.size:Int)≤9223372036854775807:=by unfold maxLen at hs;omega
 by_cases c0:s.size=0
 ·have hi:ixI s=none:=by unfold ixI;rw[if_pos (Or.inl c0)]
  rw[hi]
  have he:s=⟨#[]⟩:=by
   obtain⟨d⟩:=s
   have:d.size=0:=c0
   rw[Array.eq_empty_of_size_eq_zero this]
  subst he
  clear hs hlim c0 hi
  go_enter Tryz.func81,Tryz.ntmps81
  go_wp2
  go_ret2
  exact⟨rfl,rfl⟩
 ·have hne:s.toList.isEmpty=false:=by
   have h:=Sp.bytes_no (a:=s) (b:=⟨#[]⟩) (fun q=>c0 (by rw[q];rfl))
   have e:ByteArray.toList ⟨#[]⟩=[]:=by first | decide +kernel | simp | (rw[ByteArray.toList];unfold ByteArray.toList.loop;simp)
   rw[e] at h
   cases hq:s.toList with
   | nil=>rw[hq] at h;cases h
   | cons=>rfl
  have hp:0<s.size:=by omega
  by_cases c1:1<s.size
  ·have d1:decide ((1:Int)<(s.size:Int))=true:=decide_eq_true (by omega)
   have d2:(1:Int)<(s.size:Int):=by omega
   have hno:=nought_ix s c1
   by_cases c48:s[0]'(by omega)=48
   ·have hi:ixI s=none:=by unfold ixI;rw[if_pos (Or.inr (by rw[hno,decide_eq_true c48]))]
    rw[hi]
    have e48:(((s[0]'(by omega)).toNat:Int) == 48)=true:=by rw[c48];rfl
    clear hno hi c48
    go_enter Tryz.func81,Tryz.ntmps81
    go_wp2_with fail
    go_ret2
    exact⟨rfl,rfl⟩
   ·have hn0:(s[0]'(by omega)).toNat≠48:=fun q=>c48 (by apply UInt8.toNat_inj.1;rw[q];rfl)
    have e48:(((s[0]'(by omega)).toNat:Int) == 48)=false:=by rw[beq_eq_false_iff_ne];omega
    have HI:Hid (ixI s=ixF (s.data.toList.drop 0) 0):=by
     show ixI s=_
     unfold ixI
     rw[if_neg (by intro q;rcases q with q | q;exact c0 q;rw[hno,decide_eq_false c48] at q;cases q),List.drop_zero]
    clear hno c48
    go_enter Tryz.func81,Tryz.ntmps81
    go_wp2_with fail
    go_loop [21,4] (fun p q=>∃(k n:Nat),k≤s.size∧n<4096∧Hid (ixI s=ixF (s.data.toList.drop k) n)∧p = .int .i64 (k:Int)∧q = .int .i64 (n:Int)) (fun p q=>((s.size:Int) - intOf p).toNat)
    case atStart=>exact⟨0,0,Nat.zero_le _,by omega,HI,rfl,rfl⟩
    case round =>
     clear HI
     obtain⟨k,n,hk,hn,HK,rfl,rfl⟩:=hrel
     by_cases c:k<s.size
     ·have hd:=drop_ix s k c
      have hkk:(k:Int)<(s.size:Int):=by omega
      have hub:=(s[k]).toNat_lt
      have HCK:Hid (k<s.size):=c
      by_cases d:48≤(s[k]).toNat∧(s[k]).toNat≤57
      ·have hd9:(((s[k]).toNat:Int) - 48) % 256≤9:=by omega
       have HE:Hid ((((s[k]).toNat:Int) - 48) % 256=(((s[k]).toNat - 48:Nat):Int)):=by show _=_;omega
       clear hub hd
       by_cases g:4096≤n*10+((s[k]).toNat - 48)
       ·have HY:Hid (ixI s=none):=ix_big c HK.out d g
        have hg2:(4096:Int)≤(n:Int)*10+(((s[k]).toNat:Int) - 48) % 256:=by rw[HE.out];omega
        clear g HE d HK
        go_wp2_with fail
        go_ret2
        rw[HY.out]
        exact⟨rfl,rfl⟩
       ·have HY:Hid (ixI s=ixF (s.data.toList.drop (k+1)) (n*10+((s[k]).toNat - 48))∧n*10+((s[k]).toNat - 48)<4096):=⟨ix_next c HK.out d g,by omega⟩
        have hg2:(n:Int)*10+(((s[k]).toNat:Int) - 48) % 256<4096:=by rw[HE.out];omega
        clear g d HK
        go_wp2_with fail
        refine⟨⟨k+1,n*10+((s[k]).toNat - 48),by have:=HCK.out;omega,HY.out.2,HY.out.1,by go_num,by exact congrArg (Value.int .i64) ((congrArg (fun z=>(n:Int)*10+z) HE.out).trans (by omega))⟩,?_⟩
        have:=HCK.out
        simp[intOf]
        omega
      ·have HY:Hid (ixI s=none):=ix_no c HK.out d
       have hd9:(9:Int)<(((s[k]).toNat:Int) - 48) % 256:=by omega
       clear hd HK d hub
       go_wp2_with fail
       go_ret2
       rw[HY.out]
       exact⟨rfl,rfl⟩
     ·have hkk:¬((k:Int)<(s.size:Int)):=by omega
      have HY:Hid (ixI s=some n):=by
       have:=HK.out
       rw[List.drop_of_length_le (by rw[Array.length_toList];exact(by omega:s.size≤k))] at this
       exact this
      clear HK
      go_wp2_with fail
      go_ret2
      rw[HY.out]
      exact⟨rfl,rfl⟩
  ·have d1:decide ((1:Int)<(s.size:Int))=false:=decide_eq_false (by omega)
   have HI:Hid (ixI s=ixF (s.data.toList.drop 0) 0):=by
    show ixI s=_
    unfold ixI
    rw[if_neg (by intro q;rcases q with q | q;exact c0 q;rw[nought_one s c1] at q;cases q),List.drop_zero]
   go_enter Tryz.func81,Tryz.ntmps81
   go_wp2_with fail
   go_loop [21,4] (fun p q=>∃(k n:Nat),k≤s.size∧n<4096∧Hid (ixI s=ixF (s.data.toList.drop k) n)∧p = .int .i64 (k:Int)∧q = .int .i64 (n:Int)) (fun p q=>((s.size:Int) - intOf p).toNat)
   case atStart=>exact⟨0,0,Nat.zero_le _,by omega,HI,rfl,rfl⟩
   case round =>
    clear HI
    obtain⟨k,n,hk,hn,HK,rfl,rfl⟩:=hrel
    by_cases c:k<s.size
    ·have hd:=drop_ix s k c
     have hkk:(k:Int)<(s.size:Int):=by omega
     have hub:=(s[k]).toNat_lt
     have HCK:Hid (k<s.size):=c
     by_cases d:48≤(s[k]).toNat∧(s[k]).toNat≤57
     ·have hd9:(((s[k]).toNat:Int) - 48) % 256≤9:=by omega
      have HE:Hid ((((s[k]).toNat:Int) - 48) % 256=(((s[k]).toNat - 48:Nat):Int)):=by show _=_;omega
      clear hub hd
      by_cases g:4096≤n*10+((s[k]).toNat - 48)
      ·have HY:Hid (ixI s=none):=ix_big c HK.out d g
       have hg2:(4096:Int)≤(n:Int)*10+(((s[k]).toNat:Int) - 48) % 256:=by rw[HE.out];omega
       clear g HE d HK
       go_wp2_with fail
       go_ret2
       rw[HY.out]
       exact⟨rfl,rfl⟩
      ·have HY:Hid (ixI s=ixF (s.data.toList.drop (k+1)) (n*10+((s[k]).toNat - 48))∧n*10+((s[k]).toNat - 48)<4096):=⟨ix_next c HK.out d g,by omega⟩
       have hg2:(n:Int)*10+(((s[k]).toNat:Int) - 48) % 256<4096:=by rw[HE.out];omega
       clear g d HK
       go_wp2_with fail
       refine⟨⟨k+1,n*10+((s[k]).toNat - 48),by have:=HCK.out;omega,HY.out.2,HY.out.1,by go_num,by exact congrArg (Value.int .i64) ((congrArg (fun z=>(n:Int)*10+z) HE.out).trans (by omega))⟩,?_⟩
       have:=HCK.out
       simp[intOf]
       omega
     ·have HY:Hid (ixI s=none):=ix_no c HK.out d
      have hd9:(9:Int)<(((s[k]).toNat:Int) - 48) % 256:=by omega
      clear hd HK d hub
      go_wp2_with fail
      go_ret2
      rw[HY.out]
      exact⟨rfl,rfl⟩
    ·have hkk:¬((k:Int)<(s.size:Int)):=by omega
     have HY:Hid (ixI s=some n):=by
      have:=HK.out
      rw[List.drop_of_length_le (by rw[Array.length_toList];exact(by omega:s.size≤k))] at this
      exact this
     clear HK
     go_wp2_with fail
     go_ret2
     rw[HY.out]
     exact⟨rfl,rfl⟩
end Go.Proofs.YtahhionlbfhinaaGreatDoor.Hp
