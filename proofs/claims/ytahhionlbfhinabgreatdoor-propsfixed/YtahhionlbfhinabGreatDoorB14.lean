/- KP, KE, KF, KH, MH, LH, KI -/
import Derived.Test.YtahhionlbfhinabGreatDoorB6
import Derived.Test.YtahhionlbfhinabGreatDoorB1
import Derived.Test.YtahhionlbfhinabGreatDoorB2
import Derived.Test.YtahhionlbfhinabGreatDoorB11
import Derived.Test.YtahhionlbfhinabGreatDoorB13
set_option linter.unusedVariables false
set_option linter.unusedSimpArgs false
set_option maxRecDepth 100000
set_option maxHeartbeats 40000000
namespace Go.Proofs.YtahhionlbfhinabGreatDoor.Hp
open Go.RowKit
def ixF:List UInt8→Nat→Option Nat
 | [],n=>some n
 | c :: l,n=>if 48≤c.toNat∧c.toNat≤57 then (if 4096≤n*10+(c.toNat - 48) then none else ixF l (n*10+(c.toNat - 48))) else none
def rxF:List UInt8→Nat→Option Nat
 | [],n=>some n
 | c :: l,n=>if 48≤c.toNat∧c.toNat≤57 then rxF l (n*10+(c.toNat - 48)) else none
def noughtB (k:ByteArray):Bool:=match k.data.toList with
 | c :: _ :: _=>decide (c=48)
 | _=>false
def ixI (k:ByteArray):Option Nat:=if k.size=0∨noughtB k=true then none else ixF k.data.toList 0
def rxI (k:ByteArray):Option Nat:=if k.size=0∨4<k.size∨noughtB k=true then none else (rxF k.data.toList 0).filter (fun n=>decide (n<4096))
theorem rx_ge:∀(l:List UInt8)(n r:Nat),rxF l n=some r→n*10 ^ l.length≤r
 | [],n,r,h=>by
   simp only[rxF,Option.some.injEq] at h
   simp[h]
 | c :: l,n,r,h=>by
   unfold rxF at h
   split at h
   ·have:=rx_ge l _ r h
    refine Nat.le_trans ?_ this
    rw[List.length_cons,Nat.pow_succ,←Nat.mul_assoc,Nat.mul_right_comm]
    exact Nat.mul_le_mul_right _ (Nat.le_add_right _ _)
   ·cases h
theorem rx_ge1 (l:List UInt8)(n r:Nat)(h:rxF l n=some r):n≤r:=by
 have h1:=rx_ge l n r h
 have h2:1≤10 ^ l.length:=Nat.pow_pos (by omega)
 have h3:=Nat.mul_le_mul_left n h2
 omega
theorem ix_rx:∀(l:List UInt8)(n:Nat),n<4096→ixF l n=(rxF l n).filter (fun n=>decide (n<4096))
 | [],n,h=>by simp[ixF,rxF,Option.filter,h]
 | c :: l,n,h=>by
   unfold ixF rxF
   split
   ·split
    ·rename_i q
     cases hr:rxF l (n*10+(c.toNat - 48)) with
     | none=>rfl
     | some r =>
       have:=rx_ge1 _ _ _ hr
       simp only[Option.filter]
       rw[if_neg]
       simp
       omega
    ·rename_i q
     exact ix_rx l _ (by omega)
   ·rfl
theorem ix_same (k:ByteArray):ixI k=rxI k:=by
 unfold ixI rxI
 by_cases h0:k.size=0∨noughtB k=true
 ·rw[if_pos h0,if_pos (by rcases h0 with q | q;exact Or.inl q;exact Or.inr (Or.inr q))]
 ·rw[if_neg h0]
  have e0:k.size≠0:=fun q=>h0 (Or.inl q)
  have e1:noughtB k≠true:=fun q=>h0 (Or.inr q)
  by_cases h4:4<k.size
  ·rw[if_pos (Or.inr (Or.inl h4)),ix_rx _ _ (by omega)]
   have hl:k.data.toList.length=k.size:=Array.length_toList
   unfold noughtB at e1
   cases hd:k.data.toList with
   | nil=>rw[hd] at hl;simp at hl;omega
   | cons c l =>
     rw[hd] at hl e1
     cases l with
     | nil=>simp at hl;omega
     | cons c2 l2 =>
       simp only at e1
       cases hr:rxF (c :: c2 :: l2) 0 with
       | none=>rfl
       | some r =>
         simp only[Option.filter]
         rw[if_neg]
         unfold rxF at hr
         split at hr
         ·rename_i q
          have hc:c.toNat≠48:=fun q2=>e1 (decide_eq_true (by apply UInt8.toNat_inj.1;rw[q2];rfl))
          have h5:=rx_ge _ _ _ hr
          simp only[List.length_cons] at hl h5
          have h6:10 ^ 4≤10 ^ (l2.length+1):=Nat.pow_le_pow_right (by omega) (by omega)
          have h7:1*10 ^ (l2.length+1)≤(0*10+(c.toNat - 48))*10 ^ (l2.length+1):=Nat.mul_le_mul_right _ (by omega)
          simp
          omega
         ·cases hr
  ·rw[if_neg (by intro q;rcases q with q | q | q;exact e0 q;exact h4 q;exact e1 q),ix_rx _ _ (by omega)]
def dgF:Nat→Nat→List UInt8
 | 0,n=>[UInt8.ofNat (48+n % 10)]
 | f+1,n=>if n<10 then [UInt8.ofNat (48+n)] else dgF f (n / 10)++[UInt8.ofNat (48+n % 10)]
def dgI (n:Nat):ByteArray:=⟨(dgF 4 n).toArray⟩
theorem rx_app:∀(l m:List UInt8)(n:Nat),rxF (l++m) n=(rxF l n).bind (rxF m)
 | [],m,n=>by simp[rxF]
 | c :: l,m,n=>by
   rw[List.cons_append]
   unfold rxF
   split
   ·exact rx_app l m _
   ·rfl
theorem ofn (d:Nat)(h:d<10):(UInt8.ofNat (48+d)).toNat=48+d:=by
 rw[UInt8.toNat_ofNat']
 omega
theorem rx_one (d n:Nat)(h:d<10):rxF [UInt8.ofNat (48+d)] n=some (n*10+d):=by
 unfold rxF rxF
 rw[ofn d h,if_pos (by omega)]
 congr 1
 omega
theorem dg_rx:∀(f n:Nat),n<10 ^ (f+1)→rxF (dgF f n) 0=some n
 | 0,n,h=>by
   have h:n<10:=by simpa using h
   unfold dgF
   rw[Nat.mod_eq_of_lt h,rx_one n 0 h]
   simp
 | f+1,n,h=>by
   unfold dgF
   split
   ·rename_i q
    rw[rx_one n 0 q]
    simp
   ·have h1:n / 10<10 ^ (f+1):=by
     rw[Nat.pow_succ] at h
     exact Nat.div_lt_of_lt_mul (by omega)
    rw[rx_app,dg_rx f _ h1]
    show rxF _ (n / 10)=_
    rw[rx_one _ _ (Nat.mod_lt _ (by omega))]
    congr 1
    omega
theorem dg_head:∀(f n:Nat),1≤n→n<10 ^ (f+1)→∃c l,dgF f n=c :: l∧c.toNat≠48
 | 0,n,h1,h=>by
   have h:n<10:=by simpa using h
   refine⟨_,_,rfl,?_⟩
   rw[Nat.mod_eq_of_lt h,ofn n h]
   omega
 | f+1,n,h1,h=>by
   unfold dgF
   split
   ·rename_i q
    refine⟨_,_,rfl,?_⟩
    rw[ofn n q]
    omega
   ·have h2:n / 10<10 ^ (f+1):=by
     rw[Nat.pow_succ] at h
     exact Nat.div_lt_of_lt_mul (by omega)
    obtain⟨c,l,e,hc⟩:=dg_head f (n / 10) (by omega) h2
    exact⟨c,l++[UInt8.ofNat (48+n % 10)],by rw[e];rfl,hc⟩
theorem dg_ix (n:Nat)(h:n<4096):ixI (dgI n)=some n:=by
 have hr:=dg_rx 4 n (by omega)
 have hs:(dgI n).data.toList=dgF 4 n:=by simp[dgI]
 unfold ixI
 rw[if_neg]
 ·rw[hs,ix_rx _ _ (by omega),hr]
  simp[Option.filter,h]
 ·rintro(q | q)
  ·have:(dgF 4 n).length=0:=by rw[←hs,Array.length_toList];exact q
   rw[List.eq_nil_of_length_eq_zero this] at hr
   by_cases c:n=0
   ·subst c
    simp[dgF] at this
   ·simp[rxF] at hr
    omega
  ·unfold noughtB at q
   rw[hs] at q
   by_cases c:n=0
   ·subst c
    simp[dgF] at q
   ·obtain⟨c,l,e,hc⟩:=dg_head 4 n (by omega) (by omega)
    rw[e] at q
    cases l with
    | nil=>simp at q
    | cons c2 l2 =>
      simp only[decide_eq_true_eq] at q
      exact hc (by rw[q];rfl)
theorem drop_ix (s:ByteArray)(k:Nat)(h:k<s.size):s.data.toList.drop k=s[k] :: s.data.toList.drop (k+1):=by
 have hl:k<s.data.toList.length:=by rw[Array.length_toList];exact h
 rw[List.drop_eq_getElem_cons hl]
 rfl
theorem nought_ix (s:ByteArray)(h:1<s.size):noughtB s=decide (s[0]'(by omega)=48):=by
 unfold noughtB
 have h0:=drop_ix s 0 (by omega)
 have h1:=drop_ix s 1 h
 rw[List.drop_zero] at h0
 rw[h0,h1]
theorem nought_one (s:ByteArray)(h:¬1<s.size):noughtB s=false:=by
 unfold noughtB
 have hl:s.data.toList.length=s.size:=Array.length_toList
 cases hd:s.data.toList with
 | nil=>rfl
 | cons c l =>
   cases l with
   | nil=>rfl
   | cons c2 l2 =>
     rw[hd] at hl
     simp at hl
     omega
section
variable {s:ByteArray}{k n:Nat}(h:k<s.size)(e:ixI s=ixF (s.data.toList.drop k) n)
theorem ix_no (h:k<s.size)(e:ixI s=ixF (s.data.toList.drop k) n)(d:¬(48≤(s[k]).toNat∧(s[k]).toNat≤57)):ixI s=none:=by
 rw[e,drop_ix s k h]
 unfold ixF
 rw[if_neg d]
theorem ix_big (h:k<s.size)(e:ixI s=ixF (s.data.toList.drop k) n)(d:48≤(s[k]).toNat∧(s[k]).toNat≤57)(g:4096≤n*10+((s[k]).toNat - 48)):ixI s=none:=by
 rw[e,drop_ix s k h]
 unfold ixF
 rw[if_pos d,if_pos g]
theorem ix_next (h:k<s.size)(e:ixI s=ixF (s.data.toList.drop k) n)(d:48≤(s[k]).toNat∧(s[k]).toNat≤57)(g:¬4096≤n*10+((s[k]).toNat - 48)):ixI s=ixF (s.data.toList.drop (k+1)) (n*10+((s[k]).toNat - 48)):=by
 rw[e,drop_ix s k h]
 conv=>lhs;unfold ixF
 rw[if_pos d,if_neg g]
end
theorem index_any (s:ByteArray)(w:World)(hs:s.size≤maxLen) :
  Calls Tryz.prog 58 #[.string s] w fun e w'=>e = .returned (.tuple #[.int .i64 (((ixI s).getD 0:Nat):Int),.bool (ixI s).isSome])∧w'=w:=by
 have hlim:(s.size:Int)≤9223372036854775807:=by unfold maxLen at hs;omega
 by_cases c0:s.size=0
 ·have hi:ixI s=none:=by unfold ixI;rw[if_pos (Or.inl c0)]
  rw[hi]
  have he:s=⟨#[]⟩:=by
   obtain⟨d⟩:=s
   have:d.size=0:=c0
   rw[Array.eq_empty_of_size_eq_zero this]
  subst he
  clear hs hlim c0 hi
  go_enter Tryz.func58,Tryz.ntmps58
  go_wp2
  go_ret2
  exact⟨rfl,rfl⟩
 ·have hne:s.toList.isEmpty=false:=by
   have h:=Sp.bytes_no (a:=s) (b:=⟨#[]⟩) (fun q=>c0 (by rw[q];rfl))
   have e:ByteArray.toList ⟨#[]⟩=[]:=by first | decide +kernel | simp | (rw[ByteArray.toList];unfold ByteArray.toList.loop;simp)
   rw[e] at h
   cases hq:s.toList with
   | nil=>rw[hq] at h;cases h
   | cons=>rfl
  have hp:0<s.size:=by omega
  by_cases c1:1<s.size
  ·have d1:decide ((1:Int)<(s.size:Int))=true:=decide_eq_true (by omega)
   have d2:(1:Int)<(s.size:Int):=by omega
   have hno:=nought_ix s c1
   by_cases c48:s[0]'(by omega)=48
   ·have hi:ixI s=none:=by unfold ixI;rw[if_pos (Or.inr (by rw[hno,decide_eq_true c48]))]
    rw[hi]
    have e48:(((s[0]'(by omega)).toNat:Int) == 48)=true:=by rw[c48];rfl
    clear hno hi c48
    go_enter Tryz.func58,Tryz.ntmps58
    go_wp2_with fail
    go_ret2
    exact⟨rfl,rfl⟩
   ·have hn0:(s[0]'(by omega)).toNat≠48:=fun q=>c48 (by apply UInt8.toNat_inj.1;rw[q];rfl)
    have e48:(((s[0]'(by omega)).toNat:Int) == 48)=false:=by rw[beq_eq_false_iff_ne];omega
    have HI:Hid (ixI s=ixF (s.data.toList.drop 0) 0):=by
     show ixI s=_
     unfold ixI
     rw[if_neg (by intro q;rcases q with q | q;exact c0 q;rw[hno,decide_eq_false c48] at q;cases q),List.drop_zero]
    clear hno c48
    go_enter Tryz.func58,Tryz.ntmps58
    go_wp2_with fail
    go_loop [21,4] (fun p q=>∃(k n:Nat),k≤s.size∧n<4096∧Hid (ixI s=ixF (s.data.toList.drop k) n)∧p = .int .i64 (k:Int)∧q = .int .i64 (n:Int)) (fun p q=>((s.size:Int) - intOf p).toNat)
    case atStart=>exact⟨0,0,Nat.zero_le _,by omega,HI,rfl,rfl⟩
    case round =>
     clear HI
     obtain⟨k,n,hk,hn,HK,rfl,rfl⟩:=hrel
     by_cases c:k<s.size
     ·have hd:=drop_ix s k c
      have hkk:(k:Int)<(s.size:Int):=by omega
      have hub:=(s[k]).toNat_lt
      have HCK:Hid (k<s.size):=c
      by_cases d:48≤(s[k]).toNat∧(s[k]).toNat≤57
      ·have hd9:(((s[k]).toNat:Int) - 48) % 256≤9:=by omega
       have HE:Hid ((((s[k]).toNat:Int) - 48) % 256=(((s[k]).toNat - 48:Nat):Int)):=by show _=_;omega
       clear hub hd
       by_cases g:4096≤n*10+((s[k]).toNat - 48)
       ·have HY:Hid (ixI s=none):=ix_big c HK.out d g
        have hg2:(4096:Int)≤(n:Int)*10+(((s[k]).toNat:Int) - 48) % 256:=by rw[HE.out];omega
        clear g HE d HK
        go_wp2_with fail
        go_ret2
        rw[HY.out]
        exact⟨rfl,rfl⟩
       ·have HY:Hid (ixI s=ixF (s.data.toList.drop (k+1)) (n*10+((s[k]).toNat - 48))∧n*10+((s[k]).toNat - 48)<4096):=⟨ix_next c HK.out d g,by omega⟩
        have hg2:(n:Int)*10+(((s[k]).toNat:Int) - 48) % 256<4096:=by rw[HE.out];omega
        clear g d HK
        go_wp2_with fail
        refine⟨⟨k+1,n*10+((s[k]).toNat - 48),by have:=HCK.out;omega,HY.out.2,HY.out.1,by go_num,by exact congrArg (Value.int .i64) ((congrArg (fun z=>(n:Int)*10+z) HE.out).trans (by omega))⟩,?_⟩
        have:=HCK.out
        simp[intOf]
        omega
      ·have HY:Hid (ixI s=none):=ix_no c HK.out d
       have hd9:(9:Int)<(((s[k]).toNat:Int) - 48) % 256:=by omega
       clear hd HK d hub
       go_wp2_with fail
       go_ret2
       rw[HY.out]
       exact⟨rfl,rfl⟩
     ·have hkk:¬((k:Int)<(s.size:Int)):=by omega
      have HY:Hid (ixI s=some n):=by
       have:=HK.out
       rw[List.drop_of_length_le (by rw[Array.length_toList];exact(by omega:s.size≤k))] at this
       exact this
      clear HK
      go_wp2_with fail
      go_ret2
      rw[HY.out]
      exact⟨rfl,rfl⟩
  ·have d1:decide ((1:Int)<(s.size:Int))=false:=decide_eq_false (by omega)
   have HI:Hid (ixI s=ixF (s.data.toList.drop 0) 0):=by
    show ixI s=_
    unfold ixI
    rw[if_neg (by intro q;rcases q with q | q;exact c0 q;rw[nought_one s c1] at q;cases q),List.drop_zero]
   go_enter Tryz.func58,Tryz.ntmps58
   go_wp2_with fail
   go_loop [21,4] (fun p q=>∃(k n:Nat),k≤s.size∧n<4096∧Hid (ixI s=ixF (s.data.toList.drop k) n)∧p = .int .i64 (k:Int)∧q = .int .i64 (n:Int)) (fun p q=>((s.size:Int) - intOf p).toNat)
   case atStart=>exact⟨0,0,Nat.zero_le _,by omega,HI,rfl,rfl⟩
   case round =>
    clear HI
    obtain⟨k,n,hk,hn,HK,rfl,rfl⟩:=hrel
    by_cases c:k<s.size
    ·have hd:=drop_ix s k c
     have hkk:(k:Int)<(s.size:Int):=by omega
     have hub:=(s[k]).toNat_lt
     have HCK:Hid (k<s.size):=c
     by_cases d:48≤(s[k]).toNat∧(s[k]).toNat≤57
     ·have hd9:(((s[k]).toNat:Int) - 48) % 256≤9:=by omega
      have HE:Hid ((((s[k]).toNat:Int) - 48) % 256=(((s[k]).toNat - 48:Nat):Int)):=by show _=_;omega
      clear hub hd
      by_cases g:4096≤n*10+((s[k]).toNat - 48)
      ·have HY:Hid (ixI s=none):=ix_big c HK.out d g
       have hg2:(4096:Int)≤(n:Int)*10+(((s[k]).toNat:Int) - 48) % 256:=by rw[HE.out];omega
       clear g HE d HK
       go_wp2_with fail
       go_ret2
       rw[HY.out]
       exact⟨rfl,rfl⟩
      ·have HY:Hid (ixI s=ixF (s.data.toList.drop (k+1)) (n*10+((s[k]).toNat - 48))∧n*10+((s[k]).toNat - 48)<4096):=⟨ix_next c HK.out d g,by omega⟩
       have hg2:(n:Int)*10+(((s[k]).toNat:Int) - 48) % 256<4096:=by rw[HE.out];omega
       clear g d HK
       go_wp2_with fail
       refine⟨⟨k+1,n*10+((s[k]).toNat - 48),by have:=HCK.out;omega,HY.out.2,HY.out.1,by go_num,by exact congrArg (Value.int .i64) ((congrArg (fun z=>(n:Int)*10+z) HE.out).trans (by omega))⟩,?_⟩
       have:=HCK.out
       simp[intOf]
       omega
     ·have HY:Hid (ixI s=none):=ix_no c HK.out d
      have hd9:(9:Int)<(((s[k]).toNat:Int) - 48) % 256:=by omega
      clear hd HK d hub
      go_wp2_with fail
      go_ret2
      rw[HY.out]
      exact⟨rfl,rfl⟩
    ·have hkk:¬((k:Int)<(s.size:Int)):=by omega
     have HY:Hid (ixI s=some n):=by
      have:=HK.out
      rw[List.drop_of_length_le (by rw[Array.length_toList];exact(by omega:s.size≤k))] at this
      exact this
     clear HK
     go_wp2_with fail
     go_ret2
     rw[HY.out]
     exact⟨rfl,rfl⟩
theorem rx_no {s:ByteArray}{k n:Nat}(h:k<s.size)(e:rxI s=(rxF (s.data.toList.drop k) n).filter (fun n=>decide (n<4096)))(d:¬(48≤(s[k]).toNat∧(s[k]).toNat≤57)):rxI s=none:=by
 rw[e,drop_ix s k h]
 unfold rxF
 rw[if_neg d]
 rfl
theorem rx_next {s:ByteArray}{k n:Nat}(h:k<s.size)(e:rxI s=(rxF (s.data.toList.drop k) n).filter (fun n=>decide (n<4096)))(d:48≤(s[k]).toNat∧(s[k]).toNat≤57):rxI s=(rxF (s.data.toList.drop (k+1)) (n*10+((s[k]).toNat - 48))).filter (fun n=>decide (n<4096)):=by
 rw[e,drop_ix s k h]
 conv=>lhs;unfold rxF
 rw[if_pos d]
theorem rx_end {s:ByteArray}{k n:Nat}(h:s.size≤k)(e:rxI s=(rxF (s.data.toList.drop k) n).filter (fun n=>decide (n<4096))):rxI s=if n<4096 then some n else none:=by
 rw[e,List.drop_of_length_le (by rw[Array.length_toList];exact h)]
 simp only[rxF,Option.filter]
 by_cases q:n<4096
 ·simp[q]
 ·simp[q]
theorem rindex_any (s:ByteArray)(w:World)(hs:s.size≤maxLen) :
  Calls Tryz.prog 68 #[.string s] w fun e w'=>e = .returned (.tuple #[.int .i64 (((rxI s).getD 0:Nat):Int),.bool (rxI s).isSome])∧w'=w:=by
 have hlim:(s.size:Int)≤9223372036854775807:=by unfold maxLen at hs;omega
 by_cases c0:s.size=0
 ·have hi:rxI s=none:=by unfold rxI;rw[if_pos (Or.inl c0)]
  rw[hi]
  have he:s=⟨#[]⟩:=by
   obtain⟨d⟩:=s
   have:d.size=0:=c0
   rw[Array.eq_empty_of_size_eq_zero this]
  subst he
  clear hs hlim c0 hi
  go_enter Tryz.func68,Tryz.ntmps68
  go_wp2
  go_ret2
  exact⟨rfl,rfl⟩
 ·have hne:s.toList.isEmpty=false:=by
   have h:=Sp.bytes_no (a:=s) (b:=⟨#[]⟩) (fun q=>c0 (by rw[q];rfl))
   have e:ByteArray.toList ⟨#[]⟩=[]:=by first | decide +kernel | simp | (rw[ByteArray.toList];unfold ByteArray.toList.loop;simp)
   rw[e] at h
   cases hq:s.toList with
   | nil=>rw[hq] at h;cases h
   | cons=>rfl
  have hp:0<s.size:=by omega
  by_cases c4:4<s.size
  ·have d1:decide ((4:Int)<(s.size:Int))=true:=decide_eq_true (by omega)
   have d2:(4:Int)<(s.size:Int):=by omega
   have hi:rxI s=none:=by unfold rxI;rw[if_pos (Or.inr (Or.inl c4))]
   rw[hi]
   clear hi
   go_enter Tryz.func68,Tryz.ntmps68
   go_wp2_with fail
   go_ret2
   exact⟨rfl,rfl⟩
  ·have d4:decide ((4:Int)<(s.size:Int))=false:=decide_eq_false (by omega)
   by_cases c1:1<s.size
   ·have d1:decide ((1:Int)<(s.size:Int))=true:=decide_eq_true (by omega)
    have d2:(1:Int)<(s.size:Int):=by omega
    have hno:=nought_ix s c1
    by_cases c48:s[0]'(by omega)=48
    ·have hi:rxI s=none:=by unfold rxI;rw[if_pos (Or.inr (Or.inr (by rw[hno,decide_eq_true c48])))]
     rw[hi]
     have e48:(((s[0]'(by omega)).toNat:Int) == 48)=true:=by rw[c48];rfl
     clear hno hi c48
     go_enter Tryz.func68,Tryz.ntmps68
     go_wp2_with fail
     go_ret2
     exact⟨rfl,rfl⟩
    ·have hn0:(s[0]'(by omega)).toNat≠48:=fun q=>c48 (by apply UInt8.toNat_inj.1;rw[q];rfl)
     have e48:(((s[0]'(by omega)).toNat:Int) == 48)=false:=by rw[beq_eq_false_iff_ne];omega
     have HI:Hid (rxI s=(rxF (s.data.toList.drop 0) 0).filter (fun n=>decide (n<4096))):=by
      show rxI s=_
      unfold rxI
      rw[if_neg (by intro q;rcases q with q | q | q;exact c0 q;exact c4 q;rw[hno,decide_eq_false c48] at q;cases q),List.drop_zero]
     clear hno c48
     go_enter Tryz.func68,Tryz.ntmps68
     go_wp2_with fail
     go_loop [5,4] (fun p q=>∃(k n:Nat),k≤s.size∧n<10 ^ k∧Hid (rxI s=(rxF (s.data.toList.drop k) n).filter (fun n=>decide (n<4096)))∧p = .int .i64 (k:Int)∧q = .int .i64 (n:Int)) (fun p q=>((s.size:Int) - intOf p).toNat)
     case atStart=>exact⟨0,0,Nat.zero_le _,by omega,HI,rfl,rfl⟩
     case round =>
      clear HI
      obtain⟨k,n,hk,hn,HK,rfl,rfl⟩:=hrel
      have hn4:n<10000:=Nat.lt_of_lt_of_le hn (by have:=Nat.pow_le_pow_right (n:=10) (by omega) (show k≤4 by omega);omega)
      by_cases c:k<s.size
      ·have hd:=drop_ix s k c
       have hkk:(k:Int)<(s.size:Int):=by omega
       have hub:=(s[k]).toNat_lt
       have HCK:Hid (k<s.size∧n<10 ^ k):=⟨c,hn⟩
       by_cases d:48≤(s[k]).toNat∧(s[k]).toNat≤57
       ·have hd1:(48:Int)≤((s[k]).toNat:Int):=by omega
        have hd2:((s[k]).toNat:Int)≤57:=by omega
        have hd3:decide (((s[k]).toNat:Int)<48)=false:=decide_eq_false (by omega)
        have hd4:decide ((57:Int)<((s[k]).toNat:Int))=false:=decide_eq_false (by omega)
        have HE:Hid (((s[k]).toNat:Int) - 48=(((s[k]).toNat - 48:Nat):Int)):=by show _=_;omega
        have HY:Hid (rxI s=(rxF (s.data.toList.drop (k+1)) (n*10+((s[k]).toNat - 48))).filter (fun n=>decide (n<4096))∧n*10+((s[k]).toNat - 48)<10 ^ (k+1)):=⟨rx_next c HK.out d,by rw[Nat.pow_succ];omega⟩
        clear d HK hd hn
        go_wp2_with fail
        refine⟨⟨k+1,n*10+((s[k]).toNat - 48),by have:=HCK.out.1;omega,HY.out.2,HY.out.1,by go_num,by exact congrArg (Value.int .i64) ((congrArg (fun z=>(n:Int)*10+z) HE.out).trans (by omega))⟩,?_⟩
        have:=HCK.out.1
        simp[intOf]
        omega
       ·have HY:Hid (rxI s=none):=rx_no c HK.out d
        by_cases d5:(s[k]).toNat<48
        ·have hd1:((s[k]).toNat:Int)<48:=by omega
         have hd3:decide (((s[k]).toNat:Int)<48)=true:=decide_eq_true hd1
         clear d HK hd hn d5
         go_wp2_with fail
         go_ret2
         rw[HY.out]
         exact⟨rfl,rfl⟩
        ·have hd1:(57:Int)<((s[k]).toNat:Int):=by omega
         have hd3:decide (((s[k]).toNat:Int)<48)=false:=decide_eq_false (by omega)
         have hd4:decide ((57:Int)<((s[k]).toNat:Int))=true:=decide_eq_true hd1
         clear d HK hd hn d5
         go_wp2_with fail
         go_ret2
         rw[HY.out]
         exact⟨rfl,rfl⟩
      ·have hkk:¬((k:Int)<(s.size:Int)):=by omega
       have hy:=rx_end (show s.size≤k by omega) HK.out
       by_cases q:n<4096
       ·have HY:Hid (rxI s=some n):=by show rxI s=_;rw[hy,if_pos q]
        have q1:(n:Int)<4096:=by omega
        clear hy HK hn q
        go_wp2_with fail
        go_ret2
        rw[HY.out]
        exact⟨rfl,rfl⟩
       ·have HY:Hid (rxI s=none):=by show rxI s=_;rw[hy,if_neg q]
        have q1:(4096:Int)≤(n:Int):=by omega
        clear hy HK hn q
        go_wp2_with fail
        go_ret2
        rw[HY.out]
        exact⟨rfl,rfl⟩
   ·have d1:decide ((1:Int)<(s.size:Int))=false:=decide_eq_false (by omega)
    have HI:Hid (rxI s=(rxF (s.data.toList.drop 0) 0).filter (fun n=>decide (n<4096))):=by
     show rxI s=_
     unfold rxI
     rw[if_neg (by intro q;rcases q with q | q | q;exact c0 q;exact c4 q;rw[nought_one s c1] at q;cases q),List.drop_zero]
    by_cases c48:((s[0]'(by omega)).toNat:Int)=48
    ·have e48:(((s[0]'(by omega)).toNat:Int) == 48)=true:=by simpa using c48
     go_enter Tryz.func68,Tryz.ntmps68
     go_wp2_with fail
     go_loop [5,4] (fun p q=>∃(k n:Nat),k≤s.size∧n<10 ^ k∧Hid (rxI s=(rxF (s.data.toList.drop k) n).filter (fun n=>decide (n<4096)))∧p = .int .i64 (k:Int)∧q = .int .i64 (n:Int)) (fun p q=>((s.size:Int) - intOf p).toNat)
     case atStart=>exact⟨0,0,Nat.zero_le _,by omega,HI,rfl,rfl⟩
     case round =>
      clear HI
      obtain⟨k,n,hk,hn,HK,rfl,rfl⟩:=hrel
      have hn4:n<10000:=Nat.lt_of_lt_of_le hn (by have:=Nat.pow_le_pow_right (n:=10) (by omega) (show k≤4 by omega);omega)
      by_cases c:k<s.size
      ·have hd:=drop_ix s k c
       have hkk:(k:Int)<(s.size:Int):=by omega
       have hub:=(s[k]).toNat_lt
       have HCK:Hid (k<s.size∧n<10 ^ k):=⟨c,hn⟩
       by_cases d:48≤(s[k]).toNat∧(s[k]).toNat≤57
       ·have hd1:(48:Int)≤((s[k]).toNat:Int):=by omega
        have hd2:((s[k]).toNat:Int)≤57:=by omega
        have hd3:decide (((s[k]).toNat:Int)<48)=false:=decide_eq_false (by omega)
        have hd4:decide ((57:Int)<((s[k]).toNat:Int))=false:=decide_eq_false (by omega)
        have HE:Hid (((s[k]).toNat:Int) - 48=(((s[k]).toNat - 48:Nat):Int)):=by show _=_;omega
        have HY:Hid (rxI s=(rxF (s.data.toList.drop (k+1)) (n*10+((s[k]).toNat - 48))).filter (fun n=>decide (n<4096))∧n*10+((s[k]).toNat - 48)<10 ^ (k+1)):=⟨rx_next c HK.out d,by rw[Nat.pow_succ];omega⟩
        clear d HK hd hn
        go_wp2_with fail
        refine⟨⟨k+1,n*10+((s[k]).toNat - 48),by have:=HCK.out.1;omega,HY.out.2,HY.out.1,by go_num,by exact congrArg (Value.int .i64) ((congrArg (fun z=>(n:Int)*10+z) HE.out).trans (by omega))⟩,?_⟩
        have:=HCK.out.1
        simp[intOf]
        omega
       ·have HY:Hid (rxI s=none):=rx_no c HK.out d
        by_cases d5:(s[k]).toNat<48
        ·have hd1:((s[k]).toNat:Int)<48:=by omega
         have hd3:decide (((s[k]).toNat:Int)<48)=true:=decide_eq_true hd1
         clear d HK hd hn d5
         go_wp2_with fail
         go_ret2
         rw[HY.out]
         exact⟨rfl,rfl⟩
        ·have hd1:(57:Int)<((s[k]).toNat:Int):=by omega
         have hd3:decide (((s[k]).toNat:Int)<48)=false:=decide_eq_false (by omega)
         have hd4:decide ((57:Int)<((s[k]).toNat:Int))=true:=decide_eq_true hd1
         clear d HK hd hn d5
         go_wp2_with fail
         go_ret2
         rw[HY.out]
         exact⟨rfl,rfl⟩
      ·have hkk:¬((k:Int)<(s.size:Int)):=by omega
       have hy:=rx_end (show s.size≤k by omega) HK.out
       by_cases q:n<4096
       ·have HY:Hid (rxI s=some n):=by show rxI s=_;rw[hy,if_pos q]
        have q1:(n:Int)<4096:=by omega
        clear hy HK hn q
        go_wp2_with fail
        go_ret2
        rw[HY.out]
        exact⟨rfl,rfl⟩
       ·have HY:Hid (rxI s=none):=by show rxI s=_;rw[hy,if_neg q]
        have q1:(4096:Int)≤(n:Int):=by omega
        clear hy HK hn q
        go_wp2_with fail
        go_ret2
        rw[HY.out]
        exact⟨rfl,rfl⟩
    ·have e48:(((s[0]'(by omega)).toNat:Int) == 48)=false:=by simpa using c48
     go_enter Tryz.func68,Tryz.ntmps68
     go_wp2_with fail
     go_loop [5,4] (fun p q=>∃(k n:Nat),k≤s.size∧n<10 ^ k∧Hid (rxI s=(rxF (s.data.toList.drop k) n).filter (fun n=>decide (n<4096)))∧p = .int .i64 (k:Int)∧q = .int .i64 (n:Int)) (fun p q=>((s.size:Int) - intOf p).toNat)
     case atStart=>exact⟨0,0,Nat.zero_le _,by omega,HI,rfl,rfl⟩
     case round =>
      clear HI
      obtain⟨k,n,hk,hn,HK,rfl,rfl⟩:=hrel
      have hn4:n<10000:=Nat.lt_of_lt_of_le hn (by have:=Nat.pow_le_pow_right (n:=10) (by omega) (show k≤4 by omega);omega)
      by_cases c:k<s.size
      ·have hd:=drop_ix s k c
       have hkk:(k:Int)<(s.size:Int):=by omega
       have hub:=(s[k]).toNat_lt
       have HCK:Hid (k<s.size∧n<10 ^ k):=⟨c,hn⟩
       by_cases d:48≤(s[k]).toNat∧(s[k]).toNat≤57
       ·have hd1:(48:Int)≤((s[k]).toNat:Int):=by omega
        have hd2:((s[k]).toNat:Int)≤57:=by omega
        have hd3:decide (((s[k]).toNat:Int)<48)=false:=decide_eq_false (by omega)
        have hd4:decide ((57:Int)<((s[k]).toNat:Int))=false:=decide_eq_false (by omega)
        have HE:Hid (((s[k]).toNat:Int) - 48=(((s[k]).toNat - 48:Nat):Int)):=by show _=_;omega
        have HY:Hid (rxI s=(rxF (s.data.toList.drop (k+1)) (n*10+((s[k]).toNat - 48))).filter (fun n=>decide (n<4096))∧n*10+((s[k]).toNat - 48)<10 ^ (k+1)):=⟨rx_next c HK.out d,by rw[Nat.pow_succ];omega⟩
        clear d HK hd hn
        go_wp2_with fail
        refine⟨⟨k+1,n*10+((s[k]).toNat - 48),by have:=HCK.out.1;omega,HY.out.2,HY.out.1,by go_num,by exact congrArg (Value.int .i64) ((congrArg (fun z=>(n:Int)*10+z) HE.out).trans (by omega))⟩,?_⟩
        have:=HCK.out.1
        simp[intOf]
        omega
       ·have HY:Hid (rxI s=none):=rx_no c HK.out d
        by_cases d5:(s[k]).toNat<48
        ·have hd1:((s[k]).toNat:Int)<48:=by omega
         have hd3:decide (((s[k]).toNat:Int)<48)=true:=decide_eq_true hd1
         clear d HK hd hn d5
         go_wp2_with fail
         go_ret2
         rw[HY.out]
         exact⟨rfl,rfl⟩
        ·have hd1:(57:Int)<((s[k]).toNat:Int):=by omega
         have hd3:decide (((s[k]).toNat:Int)<48)=false:=decide_eq_false (by omega)
         have hd4:decide ((57:Int)<((s[k]).toNat:Int))=true:=decide_eq_true hd1
         clear d HK hd hn d5
         go_wp2_with fail
         go_ret2
         rw[HY.out]
         exact⟨rfl,rfl⟩
      ·have hkk:¬((k:Int)<(s.size:Int)):=by omega
       have hy:=rx_end (show s.size≤k by omega) HK.out
       by_cases q:n<4096
       ·have HY:Hid (rxI s=some n):=by show rxI s=_;rw[hy,if_pos q]
        have q1:(n:Int)<4096:=by omega
        clear hy HK hn q
        go_wp2_with fail
        go_ret2
        rw[HY.out]
        exact⟨rfl,rfl⟩
       ·have HY:Hid (rxI s=none):=by show rxI s=_;rw[hy,if_neg q]
        have q1:(4096:Int)≤(n:Int):=by omega
        clear hy HK hn q
        go_wp2_with fail
        go_ret2
        rw[HY.out]
        exact⟨rfl,rfl⟩
def lenS:ByteArray:=⟨#[108,101,110,103,116,104]⟩
def ownO (ob:Ob)(k:ByteArray):Option De :=
 if ob.kind=1 then
  if k=lenS then some ⟨intW (ob.el.length:Int),undW,1⟩
  else match (ixI k).bind (fun n=>elemI ob.el (n:Int)) with
   | some v=>some ⟨v,undW,7⟩
   | none=>getO ob k
 else getO ob k
def ownH (H:He)(o:Int)(k:ByteArray):Option De:=(obO H o).bind (fun ob=>ownO ob k)
theorem wInt_any (n:Int)(w:World):Calls Tryz.prog 23 #[.int .i32 n] w fun e w'=>e = .returned (.int .u64 (intW n))∧w'=w:=by
 have hw:IntKind.u32.wrap n=n % 4294967296:=IntKind.wrap_u32 n
 have c:=fun w=>tagged_any 65529 (n % 4294967296) w (by omega) (by omega) (by omega) (by omega)
 unfold intW
 rw[show(65529*281474976710656:Int)=18444773748872577024 from rfl] at c
 generalize n % 4294967296=m at *
 go_enter Tryz.func23,Tryz.ntmps23
 go_wp2_with (go_at_call 57;refine(c _).mono ?_;rintro e w1 ⟨rfl,rfl⟩)
 go_ret
 exact⟨rfl,rfl⟩
theorem dataOf_any (w:World)(va fl:Int):Calls Tryz.prog 22 #[.int .u64 va,.int .i64 fl] w fun e w'=>e = .returned (deV ⟨va,undW,fl⟩)∧Below w.heap.size w w':=by
 obtain⟨wb,hwb⟩:∃wb,wb=w.alloc (.cells #[.int .u64 0,.int .u64 0,.int .i64 0] 39):=⟨_,rfl⟩
 have hB:Below w.heap.size w wb:=by rw[hwb];exact(Below.refl _ _).alloc (Nat.le_refl _) _
 have hbx:Bx3 wb w.heap.size zDe:=by rw[hwb];exact Bx3.new w
 have HF:Hid (Bx3 (st3 wb w.heap.size ⟨va,undW,fl⟩) w.heap.size ⟨va,undW,fl⟩∧Below w.heap.size w (st3 wb w.heap.size ⟨va,undW,fl⟩)):=⟨hbx.put _,st3_below hB (Nat.le_refl _) _⟩
 obtain⟨f0,f1,f2⟩:=hbx.fz
 obtain⟨b0,b1,b2⟩:=hbx.ce
 unfold zDe at b0 b1 b2
 clear hbx hB
 go_enter Tryz.func22,Tryz.ntmps22
 go_upto_region 1 with fail
 rw[←hwb]
 clear hwb
 go_wp2_with fail
 refine bodyPost_ret (res1 rfl _ _ w.heap.size 39 _ (0,0) _ rfl HF.out.1 Tryz.underlying39 rfl (by kernel_rfl)) rfl ?_
 exact⟨rfl,HF.out.2⟩
section
variable {w w' w1:World}{B hb:Nat}{O S:Nat→Prop}{H H':He}{M M':HV}{tg:Nat→Nat}
theorem isObject_at (h:HeapAt w B hb tg H M)(o:Int)(o0:0≤o)(o1:o<18446744073709551616) :
  Calls Tryz.prog 44 #[.pointer (some ⟨hb,0,none⟩),.int .u64 o] w fun e w'=>e = .returned (.bool (obO H o).isSome)∧w'=w:=by
 have c:=kind_any h o o0 o1
 generalize ((obO H o).map Ob.kind).getD 0=kd at *
 generalize (obO H o).isSome=ok at *
 clear h
 go_enter Tryz.func44,Tryz.ntmps44
 go_wp2_with fail
 refine c.mono ?_
 rintro e w2 ⟨rfl,rfl⟩
 clear c
 go_wp2_with fail
 go_ret
 exact⟨rfl,rfl⟩
def arrB (H:He)(o:Int):Bool:=((obO H o).map Ob.kind).getD 0 == 1
theorem isArray_at (h:HeapAt w B hb tg H M)(o:Int)(o0:0≤o)(o1:o<18446744073709551616) :
  Calls Tryz.prog 21 #[.pointer (some ⟨hb,0,none⟩),.int .u64 o] w fun e w'=>e = .returned (.bool (arrB H o))∧w'=w:=by
 have c:=kind_any h o o0 o1
 unfold arrB
 generalize ((obO H o).map Ob.kind).getD 0=kd at *
 generalize (obO H o).isSome=ok at *
 clear h
 go_enter Tryz.func21,Tryz.ntmps21
 go_wp2_with fail
 refine c.mono ?_
 rintro e w2 ⟨rfl,rfl⟩
 clear c
 go_wp2_with fail
 go_ret
 exact⟨rfl,rfl⟩
theorem element_at (h:HeapAt w B hb tg H M)(o:Int)(o0:0≤o)(o1:o<18446744073709551616){ob:Ob}(hq:obO H o=some ob)(k:ByteArray)(hk:k.size≤maxLen) :
  Calls Tryz.prog 25 #[.pointer (some ⟨hb,0,none⟩),.int .u64 o,.string k] w fun e w'=>e = .returned (.tuple #[.int .u64 (((ixI k).bind (fun n=>elemI ob.el (n:Int))).getD undW),.bool ((ixI k).bind (fun n=>elemI ob.el (n:Int))).isSome])∧w'=w:=by
 obtain⟨i,ho,hi⟩:=obO_some hq
 have ci:=index_any k w hk
 cases hx:ixI k with
 | none =>
   rw[hx] at ci
   simp only[Option.bind_none,Option.getD_none,Option.isSome_none] at ci ⊢
   unfold undW
   clear h hq hi ho hx
   go_enter Tryz.func25,Tryz.ntmps25
   go_wp2_with fail
   refine ci.mono ?_
   rintro e w2 ⟨rfl,rfl⟩
   clear ci
   go_wp2_with fail
   go_ret2
   exact⟨rfl,rfl⟩
 | some n =>
   rw[hx] at ci
   have ce:=elem_at h o o0 o1 ho hi (n:Int)
   simp only[Option.bind_some,Option.getD_some,Option.isSome_some] at ci ⊢
   generalize (elemI ob.el (n:Int)).getD undW=v at *
   generalize (elemI ob.el (n:Int)).isSome=ok at *
   clear h hq hi ho hx
   go_enter Tryz.func25,Tryz.ntmps25
   go_wp2_with fail
   refine ci.mono ?_
   rintro e w2 ⟨rfl,rfl⟩
   clear ci
   go_wp2_with fail
   refine ce.mono ?_
   rintro e w2 ⟨rfl,rfl⟩
   clear ce
   go_wp2_with fail
   go_ret2
   exact⟨rfl,rfl⟩
end
section
variable {w W W' w' w1:World}{B b n:Nat}{tg:Nat→Nat}{S:List So}{vo vt:SV}{qs:List QV}
theorem relem_o (h:StAt w B tg S vo qs)(vt:SV)(o:Int)(o0:0≤o)(o1:o<18446744073709551616)(n:Int) :
  Calls Tryz.prog 79 #[stV vo vt,.int .u64 o,.int .i64 n] w fun e w'=>e = .returned (.tuple #[.int .u64 (((soO S o).bind (fun x=>elS x.el n)).getD 18445336698825998336),.bool ((soO S o).bind (fun x=>elS x.el n)).isSome])∧Below w.heap.size w w':=by
 by_cases c:n<0∨(lenO S o:Int)≤n
 ·have e:(soO S o).bind (fun x=>elS x.el n)=none:=by
   cases hq:soO S o with
   | none=>rfl
   | some x =>
     show elS x.el n=none
     unfold elS
     by_cases d:n<0
     ·rw[if_pos d]
     ·rw[if_neg d]
      have hl:lenO S o=x.el.length:=by unfold lenO;rw[hq];rfl
      rw[hl] at c
      rw[List.getElem?_eq_none (by omega)]
      rfl
  rw[e]
  exact relem_low h vt o o0 o1 n c
 ·cases hq:soO S o with
  | none =>
    have hl:lenO S o=0:=by unfold lenO;rw[hq];rfl
    rw[hl] at c
    omega
  | some x =>
    have hl:lenO S o=x.el.length:=by unfold lenO;rw[hq];rfl
    rw[hl] at c
    obtain⟨i,h1,rfl,_⟩:=soO_some hq o0 o1
    have hn:n.toNat<x.el.length:=by omega
    have hv:x.el[n.toNat]?=some x.el[n.toNat]:=List.getElem?_eq_getElem hn
    have k:=relem_in h vt h1 n.toNat _ hv
    rw[show((n.toNat:Nat):Int)=n from by omega] at k
    have e:elS x.el n=if x.el[n.toNat]=18445336698825998340 then none else some x.el[n.toNat]:=by
     unfold elS
     rw[if_neg (by omega),hv]
     rfl
    show Calls Tryz.prog 79 _ w fun e w'=>e = .returned (.tuple #[.int .u64 ((elS x.el n).getD 18445336698825998336),.bool (elS x.el n).isSome])∧Below w.heap.size w w'
    rw[e]
    by_cases d:x.el[n.toNat]=18445336698825998340
    ·rw[if_pos d,if_pos d] at k
     rw[if_pos d]
     exact k
    ·rw[if_neg d,if_neg d] at k
     rw[if_neg d]
     exact k
def ownS (x:So)(k:ByteArray):Option De :=
 if x.kind=1 then
  if k=lenS then some ⟨intW (x.el.length:Int),undW,1⟩
  else match rxI k with
   | some n=>(elS x.el (n:Int)).map (fun v=>⟨v,undW,7⟩)
   | none=>getS x k
 else getS x k
end
section
variable {w W W' w' w1:World}{B b n:Nat}{tg:Nat→Nat}{S:List So}{vo vt:SV}{qs:List QV}
theorem rown_plain (h:StAt w B tg S vo qs)(vt:SV){i:Nat}{x:So}(hi:S[i]?=some x)(hk1:x.kind≠1)(k:ByteArray) :
  Calls Tryz.prog 36 #[stV vo vt,.int .u64 (objW (i:Int)),.string k] w fun e w'=>e = .returned (.tuple #[deV ((getS x k).getD zDe),.bool (getS x k).isSome])∧Below w.heap.size w w':=by
 obtain⟨wb,hwb⟩:∃wb,wb=(w.alloc (.cells #[vo.val,vt.val] 33)).alloc (.cells #[.int .u64 0,.int .u64 0,.int .i64 0] 39):=⟨_,rfl⟩
 obtain⟨hbs,hbd,hB⟩:=boxSD w vo vt
 rw[←hwb] at hbs hbd hB
 have h2:=h.below hB
 have ka:=rarray_any h2 vt hi
 rw[show(x.kind == 1)=false from by simpa using hk1] at ka
 have HG:Hid (∀W,Below wb.heap.size wb W→Calls Tryz.prog 80 #[stV vo vt,.int .u64 (objW (i:Int)),.string k] W fun e w'=>e = .returned (.tuple #[deV ((getS x k).getD zDe),.bool (getS x k).isSome])∧Below W.heap.size W w'):=fun W r=>rget_any (h2.below r) vt hi k
 have HBS:Hid (∀W,Below wb.heap.size wb W→W.cell? ⟨w.heap.size,0,none⟩=some vo.val∧W.cell? ⟨w.heap.size,1,none⟩=some vt.val):=fun W r=>(hbs.below r).ce
 have HFI:Hid (∀w6 d,Below wb.heap.size wb w6→Bx3 w6 (w.heap.size+1) zDe∧Bx3 (st3 w6 (w.heap.size+1) d) (w.heap.size+1) d∧Below w.heap.size w (st3 w6 (w.heap.size+1) d)):=fun w6 d r=>fin3b hB hbd (by omega) r d
 obtain⟨b0,b1⟩:=hbs.ce
 generalize (getS x k).getD zDe=d at *
 generalize (getS x k).isSome=ok at *
 generalize objW (i:Int)=o at *
 unfold stV deV at *
 unfold SV.val at *
 clear h h2 hB hbs hbd hi hk1
 go_enter Tryz.func36,Tryz.ntmps36
 go_upto_region 1 with fail
 rw[←hwb]
 clear hwb
 go_wp2_with fail
 refine ka.mono ?_
 rintro e w2 ⟨rfl,hB2⟩
 obtain⟨b0,b1⟩:=HBS.out w2 hB2
 have kg:=HG.out w2 hB2
 have HB2:Hid (Below wb.heap.size wb w2):=hB2
 clear ka hB2 HG HBS
 go_wp2_with fail
 refine kg.mono ?_
 rintro e w3 ⟨rfl,hB3⟩
 obtain⟨q1,q2,q3⟩:=HFI.out w3 d (bel_sm' HB2.out hB3)
 obtain⟨f0,f1,f2⟩:=q1.fz
 obtain⟨d0,d1,d2⟩:=q1.ce
 unfold zDe at d0 d1 d2
 have HF:=(show Hid _ from And.intro q2 q3)
 clear kg hB3 HB2 HFI q1 q2 q3
 go_wp2_with fail
 refine bodyPost_ret (res2 rfl _ _ (w.heap.size+1) 39 _ (0,0) _ rfl HF.out.1 Tryz.underlying39 rfl (by kernel_rfl)) rfl ?_
 exact⟨rfl,HF.out.2⟩
end
section
variable {w w' w1:World}{B hb:Nat}{O S:Nat→Prop}{H H':He}{M M':HV}{tg:Nat→Nat}
theorem own_plain {o:Int}(ha:arrB H o=false)(k:ByteArray):ownH H o k=getH H o k:=by
 unfold ownH getH
 cases hq:obO H o with
 | none=>rfl
 | some ob =>
   show ownO ob k=getO ob k
   unfold ownO
   rw[if_neg]
   intro q
   unfold arrB at ha
   rw[hq] at ha
   simp only[Option.map_some,Option.getD_some,q] at ha
   exact absurd ha (by decide)
theorem arr_ob {o:Int}(ha:arrB H o=true):∃ob,obO H o=some ob∧ob.kind=1:=by
 unfold arrB at ha
 cases hq:obO H o with
 | none=>rw[hq] at ha;exact absurd ha (by decide)
 | some ob =>
   rw[hq] at ha
   simp only[Option.map_some,Option.getD_some] at ha
   exact⟨ob,rfl,by simpa using ha⟩
theorem lenS_l:lenS.toList=[108,101,110,103,116,104]:=by first | decide +kernel | simp[lenS,ByteArray.toList,ByteArray.toList.loop]
theorem fin3 {wb w6:World}(hB:Below w.heap.size w wb)(hbx:Bx3 wb w.heap.size zDe)(q:Below wb.heap.size wb w6)(d:De):Bx3 w6 w.heap.size zDe∧Bx3 (st3 w6 w.heap.size d) w.heap.size d∧Below w.heap.size w (st3 w6 w.heap.size d) :=
 ⟨hbx.below q,(hbx.below q).put _,st3_below (hB.trans (q.mono (Nat.le_of_lt hbx.lt))) (Nat.le_refl _) _⟩
theorem own_at (h:HeapAt w B hb tg H M)(hn:H.neat)(o:Int)(o0:0≤o)(o1:o<18446744073709551616)(k:ByteArray)(hk:k.size≤maxLen) :
  Calls Tryz.prog 10 #[.pointer (some ⟨hb,0,none⟩),.int .u64 o,.string k] w fun e w'=>e = .returned (.tuple #[deV ((ownH H o k).getD zDe),.bool (ownH H o k).isSome])∧Below w.heap.size w w':=by
 obtain⟨wb,hwb⟩:∃wb,wb=w.alloc (.cells #[.int .u64 0,.int .u64 0,.int .i64 0] 39):=⟨_,rfl⟩
 have hB:Below w.heap.size w wb:=by rw[hwb];exact(Below.refl _ _).alloc (Nat.le_refl _) _
 have hbx:Bx3 wb w.heap.size zDe:=by rw[hwb];exact Bx3.new w
 have HFI:Hid (∀w6 d,Below wb.heap.size wb w6→Bx3 w6 w.heap.size zDe∧Bx3 (st3 w6 w.heap.size d) w.heap.size d∧Below w.heap.size w (st3 w6 w.heap.size d)):=fun w6 d q=>fin3 hB hbx q d
 have h2:=h.below hB
 have ka:=isArray_at h2 o o0 o1
 have kg:=get_full h2 hn o o0 o1 k hk
 cases ha:arrB H o with
 | false =>
   rw[own_plain ha]
   rw[ha] at ka
   generalize (getH H o k).getD zDe=d at *
   generalize (getH H o k).isSome=ok at *
   unfold deV at *
   clear h h2 hn hB hbx ha
   go_enter Tryz.func10,Tryz.ntmps10
   go_upto_region 1 with fail
   rw[←hwb]
   clear hwb
   go_wp2_with fail
   refine ka.mono ?_
   rintro e w2 ⟨rfl,rfl⟩
   clear ka
   go_wp2_with fail
   refine kg.mono ?_
   rintro e w6 ⟨rfl,hB6⟩
   obtain⟨q1,q2,q3⟩:=HFI.out w6 d hB6
   obtain⟨f0,f1,f2⟩:=q1.fz
   obtain⟨b0,b1,b2⟩:=q1.ce
   unfold zDe at b0 b1 b2
   have HF:Hid (Bx3 (st3 w6 w.heap.size d) w.heap.size d∧Below w.heap.size w (st3 w6 w.heap.size d)):=⟨q2,q3⟩
   clear kg HFI hB6 q1 q2 q3
   go_wp2_with fail
   refine bodyPost_ret (res2 rfl _ _ w.heap.size 39 _ (0,0) _ rfl HF.out.1 Tryz.underlying39 rfl (by kernel_rfl)) rfl ?_
   exact⟨rfl,HF.out.2⟩
 | true =>
   obtain⟨ob,hq,hkd⟩:=arr_ob ha
   obtain⟨i,ho,hi⟩:=obO_some hq
   rw[ha] at ka
   have hoo:ownH H o k=ownO ob k:=by unfold ownH;rw[hq];rfl
   have hgo:getH H o k=getO ob k:=by unfold getH;rw[hq];rfl
   rw[hoo]
   rw[hgo] at kg
   unfold ownO
   rw[if_pos hkd]
   have hel:=(h.wf.ob ob (List.mem_of_getElem? hi)).el
   by_cases cl:k=lenS
   ·rw[if_pos cl]
    have kl:=len_at h2 o o0 o1 ho hi
    have hcv:wrap32 (ob.el.length:Int)=(ob.el.length:Int):=by
     unfold wrap32
     omega
    have ki:=fun w=>wInt_any (ob.el.length:Int) w
    have kd:=fun w=>dataOf_any w (intW (ob.el.length:Int)) 1
    have hlim:(ob.el.length:Int)≤4096:=by omega
    have hee:(k.toList == [108,101,110,103,116,104])=true:=by rw[cl,lenS_l];rfl
    simp only[Option.getD_some,Option.isSome_some]
    generalize intW (ob.el.length:Int)=iw at *
    generalize (ob.el.length:Int)=n at *
    unfold deV at *
    clear h h2 hn hB hbx ha hq ho hi hkd hoo hgo kg hel cl hk
    go_enter Tryz.func10,Tryz.ntmps10
    go_upto_region 1 with fail
    rw[←hwb]
    clear hwb
    go_wp2_with fail
    refine ka.mono ?_
    rintro e w2 ⟨rfl,rfl⟩
    clear ka
    go_wp2_with fail
    refine kl.mono ?_
    rintro e w2 ⟨rfl,rfl⟩
    clear kl
    go_wp2_with fail
    refine(ki _).mono ?_
    rintro e w2 ⟨rfl,rfl⟩
    clear ki
    go_wp2_with fail
    refine(kd _).mono ?_
    rintro e w6 ⟨rfl,hB6⟩
    obtain⟨q1,q2,q3⟩:=HFI.out w6 ⟨iw,undW,1⟩ hB6
    obtain⟨f0,f1,f2⟩:=q1.fz
    obtain⟨b0,b1,b2⟩:=q1.ce
    unfold zDe at b0 b1 b2
    have HF:Hid (Bx3 (st3 w6 w.heap.size ⟨iw,undW,1⟩) w.heap.size ⟨iw,undW,1⟩∧Below w.heap.size w (st3 w6 w.heap.size ⟨iw,undW,1⟩)):=⟨q2,q3⟩
    clear kd HFI hB6 q1 q2 q3
    go_wp2_with fail
    refine bodyPost_ret (res2 rfl _ _ w.heap.size 39 _ (0,0) _ rfl HF.out.1 Tryz.underlying39 rfl (by kernel_rfl)) rfl ?_
    exact⟨rfl,HF.out.2⟩
   ·rw[if_neg cl]
    have ke:=element_at h2 o o0 o1 hq k hk
    have hee:(k.toList == [108,101,110,103,116,104])=false:=by rw[←lenS_l];exact Sp.bytes_no cl
    generalize hx:(ixI k).bind (fun n=>elemI ob.el (n:Int))=r at *
    cases r with
    | some v =>
      have kd:=fun w=>dataOf_any w v 7
      simp only[Option.getD_some,Option.isSome_some] at ke ⊢
      unfold deV at *
      clear h h2 hn hB hbx ha hq ho hi hkd hoo hgo kg hel cl hk hx
      go_enter Tryz.func10,Tryz.ntmps10
      go_upto_region 1 with fail
      rw[←hwb]
      clear hwb
      go_wp2_with fail
      refine ka.mono ?_
      rintro e w2 ⟨rfl,rfl⟩
      clear ka
      go_wp2_with fail
      refine ke.mono ?_
      rintro e w2 ⟨rfl,rfl⟩
      clear ke
      go_wp2_with fail
      refine(kd _).mono ?_
      rintro e w6 ⟨rfl,hB6⟩
      obtain⟨q1,q2,q3⟩:=HFI.out w6 ⟨v,undW,7⟩ hB6
      obtain⟨f0,f1,f2⟩:=q1.fz
      obtain⟨b0,b1,b2⟩:=q1.ce
      unfold zDe at b0 b1 b2
      have HF:Hid (Bx3 (st3 w6 w.heap.size ⟨v,undW,7⟩) w.heap.size ⟨v,undW,7⟩∧Below w.heap.size w (st3 w6 w.heap.size ⟨v,undW,7⟩)):=⟨q2,q3⟩
      clear kd HFI hB6 q1 q2 q3
      go_wp2_with fail
      refine bodyPost_ret (res2 rfl _ _ w.heap.size 39 _ (0,0) _ rfl HF.out.1 Tryz.underlying39 rfl (by kernel_rfl)) rfl ?_
      exact⟨rfl,HF.out.2⟩
    | none =>
      simp only[Option.getD_none,Option.isSome_none] at ke ⊢
      generalize (getO ob k).getD zDe=d at *
      generalize (getO ob k).isSome=ok at *
      unfold deV at *
      unfold undW at ke
      clear h h2 hn hB hbx ha hq ho hi hkd hoo hgo hel cl hk hx
      go_enter Tryz.func10,Tryz.ntmps10
      go_upto_region 1 with fail
      rw[←hwb]
      clear hwb
      go_wp2_with fail
      refine ka.mono ?_
      rintro e w2 ⟨rfl,rfl⟩
      clear ka
      go_wp2_with fail
      refine ke.mono ?_
      rintro e w2 ⟨rfl,rfl⟩
      clear ke
      go_wp2_with fail
      refine kg.mono ?_
      rintro e w6 ⟨rfl,hB6⟩
      obtain⟨q1,q2,q3⟩:=HFI.out w6 d hB6
      obtain⟨f0,f1,f2⟩:=q1.fz
      obtain⟨b0,b1,b2⟩:=q1.ce
      unfold zDe at b0 b1 b2
      have HF:Hid (Bx3 (st3 w6 w.heap.size d) w.heap.size d∧Below w.heap.size w (st3 w6 w.heap.size d)):=⟨q2,q3⟩
      clear kg HFI hB6 q1 q2 q3
      go_wp2_with fail
      refine bodyPost_ret (res2 rfl _ _ w.heap.size 39 _ (0,0) _ rfl HF.out.1 Tryz.underlying39 rfl (by kernel_rfl)) rfl ?_
      exact⟨rfl,HF.out.2⟩
end
end Go.Proofs.YtahhionlbfhinabGreatDoor.Hp
