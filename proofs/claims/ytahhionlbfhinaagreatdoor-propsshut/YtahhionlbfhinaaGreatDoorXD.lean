/- XD -/
import Derived.Test.YtahhionlbfhinaaGreatDoorB36
import Derived.Test.YtahhionlbfhinaaGreatDoorB9
import Derived.Test.YtahhionlbfhinaaGreatDoorHY
import Derived.Test.YtahhionlbfhinaaGreatDoorB28
import Derived.Lib.AppendIntMem
set_option linter.unusedVariables false
set_option linter.unusedSimpArgs false
set_option maxRecDepth 100000
set_option maxHeartbeats 40000000
namespace Go.Proofs.YtahhionlbfhinaaGreatDoor.Hp
open Go.RowKit
section
variable {w w' w1:World}{B hb:Nat}{H:He}{M:HV}{tg:Nat→Nat}
theorem itoa_any (n : Nat) (hn : n < 100000) (w : World) (ht : Lib.TabIs Tryz.prog w "internal/strconv.uint64pow10" .u64 Lib.pow10Tab) :
  Calls Tryz.prog 114 #[.int .i64 (n:Int)] w fun e w'=>e = .returned (.string (dgI n))∧Below w.heap.size w w':=by
 refine(Any.strconv_Itoa Tryz.laysItoa (n:Int) (by omega) (by omega) w ht).mono ?_
 rintro e w' ⟨rfl,k,os,rfl⟩
 exact⟨by rw[dg_itoa n hn],Lib.below_grow _ w (Nat.le_refl _) k os⟩
theorem len_miss (h:HeapAt w B hb tg H M)(o:Int)(o0:0≤o)(o1:o<18446744073709551616)(ho:obI H o=none) :
  Calls Tryz.prog 71 #[.pointer (some ⟨hb,0,none⟩),.int .u64 o] w fun e w'=>e = .returned (.int .i64 0)∧w'=w:=by
 have ka:=at_miss h o o0 o1 ho
 clear h ho
 go_enter Tryz.func71,Tryz.ntmps71
 go_wp2_with fail
 refine ka.mono ?_
 rintro e w2 ⟨rfl,rfl⟩
 clear ka
 go_wp2_with fail
 go_ret
 exact⟨rfl,rfl⟩
theorem keys_miss (h:HeapAt w B hb tg H M)(o:Int)(o0:0≤o)(o1:o<18446744073709551616)(ho:obI H o=none) :
  Calls Tryz.prog 115 #[.pointer (some ⟨hb,0,none⟩),.int .u64 o] w fun e w'=>e = .returned (.slice none 0 0)∧w'=w:=by
 have ka:=at_miss h o o0 o1 ho
 clear h ho
 go_enter Tryz.func115,Tryz.ntmps115
 go_wp2_with fail
 refine ka.mono ?_
 rintro e w2 ⟨rfl,rfl⟩
 clear ka
 go_wp2_with fail
 go_ret
 exact⟨rfl,rfl⟩
def keysE (el:List Int)(i:Nat):List ByteArray:=((List.range i).filter (fun n:Nat=>(elemI el (n:Int)).isSome)).map dgI
def keysN (ps:List Pr)(j:Nat):List ByteArray:=((ps.take j).filter (fun p=>bits .and .i64 p.de.fl 2 != 0)).map Pr.key
theorem keysE_yes {el:List Int}{i:Nat}{v:Int}(h:elemI el (i:Int)=some v):keysE el (i+1)=keysE el i++[dgI i]:=by
 unfold keysE
 rw[List.range_succ,List.filter_append,List.map_append,List.filter_cons]
 simp[h]
theorem keysE_no {el:List Int}{i:Nat}(h:elemI el (i:Int)=none):keysE el (i+1)=keysE el i:=by
 unfold keysE
 rw[List.range_succ,List.filter_append,List.map_append,List.filter_cons]
 simp[h]
theorem keysE_len (el:List Int)(i:Nat):(keysE el i).length≤i:=by
 unfold keysE
 rw[List.length_map]
 exact Nat.le_trans (List.length_filter_le _ _) (by rw[List.length_range];exact Nat.le_refl _)
theorem keysN_yes {ps:List Pr}{j:Nat}{p:Pr}(hp:ps[j]?=some p)(h:(bits .and .i64 p.de.fl 2 != 0)=true):keysN ps (j+1)=keysN ps j++[p.key]:=by
 unfold keysN
 rw[List.take_add_one,hp,List.filter_append,List.map_append]
 simp[h]
theorem keysN_no {ps:List Pr}{j:Nat}{p:Pr}(hp:ps[j]?=some p)(h:(bits .and .i64 p.de.fl 2 != 0)=false):keysN ps (j+1)=keysN ps j:=by
 unfold keysN
 rw[List.take_add_one,hp,List.filter_append,List.map_append]
 simp[h]
theorem keysN_len (ps:List Pr)(j:Nat):(keysN ps j).length≤ps.length:=by
 unfold keysN
 rw[List.length_map]
 exact Nat.le_trans (List.length_filter_le _ _) (List.length_take_le' _ _)
structure PkAt (w wr:World)(kv:Value)(ks:List ByteArray)(v:Value)(xs:List ByteArray):Prop where
 own:OwnR strC 1 9 w.heap.size wr v xs
 rd:OwnR strC 1 9 w.heap.size wr kv ks
 ap:∀b,kv.ownBlock=some b→¬v.ownBlock=some b
 bel:Below w.heap.size w wr
theorem PkAt.below {wr wr':World}{kv v:Value}{ks xs:List ByteArray}(h:PkAt w wr kv ks v xs)(hB:Below wr.heap.size wr wr'):PkAt w wr' kv ks v xs :=
 ⟨h.own.below hB,h.rd.below hB,h.ap,h.bel.trans (hB.mono h.bel.size)⟩
theorem PkAt.app {wr wr':World}{kv v v':Value}{ks xs ys:List ByteArray}(h:PkAt w wr kv ks v xs)(ho:OwnR strC 1 9 w.heap.size wr' v' ys)(hg:wr.grownBy wr' v.ownBlock)(hl:v'.ownBlock=v.ownBlock∨v'.ownBlock=some wr.heap.size):PkAt w wr' kv ks v' ys:=by
 have hc:Chg (fun b=>v.ownBlock=some b) wr wr':=Chg.of_grown (S:=fun b=>v.ownBlock=some b) hg (fun k q=>q)
 refine⟨ho,h.rd.kept hc (fun b q=>h.ap b q),fun b q r => ?_,hc.below h.bel h.bel.size (fun b q=>(h.own.lt b q).1)⟩
 rcases hl with e | e
 ·rw[e] at r;exact h.ap b q r
 ·rw[e] at r
  have:=(h.rd.lt b q).2
  have:wr.heap.size=b:=Option.some.inj r
  omega
theorem pkeys_miss (h:HeapAt w B hb tg H M)(o:Int)(o0:0≤o)(o1:o<18446744073709551616)(ho:obI H o=none) :
  Calls Tryz.prog 88 #[.pointer (some ⟨hb,0,none⟩),.int .u64 o] w fun e w'=>∃s:SV,e = .returned s.val∧OwnR strC 1 9 w.heap.size w' s.val []∧Below w.heap.size w w':=by
 have kl:=len_miss h o o0 o1 ho
 have HK:Hid (Calls Tryz.prog 115 #[.pointer (some ⟨hb,0,none⟩),.int .u64 o] w fun e w'=>e = .returned (.slice none 0 0)∧w'=w):=keys_miss h o o0 o1 ho
 clear h ho
 go_enter Tryz.func88,Tryz.ntmps88
 go_wp2_with fail
 refine kl.mono ?_
 rintro e w2 ⟨rfl,rfl⟩
 clear kl
 go_wp2_with fail
 go_loopw [5,16] (fun kv iv wr=>kv = .slice none 0 0∧iv = .int .i64 0∧wr=w2) (fun kv iv wr=>0)
 case atStart=>exact⟨rfl,rfl,rfl⟩
 case round =>
  obtain⟨rfl,rfl,hww⟩:=hrel
  have hw':=hww.symm
  subst hw'
  clear hww
  go_wp2_with fail
  refine HK.out.mono ?_
  rintro e w3 ⟨rfl,hw3⟩
  have hw':=hw3.symm
  subst hw'
  clear hw3
  go_wp2_with fail
  go_loopw [5,37] (fun kv iv wr=>kv = .slice none 0 0∧iv = .int .i64 0∧wr=w2) (fun kv iv wr=>0)
  case atStart=>exact⟨rfl,rfl,rfl⟩
  case round =>
   obtain⟨rfl,rfl,hww⟩:=hrel
   have hw':=hww.symm
   subst hw'
   clear hww
   go_wp2_with fail
   go_ret
   exact⟨.nil,rfl,OwnR.nil _ _,Below.refl _ _⟩
theorem plc_own {ob:Ob}(hn:ob.neat){j:Nat}{p:Pr}(hi:ob.ps[j]?=some p):plc ob.ps p.key=some j:=plc_at hi rfl (fun l q hl hq e=>by
 have hk:=hn.kn
 have a:(ob.ps.map Pr.key)[j]?=some p.key:=by rw[List.getElem?_map,hi];rfl
 have b:(ob.ps.map Pr.key)[l]?=some p.key:=by rw[List.getElem?_map,hq,←e];rfl
 have:=(List.getElem?_inj (by rw[List.length_map];exact(List.getElem?_eq_some_iff.1 hq).1) hk).1 (b.trans a.symm)
 omega)
theorem keysO_eq (ob:Ob):keysO ob=keysE ob.el ob.el.length++keysN ob.ps ob.ps.length:=by
 unfold keysO keysE keysN
 rw[List.take_length]
theorem pkeys_hit (h : HeapAt w B hb tg H M) (hn : H.neat) (hT : Lib.TabIs Tryz.prog w "internal/strconv.uint64pow10" .u64 Lib.pow10Tab) (o : Int) (o0 : 0 ≤ o) (o1 : o < 18446744073709551616) {i : Nat} {ob : Ob} (ho : obI H o = some i) (hi : H.obs[i]? = some ob) :
  Calls Tryz.prog 88 #[.pointer (some ⟨hb,0,none⟩),.int .u64 o] w fun e w'=>∃s:SV,e = .returned s.val∧OwnR strC 1 9 w.heap.size w' s.val (keysO ob)∧Below w.heap.size w w':=by
 have hnt:=hn ob (List.mem_of_getElem? hi)
 have hwf:=h.wf.ob ob (List.mem_of_getElem? hi)
 have HLN:Hid (ob.el.length≤4096∧ob.ps.length≤2000000000001):=⟨hwf.el,hwf.nx.2.2⟩
 have hel4:(ob.el.length:Int)≤4096:=by have:=HLN.out;omega
 have kln:=len_at h o o0 o1 ho hi
 have HEL:Hid (∀W n,Below w.heap.size w W→Calls Tryz.prog 82 #[.pointer (some ⟨hb,0,none⟩),.int .u64 o,.int .i64 n] W fun e w'=>e = .returned (.tuple #[.int .u64 ((elemI ob.el n).getD undW),.bool (elemI ob.el n).isSome])∧w'=W):=fun W n r=>elem_at (h.below r) o o0 o1 ho hi n
 have HIT:Hid (∀W (n:Nat),n<100000→Below w.heap.size w W→Calls Tryz.prog 114 #[.int .i64 (n:Int)] W fun e w'=>e = .returned (.string (dgI n))∧Below W.heap.size W w'):=fun W n hn r=>itoa_any n hn W (Lib.tabBelow_of_tabIs hT W r)
 have HKY:Hid (∀W,Below w.heap.size w W→Calls Tryz.prog 115 #[.pointer (some ⟨hb,0,none⟩),.int .u64 o] W fun e w'=>∃s2:SV,e = .returned s2.val∧OwnR strC 1 9 W.heap.size w' s2.val (ob.ps.map Pr.key)∧Below W.heap.size W w'):=fun W r=>keys_at (h.below r) o o0 o1 ho hi
 have HGT:Hid (∀(W:World) (j:Nat) (p:Pr),ob.ps[j]?=some p→Below w.heap.size w W→Calls Tryz.prog 73 #[.pointer (some ⟨hb,0,none⟩),.int .u64 o,.string p.key] W fun e w'=>e = .returned (.tuple #[.agg #[.int .u64 p.de.va,.int .u64 p.de.se,.int .i64 p.de.fl],.bool true])∧Below W.heap.size W w'):=fun W j p hp r=>get_any (h.below r) o o0 o1 ho hi (plc_own hnt hp) hp hnt (hwf.ks p (List.mem_of_getElem? hp))
 have HEN:Hid (keysO ob=keysE ob.el ob.el.length++keysN ob.ps ob.ps.length):=keysO_eq ob
 generalize hke:keysE ob.el=kE at *
 have HKE:Hid (kE=keysE ob.el):=hke.symm
 generalize hnl:ob.el.length=nl at *
 have HPS:Hid (ob.ps.length≤2000000000001∧nl≤4096∧(ob.ps.map Pr.key).length=ob.ps.length):=⟨HLN.out.2,HLN.out.1,by simp⟩
 clear h hn hT ho hi hnt hwf hke hnl HLN
 go_enter Tryz.func88,Tryz.ntmps88
 go_wp2_with fail
 refine kln.mono ?_
 rintro e w2 ⟨rfl,rfl⟩
 clear kln
 go_wp2_with fail
 go_loopw [5,16] (fun kv iv wr=>∃(i:Nat) (xs:List ByteArray) (sa:Option Addr) (sc:Nat),(i≤nl∧Hid (xs=kE i∧PkAt w2 wr (.slice none 0 0) [] (.slice sa xs.length sc) xs))∧kv = .slice sa xs.length sc∧iv = .int .i64 i) (fun kv iv wr=>nl - (intOf iv).toNat)
 case atStart=>exact⟨0,[],none,0,⟨Nat.zero_le _,by rw[HKE.out];rfl,OwnR.nil _ _,OwnR.nil _ _,fun b q=>(by simp[Value.ownBlock] at q),Below.refl _ _⟩,rfl,rfl⟩
 case round =>
  obtain⟨i,xs,sa,sc,⟨ple,HP⟩,rfl,rfl⟩:=hrel
  rcases Nat.lt_or_ge i nl with c | c
  ·have cl:(i:Int)<nl:=by omega
   have HXL:Hid (xs.length≤4096∧i<4096):=by
    have:=keysE_len ob.el i
    rw[HP.out.1,HKE.out]
    have:=HPS.out.2.1
    exact⟨by omega,by omega⟩
   have ke:=HEL.out wr i HP.out.2.bel
   cases hv:elemI ob.el (i:Int) with
   | none =>
     rw[hv] at ke
     simp only[Option.getD_none,Option.isSome_none] at ke
     have HN:Hid (xs=kE (i+1)):=by
      have:=keysE_no hv
      rw[←HKE.out] at this
      show xs=_
      rw[this];exact HP.out.1
     have HC:Hid (i<nl):=c
     clear hv HEL HIT HKY HGT HEN HKE HPS HXL c
     go_wp2_with fail
     refine ke.mono ?_
     rintro e w3 ⟨rfl,rfl⟩
     clear ke
     go_wp2_with fail
     refine⟨⟨i+1,xs,sa,sc,⟨HC.out,⟨HN.out,HP.out.2⟩⟩,rfl,by go_num⟩,?_⟩
     have:=HC.out
     simp[intOf]
     omega
   | some v =>
     rw[hv] at ke
     simp only[Option.getD_some,Option.isSome_some] at ke
     have kit:=fun (r:Below w2.heap.size w2 wr)=>HIT.out wr i (by have:=HXL.out;omega) r
     have kit:=kit HP.out.2.bel
     have HN:Hid (kE (i+1)=xs++[dgI i]):=by
      have:=keysE_yes hv
      rw[←HKE.out] at this
      show kE (i+1)=_
      rw[this,HP.out.1]
     have HC:Hid (i<nl):=c
     clear hv HEL HIT HKY HGT HEN HKE HPS c
     go_wp2_with fail
     refine ke.mono ?_
     rintro e w3 ⟨rfl,rfl⟩
     clear ke
     generalize dgI i=dk at *
     go_wp2_with fail
     refine kit.mono ?_
     rintro e w4 ⟨rfl,hB4⟩
     have HP4:=(show Hid _ from HP.out.2.below hB4)
     clear kit hB4 HP
     have HAL:Hid (Below w4.heap.size w4 (w4.alloc (.cells #[.string dk] 9))):=(Below.refl _ _).alloc (Nat.le_refl _) _
     have HPA:=(show Hid _ from HP4.out.below HAL.out)
     have HOWN:Hid (OwnR strC 1 9 w2.heap.size (w4.alloc (.cells #[.string dk] 9)) (.slice sa xs.length sc) xs):=HPA.out.own
     have HONE:Hid (Sli.ok strC 1 (w4.alloc (.cells #[.string dk] 9)) ⟨some ⟨w4.heap.size,0,none⟩,1,[dk]⟩):=one_sli rtStr (at_new _ _) rfl
     have HSZ:Hid (w2.heap.size≤(w4.alloc (.cells #[.string dk] 9)).heap.size):=HPA.out.bel.size
     have HBX:Hid (((xs.length+1)+(xs.length+1) / 4+192)*16≤281474976710656∧xs.length+1≤maxLen):=by
      have h1:=HXL.out.1
      exact⟨by omega,by unfold maxLen;omega⟩
     clear HXL HP4
     go_wp2_with (at_builtin;refine app_row rtStr rfl _ _ rfl w2.heap.size (.slice sa xs.length sc) xs (by rfl) HOWN.out ⟨some ⟨w4.heap.size,0,none⟩,1,[dk]⟩ (by rfl) HONE.out HBX.out.2 HBX.out.1 HSZ.out ?_)
     intro v6 w6 ho6 hg6 hl6
     have hll:(xs++[dk]).length=xs.length+1:=by simp
     have ho7:w6.ownsRow w2.heap.size 9 1 v6 (xs.length+1) ((xs++[dk]).flatMap strC):=by rw[←hll];exact ho6
     obtain⟨g6,c6,rfl,_,_⟩:=ho7.form (by omega)
     have hpn:=HPA.out.app ho6 hg6 (by rw[size_new];exact hl6)
     have HPN:=(show Hid _ from hpn)
     have HLL:Hid ((xs++[dk]).length=xs.length+1):=hll
     clear ho6 ho7 hg6 hl6 hll hpn HAL HPA HOWN HONE HSZ HBX
     rw[←HN.out] at HPN HLL
     obtain⟨xs2,hx2⟩:∃y,y=kE (i+1):=⟨_,rfl⟩
     rw[←hx2] at HPN HLL
     have HX2:Hid (xs2=kE (i+1)):=hx2
     clear hx2 HN
     go_wp2_with fail
     refine⟨⟨i+1,xs2,some ⟨g6,0,none⟩,c6,⟨HC.out,⟨HX2.out,by rw[HLL.out];exact HPN.out⟩⟩,by rw[HLL.out],by go_num⟩,?_⟩
     have:=HC.out
     simp[intOf]
     omega
  ·have hil:¬((i:Int)<nl):=by omega
   have hie:i=nl:=by omega
   subst hie
   clear c HEL HIT ple hil
   have kk:=HKY.out wr HP.out.2.bel
   have HXX:Hid (xs.length≤4096∧xs=kE i):=by
    have:=keysE_len ob.el i
    have e:=HP.out.1
    have:=HPS.out.2.1
    refine⟨?_,e⟩
    rw[e,HKE.out]
    omega
   clear HKY
   go_wp2_with fail
   refine kk.mono ?_
   rintro e w3 ⟨kv,rfl,hko,hB3⟩
   obtain⟨⟨ka,kc,kx⟩,hse,hsx,hsok,hso⟩:=OwnR.sl rtStr.len hko
   simp only at hsx
   subst hsx
   have hP3:=HP.out.2.below hB3
   have hap:∀b,kv.val.ownBlock=some b→¬(Value.slice sa xs.length sc).ownBlock=some b:=fun b q r=>by
    have h1:=(hko.lt b q).1
    have h2:=(HP.out.2.own.lt b r).2
    omega
   have hP4:PkAt w2 w3 kv.val (ob.ps.map Pr.key) (.slice sa xs.length sc) xs:=⟨hP3.own,hko.low HP.out.2.bel.size,hap,hP3.bel⟩
   rw[hse] at hP4
   have HP4:=(show Hid _ from hP4)
   have hkl:(ob.ps.map Pr.key).length=ob.ps.length:=by simp
   rw[hse]
   unfold Sli.val at HP4 ⊢
   simp only at HP4 ⊢
   have HKL:Hid ((ob.ps.map Pr.key).length=ob.ps.length):=hkl
   clear kk hko hse hsok hso hP3 hap hP4 HP hkl
   generalize hks:ob.ps.map Pr.key=ks at *
   have HKS:Hid (ks=ob.ps.map Pr.key):=hks.symm
   clear hks
   generalize hnk:ks.length=nk at *
   have hnk2:(nk:Int)≤2000000000001:=by have:=HKL.out;have:=HPS.out.1;omega
   have HNK:Hid (ks.length=nk):=hnk
   clear hnk
   go_wp2_with fail
   go_loopw [5,37] (fun kv iv wr=>∃(l:Nat) (ys:List ByteArray) (sa:Option Addr) (sc:Nat),(l≤nk∧Hid (ys=xs++keysN ob.ps l∧PkAt w2 wr (.slice ka nk kc) ks (.slice sa ys.length sc) ys))∧kv = .slice sa ys.length sc∧iv = .int .i64 l) (fun kv iv wr=>nk - (intOf iv).toNat)
   case atStart =>
    refine⟨0,xs,sa,sc,⟨Nat.zero_le _,?_,HP4.out⟩,rfl,rfl⟩
    show xs=xs++[]
    rw[List.append_nil]
   case round =>
    clear HP4
    obtain⟨l,ys,sa,sc,⟨ple2,HP⟩,rfl,rfl⟩:=hrel
    have HXL:Hid (ys.length≤2000000004097∧True):=by
     have:=keysN_len ob.ps l
     have e:=HP.out.1
     have:=HPS.out.1
     have:=HXX.out.1
     refine⟨?_,trivial⟩
     rw[e,List.length_append]
     omega
    rcases Nat.lt_or_ge l nk with c | c
    ·have cl:(l:Int)<nk:=by omega
     have hkx:∃p,ob.ps[l]?=some p:=⟨_,List.getElem?_eq_getElem (by have:=HKL.out;omega)⟩
     obtain⟨p,hp⟩:=hkx
     have hkl:ks[l]?=some p.key:=by rw[HKS.out,List.getElem?_map,hp];rfl
     obtain⟨⟨ka2,kc2,kx2⟩,hse,hsx,hsok,_⟩:=OwnR.sl rtStr.len HP.out.2.rd
     simp only at hsx
     have hsx2:=hsx.symm
     subst hsx2
     unfold Sli.val at hse
     simp only[HNK.out] at hse
     injection hse with e1 e2 e3
     subst e1 e3
     obtain⟨b,off,e1,hcl⟩:=hsok.cells (by intro e;have e:ks=[]:=e;rw[e] at hkl;simp at hkl)
     simp only at e1
     subst e1
     have dk:=hcl l p.key hkl 0 _ rfl
     simp only[Nat.mul_one,Nat.add_zero] at dk
     have kg:=HGT.out wr l p hp HP.out.2.bel
     have HC:Hid (l<nk):=c
     cases hb:(bits .and .i64 p.de.fl 2 != 0) with
     | false =>
       have HN:Hid (ys=xs++keysN ob.ps (l+1)):=by
        show ys=_
        rw[keysN_no hp hb];exact HP.out.1
       have HPY:=(show Hid _ from HP.out.2)
       clear hp hkl hsok hcl HGT HEN HKE HPS HXX HXL HKL HKS HP c
       generalize p.de.fl=fl at *
       generalize p.de.va=va at *
       generalize p.de.se=se at *
       generalize p.key=pk at *
       go_wp2_with fail
       refine kg.mono ?_
       rintro e w5 ⟨rfl,hB5⟩
       have HP5:=(show Hid _ from (HPY.out.below hB5).below ((Below.refl _ _).alloc (Nat.le_refl _) (.cells #[.int .u64 va,.int .u64 se,.int .i64 fl] 41)))
       have hbx:=at_new w5 (.cells #[.int .u64 va,.int .u64 se,.int .i64 fl] 41)
       have x2:=cell_of_row _ _ 2 _ _ (0,0) hbx
       simp only[List.getElem?_toArray,List.getElem?_cons_zero,List.getElem?_cons_succ] at x2
       clear kg hB5 HPY hbx dk
       go_wp2_with fail
       refine⟨⟨l+1,ys,sa,sc,⟨HC.out,⟨HN.out,HP5.out⟩⟩,rfl,by go_num⟩,?_⟩
       have:=HC.out
       simp[intOf]
       omega
     | true =>
       have HN:Hid (xs++keysN ob.ps (l+1)=ys++[p.key]):=by
        show xs++keysN ob.ps (l+1)=_
        rw[keysN_yes hp hb,←List.append_assoc,←HP.out.1]
       have HPY:=(show Hid _ from HP.out.2)
       clear hp hkl hsok hcl HGT HEN HKE HPS HXX HKL HKS HP c
       generalize p.de.fl=fl at *
       generalize p.de.va=va at *
       generalize p.de.se=se at *
       generalize p.key=pk at *
       go_wp2_with fail
       refine kg.mono ?_
       rintro e w5 ⟨rfl,hB5⟩
       have HP5:=(show Hid _ from (HPY.out.below hB5).below ((Below.refl _ _).alloc (Nat.le_refl _) (.cells #[.int .u64 va,.int .u64 se,.int .i64 fl] 41)))
       have hbx:=at_new w5 (.cells #[.int .u64 va,.int .u64 se,.int .i64 fl] 41)
       have x2:=cell_of_row _ _ 2 _ _ (0,0) hbx
       simp only[List.getElem?_toArray,List.getElem?_cons_zero,List.getElem?_cons_succ] at x2
       clear kg hB5 HPY hbx dk
       go_upto_region 13 with fail
       generalize w5.alloc (.cells #[.int .u64 va,.int .u64 se,.int .i64 fl] 41)=w8 at *
       generalize w5.heap.size=b5 at *
       have HAL:Hid (Below w8.heap.size w8 (w8.alloc (.cells #[.string pk] 9))):=(Below.refl _ _).alloc (Nat.le_refl _) _
       have HPA:=(show Hid _ from HP5.out.below HAL.out)
       have HOWN:Hid (OwnR strC 1 9 w2.heap.size (w8.alloc (.cells #[.string pk] 9)) (.slice sa ys.length sc) ys):=HPA.out.own
       have HONE:Hid (Sli.ok strC 1 (w8.alloc (.cells #[.string pk] 9)) ⟨some ⟨w8.heap.size,0,none⟩,1,[pk]⟩):=one_sli rtStr (at_new _ _) rfl
       have HSZ:Hid (w2.heap.size≤(w8.alloc (.cells #[.string pk] 9)).heap.size):=HPA.out.bel.size
       have HBX:Hid (((ys.length+1)+(ys.length+1) / 4+192)*16≤281474976710656∧ys.length+1≤maxLen):=by
        have h1:=HXL.out.1
        exact⟨by omega,by unfold maxLen;omega⟩
       clear HXL HP5
       go_wp2_with (at_builtin;refine app_row rtStr rfl _ _ rfl w2.heap.size (.slice sa ys.length sc) ys (by rfl) HOWN.out ⟨some ⟨w8.heap.size,0,none⟩,1,[pk]⟩ (by rfl) HONE.out HBX.out.2 HBX.out.1 HSZ.out ?_)
       intro v6 w6 ho6 hg6 hl6
       have hll:(ys++[pk]).length=ys.length+1:=by simp
       have ho7:w6.ownsRow w2.heap.size 9 1 v6 (ys.length+1) ((ys++[pk]).flatMap strC):=by rw[←hll];exact ho6
       obtain⟨g6,c6,rfl,_,_⟩:=ho7.form (by omega)
       have hpn:=HPA.out.app ho6 hg6 (by rw[size_new];exact hl6)
       have HPN:=(show Hid _ from hpn)
       have HLL:Hid ((ys++[pk]).length=ys.length+1):=hll
       clear ho6 ho7 hg6 hl6 hll hpn HAL HPA HOWN HONE HSZ HBX
       rw[←HN.out] at HPN HLL
       obtain⟨xs2,hx2⟩:∃y,y=xs++keysN ob.ps (l+1):=⟨_,rfl⟩
       rw[←hx2] at HPN HLL
       have HX2:Hid (xs2=xs++keysN ob.ps (l+1)):=hx2
       clear hx2 HN
       go_wp2_with fail
       refine⟨⟨l+1,xs2,some ⟨g6,0,none⟩,c6,⟨HC.out,⟨HX2.out,by rw[HLL.out];exact HPN.out⟩⟩,by rw[HLL.out],by go_num⟩,?_⟩
       have:=HC.out
       simp[intOf]
       omega
    ·have hil:¬((l:Int)<nk):=by omega
     have hle:l=ob.ps.length:=by have:=HKL.out;omega
     have HF:Hid (OwnR strC 1 9 w2.heap.size wr (.slice sa ys.length sc) (keysO ob)∧Below w2.heap.size w2 wr):=by
      refine⟨?_,HP.out.2.bel⟩
      have e:keysO ob=ys:=by rw[HEN.out,HP.out.1,HXX.out.2,hle]
      rw[e]
      exact HP.out.2.own
     clear HP HGT HEN HKE HPS HXX HXL HKL HKS c
     go_wp2_with fail
     go_ret
     exact⟨⟨sa,ys.length,sc⟩,rfl,HF.out.1,HF.out.2⟩
theorem pkeys_at (h : HeapAt w B hb tg H M) (hn : H.neat) (hT : Lib.TabIs Tryz.prog w "internal/strconv.uint64pow10" .u64 Lib.pow10Tab) (o : Int) (o0 : 0 ≤ o) (o1 : o < 18446744073709551616) :
  Calls Tryz.prog 88 #[.pointer (some ⟨hb,0,none⟩),.int .u64 o] w fun e w'=>∃s:SV,e = .returned s.val∧OwnR strC 1 9 w.heap.size w' s.val (keysP H o)∧Below w.heap.size w w':=by
 unfold keysP
 cases hq:obO H o with
 | none=>exact pkeys_miss h o o0 o1 (obO_none hq)
 | some ob =>
   obtain⟨i,ho,hi⟩:=obO_some hq
   exact pkeys_hit h hn hT o o0 o1 ho hi
end
end Go.Proofs.YtahhionlbfhinaaGreatDoor.Hp
