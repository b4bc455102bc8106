/- YD, IN, ShelfI, XD -/
import Derived.Test.YtahhionlbfhinabGreatDoorB35
import Derived.Test.YtahhionlbfhinabGreatDoorB20
import Derived.OwnWalk
import Derived.Test.YtahhionlbfhinabGreatDoorProg
import Derived.Shelf.Strconv.Itoa3
import Derived.Test.YtahhionlbfhinabGreatDoorB9
import Derived.Test.YtahhionlbfhinabGreatDoorHY
import Derived.Test.YtahhionlbfhinabGreatDoorB26
import Derived.Lib.AppendIntMem
set_option linter.unusedVariables false
set_option linter.unusedSimpArgs false
set_option maxRecDepth 100000
set_option maxHeartbeats 40000000
namespace Go.Proofs.YtahhionlbfhinabGreatDoor.Hp
open Go.RowKit
def keysO (ob:Ob):List ByteArray:=((List.range ob.el.length).filter (fun n:Nat=>(elemI ob.el (n:Int)).isSome)).map dgI++(ob.ps.filter (fun p=>bits .and .i64 p.de.fl 2 != 0)).map Pr.key
def keysS (x:So):List ByteArray:=((List.range x.el.length).filter (fun n:Nat=>(elS x.el (n:Int)).isSome)).map dgI++((x.nm.zip x.ds).filter (fun q=>bits .and .i64 q.2.fl 2 != 0)).map Prod.fst
def keysP (H:He)(o:Int):List ByteArray:=match obO H o with
 | none=>[]
 | some ob=>keysO ob
def keysG (S:List So)(o:Int):List ByteArray:=match soO S o with
 | none=>[]
 | some x=>keysS x
section
variable {H H':He}{S:List So}{ts:List ByteArray}{o:Int}{k:ByteArray}{i:Nat}{ob:Ob}{x:So}{d:De}{n:Nat}
theorem zip_keys (ps:List Pr)(f:Int→Bool):(((ps.map Pr.key).zip (ps.map Pr.de)).filter (fun q=>f q.2.fl)).map Prod.fst=(ps.filter (fun p=>f p.de.fl)).map Pr.key:=by
 induction ps with
 | nil=>rfl
 | cons p ps ih =>
   rw[List.map_cons,List.map_cons,List.zip_cons_cons,List.filter_cons,List.filter_cons]
   split
   ·rw[List.map_cons,List.map_cons,ih]
   ·exact ih
theorem RelB.keys (h:RelB ob x):keysO ob=keysS x:=by
 unfold keysO keysS
 rw[h.nm,h.ds,zip_keys ob.ps (fun f=>bits .and .i64 f 2 != 0),←h.el]
 simp only[elS_I]
theorem RelG.keys (h:RelG H S ts)(o:Int):keysP H o=keysG S o:=by
 unfold keysP keysG
 rcases h.oo o with⟨e1,e2⟩ | ⟨ob,x,e1,e2,e3⟩
 ·rw[e1,e2]
 ·rw[e1,e2]
  exact e3.keys
theorem get_own (hn:ob.neat){p:Pr}(hp:p∈ob.ps):getO ob p.key=some p.de:=by
 obtain⟨i,hi⟩:=List.mem_iff_getElem?.1 hp
 have hpl:plc ob.ps p.key=some i:=plc_at hi rfl (fun j q hj hq e=>by
  have hk:=hn.kn
  have a:(ob.ps.map Pr.key)[i]?=some p.key:=by rw[List.getElem?_map,hi];rfl
  have b:(ob.ps.map Pr.key)[j]?=some p.key:=by rw[List.getElem?_map,hq,←e];rfl
  have:=(List.getElem?_inj (by rw[List.length_map];exact(List.getElem?_eq_some_iff.1 hq).1) hk).1 (b.trans a.symm)
  omega)
 unfold getO
 rw[hpl]
 simp only[Option.bind_some,hi,Option.map_some]
end
theorem infoS:(Tryz.prog.info? 9).map (fun i=>(i.zero,i.size,i.bytes))=some (some (.string ⟨#[]⟩),1,16):=by kernel_rfl
theorem made_str (n:Nat):(madeCells (Value.string ⟨#[]⟩).cells (n*1)).toList=(List.replicate n (⟨#[]⟩:ByteArray)).flatMap strC:=by
 apply List.ext_getElem?
 intro i
 have hz:(Value.string ⟨#[]⟩).cells=#[.string ⟨#[]⟩]:=rfl
 rw[hz]
 rcases Nat.lt_or_ge i (n*1) with c | c
 ·have e1:(List.replicate n (⟨#[]⟩:ByteArray))[i]?=some ⟨#[]⟩:=by rw[List.getElem?_replicate,if_pos (by omega)]
  have:(madeCells #[.string ⟨#[]⟩] (n*1)).toList[i]?=some (.string ⟨#[]⟩):=by
   simp only[madeCells,Array.toList_map,Array.toList_range,List.getElem?_map,List.getElem?_range c,Option.map_some]
   show some (#[Value.string ⟨#[]⟩][i % 1]!)=_
   rw[Nat.mod_one]
   rfl
  rw[this]
  have e2:=flat_at rtStr.len _ i _ e1 0 _ rfl
  rw[Nat.mul_one,Nat.add_zero] at e2
  rw[e2]
 ·rw[List.getElem?_eq_none (by rw[Array.length_toList,size_madeCells];exact c),List.getElem?_eq_none (by rw[flat_len rtStr.len,List.length_replicate];exact c)]
section
variable {w w' w1:World}{B hb:Nat}{O S:Nat→Prop}{H H':He}{M M':HV}{tg:Nat→Nat}
structure KyAt (w wr:World)(ks:List ByteArray)(k:Nat)(xs:List ByteArray):Prop where
 len:xs.length=ks.length
 eq:∀j,j<k→xs[j]?=ks[j]?
 own:OwnR strC 1 9 w.heap.size wr (.slice (some ⟨w.heap.size,0,none⟩) ks.length ks.length) xs
 bel:Below w.heap.size w wr
theorem keys_tab (w:World)(g off:Nat)(s:SV)(ps:List Pr)(B:Nat)(O:Nat→Prop)(hr:RowIn prC 5 116 B w O s ps)(hlen:ps.length≤2000000000001)(c0:w.cell? ⟨g,off,none⟩=some s.val) :
  Calls Tryz.prog 84 #[.pointer (some ⟨g,off,none⟩)] w fun e w'=>∃s2:SV,e = .returned s2.val∧OwnR strC 1 9 w.heap.size w' s2.val (ps.map Pr.key)∧Below w.heap.size w w':=by
 obtain⟨hl,h1,h2,h3⟩:=hr.open rtPr.len
 obtain⟨ad,len,cap⟩:=s
 simp only at hl h1 h2 h3
 subst hl
 unfold SV.val at c0
 simp only at c0
 obtain⟨i0,hi,hz0,hz1,hz2⟩:=info_parts infoS
 have H3:Hid (ps≠[]→∃g,ad=some ⟨g,0,none⟩∧B≤g∧g<w.heap.size∧O g∧(∀(i:Nat) (y:Pr),ps[i]?=some y→∀(j:Nat) (u:Value),(prC y)[j]?=some u→w.cell? ⟨g,i*5+j,none⟩=some u)∧∀n,w.frozen? ⟨g,n,none⟩=false):=h3
 have hlim:(ps.length:Int)≤2000000000001:=by omega
 have HL:Hid (ps.length≤2000000000001):=hlen
 have hkl:(ps.map Pr.key).length=ps.length:=by simp
 have HST:Hid (∀w1,w1.ownsRow w.heap.size 9 1 (.slice (some ⟨w.heap.size,0,none⟩) ps.length ps.length) ps.length (madeCells (Value.string ⟨#[]⟩).cells (ps.length*1)).toList→Below w.heap.size w w1→KyAt w w1 (ps.map Pr.key) 0 (List.replicate ps.length ⟨#[]⟩)):=fun w1 q1 q2=>⟨by simp,fun j hj=>by omega,by
  rw[hkl]
  unfold OwnR
  rw[List.length_replicate,←made_str]
  exact q1,q2⟩
 have HRD:Hid (∀wr k xs p,KyAt w wr (ps.map Pr.key) k xs→ps[k]?=some p→wr.frozen? ⟨w.heap.size,k,none⟩=false∧(∃u,wr.cell? ⟨w.heap.size,k,none⟩=some (.string u))∧KyAt w (wr.setCell ⟨w.heap.size,k,none⟩ (.string p.key)) (ps.map Pr.key) (k+1) (xs.set k p.key)):=fun wr k xs p q hp=>by
  have hk:k<ps.length:=(List.getElem?_eq_some_iff.1 hp).1
  have hkx:k<xs.length:=by rw[q.len,hkl];exact hk
  have hput:=q.own.put (j:=0) (u := .string p.key) (y':=p.key) rtStr.len (List.getElem?_eq_getElem hkx) (by omega) rfl
  simp only[Nat.mul_one,Nat.add_zero] at hput
  have dv:=q.own.at' rtStr.len (List.getElem?_eq_getElem hkx) (j:=0) rfl
  simp only[Nat.mul_one,Nat.add_zero] at dv
  refine⟨q.own.fz k,⟨_,dv⟩,by rw[List.length_set];exact q.len,fun j hj => ?_,hput,q.bel.setCell (by simp) _⟩
  by_cases c:j=k
  ·subst c
   rw[List.getElem?_set_self hkx,List.getElem?_map,hp]
   rfl
  ·rw[List.getElem?_set_ne (by omega)]
   exact q.eq j (by omega)
 have HEN:Hid (∀wr xs,KyAt w wr (ps.map Pr.key) ps.length xs→OwnR strC 1 9 w.heap.size wr (.slice (some ⟨w.heap.size,0,none⟩) ps.length ps.length) (ps.map Pr.key)∧Below w.heap.size w wr):=fun wr xs q=>by
  have e:xs=ps.map Pr.key:=by
   apply List.ext_getElem?
   intro j
   rcases Nat.lt_or_ge j ps.length with c | c
   ·exact q.eq j c
   ·rw[List.getElem?_eq_none (by rw[q.len,hkl];exact c),List.getElem?_eq_none (by rw[hkl];exact c)]
  have h1:=q.own
  rw[e,hkl] at h1
  exact⟨h1,q.bel⟩
 have HC0:Hid (w.cell? ⟨g,off,none⟩=some (.slice ad ps.length cap)):=c0
 generalize hkk:ps.map Pr.key=ks at *
 clear hr h1 h2 h3 hlen hkl hkk
 generalize hn:ps.length=n at *
 go_enter Tryz.func84,Tryz.ntmps84
 go_wp2_with (at_make;refine wpList_make_full _ rfl _ _ 31 rfl w.heap.size 9 i0 (.string ⟨#[]⟩) 1 Tryz.underlying31 hi hz0 hz1 _ _ _ _ n rfl rfl rfl rfl ?m1 ?m2 (Nat.le_refl _) ?_)
 case m1=>rw[hz2];have:=HL.out;omega
 case m2=>have:=HL.out;unfold maxLen;omega
 intro w1 hmade hg1
 have HS1:=(show Hid _ from HST.out w1 (by rw[Nat.mul_one];exact hmade) (below_grown hg1))
 have c0:=cells_below (below_grown hg1) _ _ HC0.out
 have HN:Hid (ps.length=n):=hn
 clear hmade hg1 HST hi hz0 hz1 hz2 hn
 go_wp2_with fail
 go_loopw [16] (fun p wr=>∃(k:Nat) (xs:List ByteArray),k≤n∧Hid (KyAt w wr ks k xs)∧p = .int .i64 (k:Int)) (fun p wr=>((n:Int) - intOf p).toNat)
 case atStart=>exact⟨0,_,Nat.zero_le _,HS1,rfl⟩
 case round =>
  clear HS1 c0
  obtain⟨k,xs,hk,HS,rfl⟩:=hrel
  by_cases c:k<n
  ·have hex:∃p,ps[k]?=some p:=⟨_,List.getElem?_eq_getElem (by rw[HN.out];exact c)⟩
   obtain⟨p,hp⟩:=hex
   obtain⟨gl,rfl,_,_,_,hcells,_⟩:=H3.out (by intro e;rw[e] at hp;simp at hp)
   have d0:=cells_below HS.out.bel _ _ (hcells k p hp 0 _ rfl)
   simp only[Nat.add_zero] at d0
   have c0:=cells_below HS.out.bel _ _ HC0.out
   obtain⟨f0,⟨u,du⟩,hnx⟩:=HRD.out wr k xs p HS.out hp
   have HX:=(show Hid _ from hnx)
   have hkk:(k:Int)<(n:Int):=by omega
   have hkd:decide ((k:Int)<(n:Int))=true:=decide_eq_true hkk
   have hw1:IntKind.i64.wrap ((k:Int)+1)=((k+1:Nat):Int):=by rw[IntKind.wrap_i64];omega
   have HK:Hid (k<n):=c
   clear hcells hnx HS hp H3 HRD HEN c hk HC0
   go_wp2_with fail
   refine⟨⟨k+1,_,by have:=HK.out;omega,HX,rfl⟩,?_⟩
   have:=HK.out
   simp[intOf]
   omega
  ·have hke:k=n:=by omega
   subst hke
   have hkk:¬((k:Int)<(k:Int)):=by omega
   have HE:=(show Hid _ from HEN.out wr xs HS.out)
   clear HS H3 HRD HEN c hk HC0
   go_wp2_with fail
   go_ret
   exact⟨⟨some ⟨w.heap.size,0,none⟩,k,k⟩,rfl,HE.out.1,HE.out.2⟩
theorem keys_at (h:HeapAt w B hb tg H M)(o:Int)(o0:0≤o)(o1:o<18446744073709551616){i:Nat}{ob:Ob}(ho:obI H o=some i)(hi:H.obs[i]?=some ob) :
  Calls Tryz.prog 43 #[.pointer (some ⟨hb,0,none⟩),.int .u64 o] w fun e w'=>∃s2:SV,e = .returned s2.val∧OwnR strC 1 9 w.heap.size w' s2.val (ob.ps.map Pr.key)∧Below w.heap.size w w':=by
 obtain⟨g,cap,ov,hvo,hov,t4,hne,hgl,hcell,hfz,hl1,hl2,hrow⟩:=h.obj hi
 have ka:=at_hit h o o0 o1 i g cap ho hvo
 have d4:=hcell 4 _ rfl
 simp only at d4
 have hwf:=h.wf.ob ob (List.mem_of_getElem? hi)
 have kk:=keys_tab w g (i*12+4) ov.vl ob.ps B _ (h.part hi hov 0 (by omega)) hwf.nx.2.2 d4
 generalize ob.ps.map Pr.key=ks at *
 clear h hi ho hvo hov t4 hne hgl hcell hfz hl1 hl2 hrow hwf d4
 go_enter Tryz.func43,Tryz.ntmps43
 go_wp2_with fail
 refine ka.mono ?_
 rintro e w2 ⟨rfl,rfl⟩
 clear ka
 go_wp2_with fail
 refine kk.mono ?_
 rintro e w3 ⟨s,rfl,hq1,hq2⟩
 have HQ:=(show Hid (OwnR strC 1 9 w2.heap.size w3 s.val ks∧Below w2.heap.size w2 w3) from ⟨hq1,hq2⟩)
 obtain⟨sa,sl,sc⟩:=s
 unfold SV.val at HQ ⊢
 simp only at HQ ⊢
 clear kk hq1 hq2
 go_wp2_with fail
 go_ret
 exact⟨⟨sa,sl,sc⟩,rfl,HQ.out.1,HQ.out.2⟩
end
end Go.Proofs.YtahhionlbfhinabGreatDoor.Hp
namespace Go.Proofs
open Go.Shelf
def Tryz.laysItoa_ren:Go.Shelf.Ren:=⟨fun | 171=>42 | 243=>83 | 246=>105 | 283=>119 | 284=>120 | 285=>121 | 286=>122 | 129=>135 | 317=>134 | 318=>136 | 319=>137 | 320=>138 | 337=>144 | 338=>145 | n=>n,fun | 3=>3 | 9=>9 | 2=>2 | 4=>4 | 171=>182 | 0=>0 | 53=>23 | 37=>181 | 5=>5 | 173=>185 | 212=>198 | 51=>58 | 20=>20 | 213=>199 | 46=>144 | 232=>207 | 233=>208 | n=>n,fun | 17=>2 | 18=>3 | 19=>4 | n=>n⟩
theorem Tryz.laysItoa:Go.Proofs.LaysM.n171 Tryz.prog Tryz.laysItoa_ren:={
 mixed:=by kernel_rfl
 f129:=Tryz.func135.trans (congrArg some (by kernel_rfl))
 f171:=Tryz.func42.trans (congrArg some (by kernel_rfl))
 f243:=Tryz.func83.trans (congrArg some (by kernel_rfl))
 f246:=Tryz.func105.trans (congrArg some (by kernel_rfl))
 f283:=Tryz.func119.trans (congrArg some (by kernel_rfl))
 f284:=Tryz.func120.trans (congrArg some (by kernel_rfl))
 f285:=Tryz.func121.trans (congrArg some (by kernel_rfl))
 f286:=Tryz.func122.trans (congrArg some (by kernel_rfl))
 f317:=Tryz.func134.trans (congrArg some (by kernel_rfl))
 f318:=Tryz.func136.trans (congrArg some (by kernel_rfl))
 f319:=Tryz.func137.trans (congrArg some (by kernel_rfl))
 f320:=Tryz.func138.trans (congrArg some (by kernel_rfl))
 f337:=Tryz.func144.trans (congrArg some (by kernel_rfl))
 f338:=Tryz.func145.trans (congrArg some (by kernel_rfl))
 t0:=Tryz.underlying0
 a0:=Tryz.isAgg0
 z0:=Tryz.sizeOf0
 v0:=Tryz.zeroValue0
 t2:=Tryz.underlying2
 a2:=Tryz.isAgg2
 z2:=Tryz.sizeOf2
 v2:=Tryz.zeroValue2
 t3:=Tryz.underlying3
 a3:=Tryz.isAgg3
 z3:=Tryz.sizeOf3
 v3:=Tryz.zeroValue3
 t4:=Tryz.underlying4
 a4:=Tryz.isAgg4
 z4:=Tryz.sizeOf4
 v4:=Tryz.zeroValue4
 t5:=Tryz.underlying5
 a5:=Tryz.isAgg5
 z5:=Tryz.sizeOf5
 v5:=Tryz.zeroValue5
 t9:=Tryz.underlying9
 a9:=Tryz.isAgg9
 z9:=Tryz.sizeOf9
 v9:=Tryz.zeroValue9
 t20:=Tryz.underlying20
 a20:=Tryz.isAgg20
 z20:=Tryz.sizeOf20
 v20:=Tryz.zeroValue20
 t37:=Tryz.underlying181
 a37:=Tryz.isAgg181
 z37:=Tryz.sizeOf181
 v37:=Tryz.zeroValue181
 t46:=Tryz.underlying144
 a46:=Tryz.isAgg144
 z46:=Tryz.sizeOf144
 v46:=Tryz.zeroValue144
 t51:=Tryz.underlying58
 a51:=Tryz.isAgg58
 z51:=Tryz.sizeOf58
 v51:=Tryz.zeroValue58
 t53:=Tryz.underlying23
 a53:=Tryz.isAgg23
 z53:=Tryz.sizeOf23
 v53:=Tryz.zeroValue23
 t171:=Tryz.underlying182
 a171:=Tryz.isAgg182
 z171:=Tryz.sizeOf182
 v171:=Tryz.zeroValue182
 t173:=Tryz.underlying185
 a173:=Tryz.isAgg185
 z173:=Tryz.sizeOf185
 v173:=Tryz.zeroValue185
 t212:=Tryz.underlying198
 a212:=Tryz.isAgg198
 z212:=Tryz.sizeOf198
 v212:=Tryz.zeroValue198
 t213:=Tryz.underlying199
 a213:=Tryz.isAgg199
 z213:=Tryz.sizeOf199
 t232:=Tryz.underlying207
 a232:=Tryz.isAgg207
 z232:=Tryz.sizeOf207
 v232:=Tryz.zeroValue207
 t233:=Tryz.underlying208
 a233:=Tryz.isAgg208
 z233:=Tryz.sizeOf208
 v233:=Tryz.zeroValue208
 g17:=by kernel_rfl
 g18:=by kernel_rfl
 g19:=by kernel_rfl
 i0:=by kernel_rfl
 i2:=by kernel_rfl
 i3:=by kernel_rfl
 i4:=by kernel_rfl
 i5:=by kernel_rfl
 i9:=by kernel_rfl
 i20:=by kernel_rfl
 i37:=by kernel_rfl
 i46:=by kernel_rfl
 i51:=by kernel_rfl
 i53:=by kernel_rfl
 i171:=by kernel_rfl
 i173:=by kernel_rfl
 i212:=by kernel_rfl
 i232:=by kernel_rfl
 i233:=by kernel_rfl
 m17:=by kernel_rfl
 m18:=by kernel_rfl
 m19:=by kernel_rfl }
end Go.Proofs
namespace Go.Proofs.YtahhionlbfhinabGreatDoor.Hp
open Go.RowKit
section
variable {w w' w1:World}{B hb:Nat}{H:He}{M:HV}{tg:Nat→Nat}
theorem itoa_any (n : Nat) (hn : n < 100000) (w : World) (ht : Lib.TabIs Tryz.prog w "internal/strconv.uint64pow10" .u64 Lib.pow10Tab) :
  Calls Tryz.prog 42 #[.int .i64 (n:Int)] w fun e w'=>e = .returned (.string (dgI n))∧Below w.heap.size w w':=by
 refine(Any.strconv_Itoa Tryz.laysItoa (n:Int) (by omega) (by omega) w ht).mono ?_
 rintro e w' ⟨rfl,k,os,rfl⟩
 exact⟨by rw[dg_itoa n hn],Lib.below_grow _ w (Nat.le_refl _) k os⟩
theorem len_miss (h:HeapAt w B hb tg H M)(o:Int)(o0:0≤o)(o1:o<18446744073709551616)(ho:obI H o=none) :
  Calls Tryz.prog 24 #[.pointer (some ⟨hb,0,none⟩),.int .u64 o] w fun e w'=>e = .returned (.int .i64 0)∧w'=w:=by
 have ka:=at_miss h o o0 o1 ho
 clear h ho
 go_enter Tryz.func24,Tryz.ntmps24
 go_wp2_with fail
 refine ka.mono ?_
 rintro e w2 ⟨rfl,rfl⟩
 clear ka
 go_wp2_with fail
 go_ret
 exact⟨rfl,rfl⟩
theorem keys_miss (h:HeapAt w B hb tg H M)(o:Int)(o0:0≤o)(o1:o<18446744073709551616)(ho:obI H o=none) :
  Calls Tryz.prog 43 #[.pointer (some ⟨hb,0,none⟩),.int .u64 o] w fun e w'=>e = .returned (.slice none 0 0)∧w'=w:=by
 have ka:=at_miss h o o0 o1 ho
 clear h ho
 go_enter Tryz.func43,Tryz.ntmps43
 go_wp2_with fail
 refine ka.mono ?_
 rintro e w2 ⟨rfl,rfl⟩
 clear ka
 go_wp2_with fail
 go_ret
 exact⟨rfl,rfl⟩
def keysE (el:List Int)(i:Nat):List ByteArray:=((List.range i).filter (fun n:Nat=>(elemI el (n:Int)).isSome)).map dgI
def keysN (ps:List Pr)(j:Nat):List ByteArray:=((ps.take j).filter (fun p=>bits .and .i64 p.de.fl 2 != 0)).map Pr.key
theorem keysE_yes {el:List Int}{i:Nat}{v:Int}(h:elemI el (i:Int)=some v):keysE el (i+1)=keysE el i++[dgI i]:=by
 unfold keysE
 rw[List.range_succ,List.filter_append,List.map_append,List.filter_cons]
 simp[h]
theorem keysE_no {el:List Int}{i:Nat}(h:elemI el (i:Int)=none):keysE el (i+1)=keysE el i:=by
 unfold keysE
 rw[List.range_succ,List.filter_append,List.map_append,List.filter_cons]
 simp[h]
theorem keysE_len (el:List Int)(i:Nat):(keysE el i).length≤i:=by
 unfold keysE
 rw[List.length_map]
 exact Nat.le_trans (List.length_filter_le _ _) (by rw[List.length_range];exact Nat.le_refl _)
theorem keysN_yes {ps:List Pr}{j:Nat}{p:Pr}(hp:ps[j]?=some p)(h:(bits .and .i64 p.de.fl 2 != 0)=true):keysN ps (j+1)=keysN ps j++[p.key]:=by
 unfold keysN
 rw[List.take_add_one,hp,List.filter_append,List.map_append]
 simp[h]
theorem keysN_no {ps:List Pr}{j:Nat}{p:Pr}(hp:ps[j]?=some p)(h:(bits .and .i64 p.de.fl 2 != 0)=false):keysN ps (j+1)=keysN ps j:=by
 unfold keysN
 rw[List.take_add_one,hp,List.filter_append,List.map_append]
 simp[h]
theorem keysN_len (ps:List Pr)(j:Nat):(keysN ps j).length≤ps.length:=by
 unfold keysN
 rw[List.length_map]
 exact Nat.le_trans (List.length_filter_le _ _) (List.length_take_le' _ _)
structure PkAt (w wr:World)(kv:Value)(ks:List ByteArray)(v:Value)(xs:List ByteArray):Prop where
 own:OwnR strC 1 9 w.heap.size wr v xs
 rd:OwnR strC 1 9 w.heap.size wr kv ks
 ap:∀b,kv.ownBlock=some b→¬v.ownBlock=some b
 bel:Below w.heap.size w wr
theorem PkAt.below {wr wr':World}{kv v:Value}{ks xs:List ByteArray}(h:PkAt w wr kv ks v xs)(hB:Below wr.heap.size wr wr'):PkAt w wr' kv ks v xs :=
 ⟨h.own.below hB,h.rd.below hB,h.ap,h.bel.trans (hB.mono h.bel.size)⟩
theorem PkAt.app {wr wr':World}{kv v v':Value}{ks xs ys:List ByteArray}(h:PkAt w wr kv ks v xs)(ho:OwnR strC 1 9 w.heap.size wr' v' ys)(hg:wr.grownBy wr' v.ownBlock)(hl:v'.ownBlock=v.ownBlock∨v'.ownBlock=some wr.heap.size):PkAt w wr' kv ks v' ys:=by
 have hc:Chg (fun b=>v.ownBlock=some b) wr wr':=Chg.of_grown (S:=fun b=>v.ownBlock=some b) hg (fun k q=>q)
 refine⟨ho,h.rd.kept hc (fun b q=>h.ap b q),fun b q r => ?_,hc.below h.bel h.bel.size (fun b q=>(h.own.lt b q).1)⟩
 rcases hl with e | e
 ·rw[e] at r;exact h.ap b q r
 ·rw[e] at r
  have:=(h.rd.lt b q).2
  have:wr.heap.size=b:=Option.some.inj r
  omega
theorem pkeys_miss (h:HeapAt w B hb tg H M)(o:Int)(o0:0≤o)(o1:o<18446744073709551616)(ho:obI H o=none) :
  Calls Tryz.prog 14 #[.pointer (some ⟨hb,0,none⟩),.int .u64 o] w fun e w'=>∃s:SV,e = .returned s.val∧OwnR strC 1 9 w.heap.size w' s.val []∧Below w.heap.size w w':=by
 have kl:=len_miss h o o0 o1 ho
 have HK:Hid (Calls Tryz.prog 43 #[.pointer (some ⟨hb,0,none⟩),.int .u64 o] w fun e w'=>e = .returned (.slice none 0 0)∧w'=w):=keys_miss h o o0 o1 ho
 clear h ho
 go_enter Tryz.func14,Tryz.ntmps14
 go_wp2_with fail
 refine kl.mono ?_
 rintro e w2 ⟨rfl,rfl⟩
 clear kl
 go_wp2_with fail
 go_loopw [5,16] (fun kv iv wr=>kv = .slice none 0 0∧iv = .int .i64 0∧wr=w2) (fun kv iv wr=>0)
 case atStart=>exact⟨rfl,rfl,rfl⟩
 case round =>
  obtain⟨rfl,rfl,hww⟩:=hrel
  have hw':=hww.symm
  subst hw'
  clear hww
  go_wp2_with fail
  refine HK.out.mono ?_
  rintro e w3 ⟨rfl,hw3⟩
  have hw':=hw3.symm
  subst hw'
  clear hw3
  go_wp2_with fail
  go_loopw [5,37] (fun kv iv wr=>kv = .slice none 0 0∧iv = .int .i64 0∧wr=w2) (fun kv iv wr=>0)
  case atStart=>exact⟨rfl,rfl,rfl⟩
  case round =>
   obtain⟨rfl,rfl,hww⟩:=hrel
   have hw':=hww.symm
   subst hw'
   clear hww
   go_wp2_with fail
   go_ret
   exact⟨.nil,rfl,OwnR.nil _ _,Below.refl _ _⟩
theorem plc_own {ob:Ob}(hn:ob.neat){j:Nat}{p:Pr}(hi:ob.ps[j]?=some p):plc ob.ps p.key=some j:=plc_at hi rfl (fun l q hl hq e=>by
 have hk:=hn.kn
 have a:(ob.ps.map Pr.key)[j]?=some p.key:=by rw[List.getElem?_map,hi];rfl
 have b:(ob.ps.map Pr.key)[l]?=some p.key:=by rw[List.getElem?_map,hq,←e];rfl
 have:=(List.getElem?_inj (by rw[List.length_map];exact(List.getElem?_eq_some_iff.1 hq).1) hk).1 (b.trans a.symm)
 omega)
theorem keysO_eq (ob:Ob):keysO ob=keysE ob.el ob.el.length++keysN ob.ps ob.ps.length:=by
 unfold keysO keysE keysN
 rw[List.take_length]
theorem pkeys_hit (h : HeapAt w B hb tg H M) (hn : H.neat) (hT : Lib.TabIs Tryz.prog w "internal/strconv.uint64pow10" .u64 Lib.pow10Tab) (o : Int) (o0 : 0 ≤ o) (o1 : o < 18446744073709551616) {i : Nat} {ob : Ob} (ho : obI H o = some i) (hi : H.obs[i]? = some ob) :
  Calls Tryz.prog 14 #[.pointer (some ⟨hb,0,none⟩),.int .u64 o] w fun e w'=>∃s:SV,e = .returned s.val∧OwnR strC 1 9 w.heap.size w' s.val (keysO ob)∧Below w.heap.size w w':=by
 have hnt:=hn ob (List.mem_of_getElem? hi)
 have hwf:=h.wf.ob ob (List.mem_of_getElem? hi)
 have HLN:Hid (ob.el.length≤4096∧ob.ps.length≤2000000000001):=⟨hwf.el,hwf.nx.2.2⟩
 have hel4:(ob.el.length:Int)≤4096:=by have:=HLN.out;omega
 have kln:=len_at h o o0 o1 ho hi
 have HEL:Hid (∀W n,Below w.heap.size w W→Calls Tryz.prog 41 #[.pointer (some ⟨hb,0,none⟩),.int .u64 o,.int .i64 n] W fun e w'=>e = .returned (.tuple #[.int .u64 ((elemI ob.el n).getD undW),.bool (elemI ob.el n).isSome])∧w'=W):=fun W n r=>elem_at (h.below r) o o0 o1 ho hi n
 have HIT:Hid (∀W (n:Nat),n<100000→Below w.heap.size w W→Calls Tryz.prog 42 #[.int .i64 (n:Int)] W fun e w'=>e = .returned (.string (dgI n))∧Below W.heap.size W w'):=fun W n hn r=>itoa_any n hn W (Lib.tabBelow_of_tabIs hT W r)
 have HKY:Hid (∀W,Below w.heap.size w W→Calls Tryz.prog 43 #[.pointer (some ⟨hb,0,none⟩),.int .u64 o] W fun e w'=>∃s2:SV,e = .returned s2.val∧OwnR strC 1 9 W.heap.size w' s2.val (ob.ps.map Pr.key)∧Below W.heap.size W w'):=fun W r=>keys_at (h.below r) o o0 o1 ho hi
 have HGT:Hid (∀(W:World) (j:Nat) (p:Pr),ob.ps[j]?=some p→Below w.heap.size w W→Calls Tryz.prog 26 #[.pointer (some ⟨hb,0,none⟩),.int .u64 o,.string p.key] W fun e w'=>e = .returned (.tuple #[.agg #[.int .u64 p.de.va,.int .u64 p.de.se,.int .i64 p.de.fl],.bool true])∧Below W.heap.size W w'):=fun W j p hp r=>get_any (h.below r) o o0 o1 ho hi (plc_own hnt hp) hp hnt (hwf.ks p (List.mem_of_getElem? hp))
 have HEN:Hid (keysO ob=keysE ob.el ob.el.length++keysN ob.ps ob.ps.length):=keysO_eq ob
 generalize hke:keysE ob.el=kE at *
 have HKE:Hid (kE=keysE ob.el):=hke.symm
 generalize hnl:ob.el.length=nl at *
 have HPS:Hid (ob.ps.length≤2000000000001∧nl≤4096∧(ob.ps.map Pr.key).length=ob.ps.length):=⟨HLN.out.2,HLN.out.1,by simp⟩
 clear h hn hT ho hi hnt hwf hke hnl HLN
 go_enter Tryz.func14,Tryz.ntmps14
 go_wp2_with fail
 refine kln.mono ?_
 rintro e w2 ⟨rfl,rfl⟩
 clear kln
 go_wp2_with fail
 go_loopw [5,16] (fun kv iv wr=>∃(i:Nat) (xs:List ByteArray) (sa:Option Addr) (sc:Nat),(i≤nl∧Hid (xs=kE i∧PkAt w2 wr (.slice none 0 0) [] (.slice sa xs.length sc) xs))∧kv = .slice sa xs.length sc∧iv = .int .i64 i) (fun kv iv wr=>nl - (intOf iv).toNat)
 case atStart=>exact⟨0,[],none,0,⟨Nat.zero_le _,by rw[HKE.out];rfl,OwnR.nil _ _,OwnR.nil _ _,fun b q=>(by simp[Value.ownBlock] at q),Below.refl _ _⟩,rfl,rfl⟩
 case round =>
  obtain⟨i,xs,sa,sc,⟨ple,HP⟩,rfl,rfl⟩:=hrel
  rcases Nat.lt_or_ge i nl with c | c
  ·have cl:(i:Int)<nl:=by omega
   have HXL:Hid (xs.length≤4096∧i<4096):=by
    have:=keysE_len ob.el i
    rw[HP.out.1,HKE.out]
    have:=HPS.out.2.1
    exact⟨by omega,by omega⟩
   have ke:=HEL.out wr i HP.out.2.bel
   cases hv:elemI ob.el (i:Int) with
   | none =>
     rw[hv] at ke
     simp only[Option.getD_none,Option.isSome_none] at ke
     have HN:Hid (xs=kE (i+1)):=by
      have:=keysE_no hv
      rw[←HKE.out] at this
      show xs=_
      rw[this];exact HP.out.1
     have HC:Hid (i<nl):=c
     clear hv HEL HIT HKY HGT HEN HKE HPS HXL c
     go_wp2_with fail
     refine ke.mono ?_
     rintro e w3 ⟨rfl,rfl⟩
     clear ke
     go_wp2_with fail
     refine⟨⟨i+1,xs,sa,sc,⟨HC.out,⟨HN.out,HP.out.2⟩⟩,rfl,by go_num⟩,?_⟩
     have:=HC.out
     simp[intOf]
     omega
   | some v =>
     rw[hv] at ke
     simp only[Option.getD_some,Option.isSome_some] at ke
     have kit:=fun (r:Below w2.heap.size w2 wr)=>HIT.out wr i (by have:=HXL.out;omega) r
     have kit:=kit HP.out.2.bel
     have HN:Hid (kE (i+1)=xs++[dgI i]):=by
      have:=keysE_yes hv
      rw[←HKE.out] at this
      show kE (i+1)=_
      rw[this,HP.out.1]
     have HC:Hid (i<nl):=c
     clear hv HEL HIT HKY HGT HEN HKE HPS c
     go_wp2_with fail
     refine ke.mono ?_
     rintro e w3 ⟨rfl,rfl⟩
     clear ke
     generalize dgI i=dk at *
     go_wp2_with fail
     refine kit.mono ?_
     rintro e w4 ⟨rfl,hB4⟩
     have HP4:=(show Hid _ from HP.out.2.below hB4)
     clear kit hB4 HP
     have HAL:Hid (Below w4.heap.size w4 (w4.alloc (.cells #[.string dk] 9))):=(Below.refl _ _).alloc (Nat.le_refl _) _
     have HPA:=(show Hid _ from HP4.out.below HAL.out)
     have HOWN:Hid (OwnR strC 1 9 w2.heap.size (w4.alloc (.cells #[.string dk] 9)) (.slice sa xs.length sc) xs):=HPA.out.own
     have HONE:Hid (Sli.ok strC 1 (w4.alloc (.cells #[.string dk] 9)) ⟨some ⟨w4.heap.size,0,none⟩,1,[dk]⟩):=one_sli rtStr (at_new _ _) rfl
     have HSZ:Hid (w2.heap.size≤(w4.alloc (.cells #[.string dk] 9)).heap.size):=HPA.out.bel.size
     have HBX:Hid (((xs.length+1)+(xs.length+1) / 4+192)*16≤281474976710656∧xs.length+1≤maxLen):=by
      have h1:=HXL.out.1
      exact⟨by omega,by unfold maxLen;omega⟩
     clear HXL HP4
     go_wp2_with (at_builtin;refine app_row rtStr rfl _ _ rfl w2.heap.size (.slice sa xs.length sc) xs (by rfl) HOWN.out ⟨some ⟨w4.heap.size,0,none⟩,1,[dk]⟩ (by rfl) HONE.out HBX.out.2 HBX.out.1 HSZ.out ?_)
     intro v6 w6 ho6 hg6 hl6
     have hll:(xs++[dk]).length=xs.length+1:=by simp
     have ho7:w6.ownsRow w2.heap.size 9 1 v6 (xs.length+1) ((xs++[dk]).flatMap strC):=by rw[←hll];exact ho6
     obtain⟨g6,c6,rfl,_,_⟩:=ho7.form (by omega)
     have hpn:=HPA.out.app ho6 hg6 (by rw[size_new];exact hl6)
     have HPN:=(show Hid _ from hpn)
     have HLL:Hid ((xs++[dk]).length=xs.length+1):=hll
     clear ho6 ho7 hg6 hl6 hll hpn HAL HPA HOWN HONE HSZ HBX
     rw[←HN.out] at HPN HLL
     obtain⟨xs2,hx2⟩:∃y,y=kE (i+1):=⟨_,rfl⟩
     rw[←hx2] at HPN HLL
     have HX2:Hid (xs2=kE (i+1)):=hx2
     clear hx2 HN
     go_wp2_with fail
     refine⟨⟨i+1,xs2,some ⟨g6,0,none⟩,c6,⟨HC.out,⟨HX2.out,by rw[HLL.out];exact HPN.out⟩⟩,by rw[HLL.out],by go_num⟩,?_⟩
     have:=HC.out
     simp[intOf]
     omega
  ·have hil:¬((i:Int)<nl):=by omega
   have hie:i=nl:=by omega
   subst hie
   clear c HEL HIT ple hil
   have kk:=HKY.out wr HP.out.2.bel
   have HXX:Hid (xs.length≤4096∧xs=kE i):=by
    have:=keysE_len ob.el i
    have e:=HP.out.1
    have:=HPS.out.2.1
    refine⟨?_,e⟩
    rw[e,HKE.out]
    omega
   clear HKY
   go_wp2_with fail
   refine kk.mono ?_
   rintro e w3 ⟨kv,rfl,hko,hB3⟩
   obtain⟨⟨ka,kc,kx⟩,hse,hsx,hsok,hso⟩:=OwnR.sl rtStr.len hko
   simp only at hsx
   subst hsx
   have hP3:=HP.out.2.below hB3
   have hap:∀b,kv.val.ownBlock=some b→¬(Value.slice sa xs.length sc).ownBlock=some b:=fun b q r=>by
    have h1:=(hko.lt b q).1
    have h2:=(HP.out.2.own.lt b r).2
    omega
   have hP4:PkAt w2 w3 kv.val (ob.ps.map Pr.key) (.slice sa xs.length sc) xs:=⟨hP3.own,hko.low HP.out.2.bel.size,hap,hP3.bel⟩
   rw[hse] at hP4
   have HP4:=(show Hid _ from hP4)
   have hkl:(ob.ps.map Pr.key).length=ob.ps.length:=by simp
   rw[hse]
   unfold Sli.val at HP4 ⊢
   simp only at HP4 ⊢
   have HKL:Hid ((ob.ps.map Pr.key).length=ob.ps.length):=hkl
   clear kk hko hse hsok hso hP3 hap hP4 HP hkl
   generalize hks:ob.ps.map Pr.key=ks at *
   have HKS:Hid (ks=ob.ps.map Pr.key):=hks.symm
   clear hks
   generalize hnk:ks.length=nk at *
   have hnk2:(nk:Int)≤2000000000001:=by have:=HKL.out;have:=HPS.out.1;omega
   have HNK:Hid (ks.length=nk):=hnk
   clear hnk
   go_wp2_with fail
   go_loopw [5,37] (fun kv iv wr=>∃(l:Nat) (ys:List ByteArray) (sa:Option Addr) (sc:Nat),(l≤nk∧Hid (ys=xs++keysN ob.ps l∧PkAt w2 wr (.slice ka nk kc) ks (.slice sa ys.length sc) ys))∧kv = .slice sa ys.length sc∧iv = .int .i64 l) (fun kv iv wr=>nk - (intOf iv).toNat)
   case atStart =>
    refine⟨0,xs,sa,sc,⟨Nat.zero_le _,?_,HP4.out⟩,rfl,rfl⟩
    show xs=xs++[]
    rw[List.append_nil]
   case round =>
    clear HP4
    obtain⟨l,ys,sa,sc,⟨ple2,HP⟩,rfl,rfl⟩:=hrel
    have HXL:Hid (ys.length≤2000000004097∧True):=by
     have:=keysN_len ob.ps l
     have e:=HP.out.1
     have:=HPS.out.1
     have:=HXX.out.1
     refine⟨?_,trivial⟩
     rw[e,List.length_append]
     omega
    rcases Nat.lt_or_ge l nk with c | c
    ·have cl:(l:Int)<nk:=by omega
     have hkx:∃p,ob.ps[l]?=some p:=⟨_,List.getElem?_eq_getElem (by have:=HKL.out;omega)⟩
     obtain⟨p,hp⟩:=hkx
     have hkl:ks[l]?=some p.key:=by rw[HKS.out,List.getElem?_map,hp];rfl
     obtain⟨⟨ka2,kc2,kx2⟩,hse,hsx,hsok,_⟩:=OwnR.sl rtStr.len HP.out.2.rd
     simp only at hsx
     have hsx2:=hsx.symm
     subst hsx2
     unfold Sli.val at hse
     simp only[HNK.out] at hse
     injection hse with e1 e2 e3
     subst e1 e3
     obtain⟨b,off,e1,hcl⟩:=hsok.cells (by intro e;have e:ks=[]:=e;rw[e] at hkl;simp at hkl)
     simp only at e1
     subst e1
     have dk:=hcl l p.key hkl 0 _ rfl
     simp only[Nat.mul_one,Nat.add_zero] at dk
     have kg:=HGT.out wr l p hp HP.out.2.bel
     have HC:Hid (l<nk):=c
     cases hb:(bits .and .i64 p.de.fl 2 != 0) with
     | false =>
       have HN:Hid (ys=xs++keysN ob.ps (l+1)):=by
        show ys=_
        rw[keysN_no hp hb];exact HP.out.1
       have HPY:=(show Hid _ from HP.out.2)
       clear hp hkl hsok hcl HGT HEN HKE HPS HXX HXL HKL HKS HP c
       generalize p.de.fl=fl at *
       generalize p.de.va=va at *
       generalize p.de.se=se at *
       generalize p.key=pk at *
       go_wp2_with fail
       refine kg.mono ?_
       rintro e w5 ⟨rfl,hB5⟩
       have HP5:=(show Hid _ from (HPY.out.below hB5).below ((Below.refl _ _).alloc (Nat.le_refl _) (.cells #[.int .u64 va,.int .u64 se,.int .i64 fl] 39)))
       have hbx:=at_new w5 (.cells #[.int .u64 va,.int .u64 se,.int .i64 fl] 39)
       have x2:=cell_of_row _ _ 2 _ _ (0,0) hbx
       simp only[List.getElem?_toArray,List.getElem?_cons_zero,List.getElem?_cons_succ] at x2
       clear kg hB5 HPY hbx dk
       go_wp2_with fail
       refine⟨⟨l+1,ys,sa,sc,⟨HC.out,⟨HN.out,HP5.out⟩⟩,rfl,by go_num⟩,?_⟩
       have:=HC.out
       simp[intOf]
       omega
     | true =>
       have HN:Hid (xs++keysN ob.ps (l+1)=ys++[p.key]):=by
        show xs++keysN ob.ps (l+1)=_
        rw[keysN_yes hp hb,←List.append_assoc,←HP.out.1]
       have HPY:=(show Hid _ from HP.out.2)
       clear hp hkl hsok hcl HGT HEN HKE HPS HXX HKL HKS HP c
       generalize p.de.fl=fl at *
       generalize p.de.va=va at *
       generalize p.de.se=se at *
       generalize p.key=pk at *
       go_wp2_with fail
       refine kg.mono ?_
       rintro e w5 ⟨rfl,hB5⟩
       have HP5:=(show Hid _ from (HPY.out.below hB5).below ((Below.refl _ _).alloc (Nat.le_refl _) (.cells #[.int .u64 va,.int .u64 se,.int .i64 fl] 39)))
       have hbx:=at_new w5 (.cells #[.int .u64 va,.int .u64 se,.int .i64 fl] 39)
       have x2:=cell_of_row _ _ 2 _ _ (0,0) hbx
       simp only[List.getElem?_toArray,List.getElem?_cons_zero,List.getElem?_cons_succ] at x2
       clear kg hB5 HPY hbx dk
       go_upto_region 13 with fail
       generalize w5.alloc (.cells #[.int .u64 va,.int .u64 se,.int .i64 fl] 39)=w8 at *
       generalize w5.heap.size=b5 at *
       have HAL:Hid (Below w8.heap.size w8 (w8.alloc (.cells #[.string pk] 9))):=(Below.refl _ _).alloc (Nat.le_refl _) _
       have HPA:=(show Hid _ from HP5.out.below HAL.out)
       have HOWN:Hid (OwnR strC 1 9 w2.heap.size (w8.alloc (.cells #[.string pk] 9)) (.slice sa ys.length sc) ys):=HPA.out.own
       have HONE:Hid (Sli.ok strC 1 (w8.alloc (.cells #[.string pk] 9)) ⟨some ⟨w8.heap.size,0,none⟩,1,[pk]⟩):=one_sli rtStr (at_new _ _) rfl
       have HSZ:Hid (w2.heap.size≤(w8.alloc (.cells #[.string pk] 9)).heap.size):=HPA.out.bel.size
       have HBX:Hid (((ys.length+1)+(ys.length+1) / 4+192)*16≤281474976710656∧ys.length+1≤maxLen):=by
        have h1:=HXL.out.1
        exact⟨by omega,by unfold maxLen;omega⟩
       clear HXL HP5
       go_wp2_with (at_builtin;refine app_row rtStr rfl _ _ rfl w2.heap.size (.slice sa ys.length sc) ys (by rfl) HOWN.out ⟨some ⟨w8.heap.size,0,none⟩,1,[pk]⟩ (by rfl) HONE.out HBX.out.2 HBX.out.1 HSZ.out ?_)
       intro v6 w6 ho6 hg6 hl6
       have hll:(ys++[pk]).length=ys.length+1:=by simp
       have ho7:w6.ownsRow w2.heap.size 9 1 v6 (ys.length+1) ((ys++[pk]).flatMap strC):=by rw[←hll];exact ho6
       obtain⟨g6,c6,rfl,_,_⟩:=ho7.form (by omega)
       have hpn:=HPA.out.app ho6 hg6 (by rw[size_new];exact hl6)
       have HPN:=(show Hid _ from hpn)
       have HLL:Hid ((ys++[pk]).length=ys.length+1):=hll
       clear ho6 ho7 hg6 hl6 hll hpn HAL HPA HOWN HONE HSZ HBX
       rw[←HN.out] at HPN HLL
       obtain⟨xs2,hx2⟩:∃y,y=xs++keysN ob.ps (l+1):=⟨_,rfl⟩
       rw[←hx2] at HPN HLL
       have HX2:Hid (xs2=xs++keysN ob.ps (l+1)):=hx2
       clear hx2 HN
       go_wp2_with fail
       refine⟨⟨l+1,xs2,some ⟨g6,0,none⟩,c6,⟨HC.out,⟨HX2.out,by rw[HLL.out];exact HPN.out⟩⟩,by rw[HLL.out],by go_num⟩,?_⟩
       have:=HC.out
       simp[intOf]
       omega
    ·have hil:¬((l:Int)<nk):=by omega
     have hle:l=ob.ps.length:=by have:=HKL.out;omega
     have HF:Hid (OwnR strC 1 9 w2.heap.size wr (.slice sa ys.length sc) (keysO ob)∧Below w2.heap.size w2 wr):=by
      refine⟨?_,HP.out.2.bel⟩
      have e:keysO ob=ys:=by rw[HEN.out,HP.out.1,HXX.out.2,hle]
      rw[e]
      exact HP.out.2.own
     clear HP HGT HEN HKE HPS HXX HXL HKL HKS c
     go_wp2_with fail
     go_ret
     exact⟨⟨sa,ys.length,sc⟩,rfl,HF.out.1,HF.out.2⟩
theorem pkeys_at (h : HeapAt w B hb tg H M) (hn : H.neat) (hT : Lib.TabIs Tryz.prog w "internal/strconv.uint64pow10" .u64 Lib.pow10Tab) (o : Int) (o0 : 0 ≤ o) (o1 : o < 18446744073709551616) :
  Calls Tryz.prog 14 #[.pointer (some ⟨hb,0,none⟩),.int .u64 o] w fun e w'=>∃s:SV,e = .returned s.val∧OwnR strC 1 9 w.heap.size w' s.val (keysP H o)∧Below w.heap.size w w':=by
 unfold keysP
 cases hq:obO H o with
 | none=>exact pkeys_miss h o o0 o1 (obO_none hq)
 | some ob =>
   obtain⟨i,ho,hi⟩:=obO_some hq
   exact pkeys_hit h hn hT o o0 o1 ho hi
end
end Go.Proofs.YtahhionlbfhinabGreatDoor.Hp
