/- HL, HM, IE, HR, IF, IV, KA -/
import Derived.Test.YtahhionlbfhinabGreatDoorB8
import Derived.Laws.Bits128
import Derived.Test.YtahhionlbfhinabGreatDoorB7
set_option linter.unusedVariables false
set_option linter.unusedSimpArgs false
set_option maxRecDepth 100000
set_option maxHeartbeats 40000000
namespace Go.Proofs.YtahhionlbfhinabGreatDoor.Hp
open Go.RowKit
def plc (ps:List Pr)(k:ByteArray):Option Nat:=ps.findIdx? (fun p=>decide (p.key=k))
theorem plc_some {ps:List Pr}{k:ByteArray}{i:Nat}(h:plc ps k=some i):(∃p,ps[i]?=some p∧p.key=k)∧∀j p,j<i→ps[j]?=some p→p.key≠k:=by
 unfold plc at h
 rw[List.findIdx?_eq_some_iff_getElem] at h
 obtain⟨h1,h2,h3⟩:=h
 refine⟨⟨_,List.getElem?_eq_getElem h1,by simpa using h2⟩,fun j p hj e => ?_⟩
 have h4:=h3 j hj
 obtain⟨a,b⟩:=List.getElem?_eq_some_iff.1 e
 rw[b] at h4
 simpa using h4
theorem plc_none {ps:List Pr}{k:ByteArray}(h:plc ps k=none):∀p∈ps,p.key≠k:=by
 intro p hp e
 unfold plc at h
 rw[List.findIdx?_eq_none_iff] at h
 have:=h p hp
 simp at this
 exact this e
theorem plc_at {ps:List Pr}{k:ByteArray}{i:Nat}{p:Pr}(h:ps[i]?=some p)(hk:p.key=k)(hb:∀j q,j<i→ps[j]?=some q→q.key≠k):plc ps k=some i:=by
 unfold plc
 rw[List.findIdx?_eq_some_iff_getElem]
 obtain⟨a,b⟩:=List.getElem?_eq_some_iff.1 h
 refine⟨a,by rw[b];simpa using hk,fun j hj => ?_⟩
 have:=hb j _ hj (List.getElem?_eq_getElem (by omega))
 simpa using this
theorem plc_not {ps:List Pr}{k:ByteArray}(h:∀(j:Nat) q,ps[j]?=some q→q.key≠k):plc ps k=none:=by
 unfold plc
 rw[List.findIdx?_eq_none_iff]
 intro p hp
 obtain⟨j,hj⟩:=List.mem_iff_getElem?.1 hp
 simpa using h j p hj
def nOf (o:Option Nat):Int:=((o.map (fun (n:Nat)=>(n:Int))).getD 0)
theorem RowIn.open {β:Type}{enc:β→List Value}{k:Nat}{e:TypeId}{B:Nat}{w:World}{O:Nat→Prop}{s:SV}{xs:List β}(hk:∀y,(enc y).length=k)(h:RowIn enc k e B w O s xs):s.len=xs.length∧xs.length≤s.cap∧s.cap≤maxLen∧(xs≠[]→∃g,s.ad=some ⟨g,0,none⟩∧B≤g∧g<w.heap.size∧O g∧(∀(i:Nat)(y:β),xs[i]?=some y→∀(j:Nat)(u:Value),(enc y)[j]?=some u→w.cell? ⟨g,i*k+j,none⟩=some u)∧∀n,w.frozen? ⟨g,n,none⟩=false):=by
 obtain⟨h1,h2⟩:=h
 rcases hs:s with⟨ad,len,cap⟩
 rw[hs] at h1 h2
 unfold SV.val at h1 h2
 simp only at h1 h2 ⊢
 rcases h1.2 with⟨e1,e0⟩ | ⟨g,cap',cur,e1,hb,hg,hn,hc,hcs,ht⟩
 ·injection e1 with e1 e2 e3
  subst e1 e2 e3
  have:=List.eq_nil_of_length_eq_zero e0
  subst this
  exact⟨rfl,by simp,by simp,fun q=>absurd rfl q⟩
 ·injection e1 with e1 e2 e3
  subst e1 e2 e3
  exact⟨rfl,hn,hc,fun _=>⟨g,rfl,hb,(Array.getElem?_eq_some_iff.1 hg).1,h2 g rfl,fun i y hi j u hj=>OwnR.at' hk h1 hi hj,fun n=>h1.fz n⟩⟩
theorem find_nil (w:World)(g off:Nat)(s:SV)(ps:List Pr)(B:Nat)(O:Nat→Prop)(hr:RowIn prC 5 116 B w O s ps)(c0:w.cell? ⟨g,off,none⟩=some s.val)(c1:w.cell? ⟨g,off+1,none⟩=some (.map none))(k:ByteArray) :
  Calls Tryz.prog 59 #[.pointer (some ⟨g,off,none⟩),.string k] w fun e w'=>e = .returned (.tuple #[.int .i64 (nOf (plc ps k)),.bool (plc ps k).isSome])∧w'=w:=by
 obtain⟨hl,h1,h2,h3⟩:=hr.open rtPr.len
 obtain⟨ad,len,cap⟩:=s
 simp only at hl h1 h2 h3
 subst hl
 unfold SV.val at c0
 simp only at c0
 have hlim:(ps.length:Int)≤9223372036854775807:=by unfold maxLen at h2;omega
 have q69:∀(w:World) (r:Option Nat),(binOp .neq 92 (.map r) (.map none)).run Tryz.prog w = .ok (.bool (!r.isNone)) w:=fun w r=>run_neq_map_nil w _ _ _ r Tryz.underlying92
 have H3:Hid (ps≠[]→∃g,ad=some ⟨g,0,none⟩∧B≤g∧g<w.heap.size∧O g∧(∀(i:Nat) (y:Pr),ps[i]?=some y→∀(j:Nat) (u:Value),(prC y)[j]?=some u→w.cell? ⟨g,i*5+j,none⟩=some u)∧∀n,w.frozen? ⟨g,n,none⟩=false):=h3
 have HA:Hid (∀j q,j<0→ps[j]?=some q→q.key≠k):=fun j q hj=>by omega
 generalize hR:plc ps k=R at *
 have HPL:Hid (plc ps k=R):=hR
 clear hr h1 h2 h3 hR
 go_enter Tryz.func59,Tryz.ntmps59
 go_wp2_with fail
 go_loopw [38] (fun p wr=>∃i:Nat,i≤ps.length∧Hid (∀j q,j<i→ps[j]?=some q→q.key≠k)∧p = .int .i64 (i:Int)∧wr=w) (fun p wr=>((ps.length:Int) - intOf p).toNat)
 case atStart=>exact⟨0,Nat.zero_le _,HA,rfl,rfl⟩
 case round =>
  clear HA
  obtain⟨i,hi,hh,rfl,rfl⟩:=hrel
  by_cases c:i<ps.length
  ·have hex:∃p,ps[i]?=some p:=⟨_,List.getElem?_eq_getElem c⟩
   obtain⟨p,hp⟩:=hex
   obtain⟨gl,rfl,_,_,_,hcells,_⟩:=H3.out (by intro e;rw[e] at c;simp at c)
   have d0:=hcells i p hp 0 _ rfl
   simp only[Nat.add_zero] at d0
   have hii:(i:Int)<(ps.length:Int):=by omega
   have hii2:decide ((i:Int)<(ps.length:Int))=true:=decide_eq_true hii
   have hw1:IntKind.i64.wrap ((i:Int)+1)=((i+1:Nat):Int):=by rw[IntKind.wrap_i64];omega
   have HP:Hid (ps[i]?=some p):=hp
   have HI:Hid (i<ps.length):=c
   clear hcells hp H3 c hi
   by_cases ck:p.key=k
   ·have hpl:plc ps k=some i:=plc_at HP.out ck hh.out
    have hRi:R=some i:=by rw[←HPL.out];exact hpl
    subst hRi
    rw[ck] at d0
    have hee:=Sp.bytes_yes k
    clear ck hpl HP HPL
    go_wp2_with fail
    go_ret2
    exact⟨rfl,rfl⟩
   ·have hee:=Sp.bytes_no ck
    have hnx:Hid (∀j q,j<i+1→ps[j]?=some q→q.key≠k):=fun j q hj e=>by
     rcases Nat.lt_succ_iff_lt_or_eq.1 hj with c | c
     ·exact hh.out j q c e
     ·rw[c,HP.out] at e
      rw[←Option.some.inj e]
      exact ck
    clear hh HP ck
    go_wp2_with fail
    refine⟨⟨i+1,by have:=HI.out;omega,hnx,rfl,by first | rfl | trivial⟩,?_⟩
    have:=HI.out
    simp[intOf]
    omega
  ·have hpl:plc ps k=none:=plc_not (fun j q e=>hh.out j q (by have:=(List.getElem?_eq_some_iff.1 e).1;omega) e)
   have hRi:R=none:=by rw[←HPL.out];exact hpl
   subst hRi
   have hii:¬(i:Int)<(ps.length:Int):=by omega
   clear hpl H3 hh hi c HPL
   go_wp2_with fail
   go_ret2
   exact⟨rfl,rfl⟩
def keptI (f:Int):Int:=if f % 16<8 then f % 16 else f % 16 / 2*2
theorem and15 (n:Int):bits .and .i64 n 15=n % 16:=by
 have h15:(BitVec.ofInt 64 15).toNat=2 ^ 4 - 1:=by decide
 have key:(BitVec.ofInt 64 n &&& BitVec.ofInt 64 15).toNat=(n % ((2 ^ 64:Nat):Int)).toNat % 2 ^ 4:=by
  rw[BitVec.toNat_and,BitVec.toNat_ofInt,h15,Nat.and_two_pow_sub_one_eq_mod]
 show IntKind.i64.wrap ((BitVec.ofInt 64 n &&& BitVec.ofInt 64 15).toNat:Nat)=n % 16
 rw[key,IntKind.wrap_i64]
 omega
theorem sixteen {m:Int}(h0:0≤m)(h1:m<16):m=0∨m=1∨m=2∨m=3∨m=4∨m=5∨m=6∨m=7∨m=8∨m=9∨m=10∨m=11∨m=12∨m=13∨m=14∨m=15:=by omega
theorem and8 {m:Int}(h0:0≤m)(h1:m<16):bits .and .i64 m 8=if m<8 then 0 else 8:=by
 rcases sixteen h0 h1 with rfl | rfl | rfl | rfl | rfl | rfl | rfl | rfl | rfl | rfl | rfl | rfl | rfl | rfl | rfl | rfl <;> decide
theorem not1 {m:Int}(h0:0≤m)(h1:m<16):bits .andNot .i64 m 1=m / 2*2:=by
 rcases sixteen h0 h1 with rfl | rfl | rfl | rfl | rfl | rfl | rfl | rfl | rfl | rfl | rfl | rfl | rfl | rfl | rfl | rfl <;> decide
theorem kept_any (w:World)(f:Int):Calls Tryz.prog 111 #[.int .i64 f] w fun e w'=>e = .returned (.int .i64 (keptI f))∧w'=w:=by
 have h1:=and15 f
 have h2:=and8 (m:=f % 16) (by omega) (by omega)
 have h3:=not1 (m:=f % 16) (by omega) (by omega)
 unfold keptI
 by_cases c:f % 16<8
 ·rw[if_pos c] at h2 ⊢
  generalize f % 16=m at *
  clear h3 c
  go_enter Tryz.func111,Tryz.ntmps111
  go_wp2
  go_ret
  exact⟨rfl,rfl⟩
 ·rw[if_neg c] at h2 ⊢
  generalize hm:f % 16=m at *
  generalize m / 2*2=k at *
  clear c hm
  go_enter Tryz.func111,Tryz.ntmps111
  go_wp2
  go_ret
  exact⟨rfl,rfl⟩
theorem kept_bd (f:Int):0≤keptI f∧keptI f≤15:=by unfold keptI;split <;> omega
theorem res2 {P:Program}{fn:Func}{p a:Tmp}{ty:TypeId}(h:fn.results=#[.cell p ty,.tmp a])(tmps:Array Value)(w:World)(g:Nat)(t:TypeId)(cs:Array Value)(fr:Nat×Nat)(d:TypeDesc)
  (hp:tmps.getD p undef = .pointer (some ⟨g,0,none⟩)) (hg:w.heap[g]?=some (.cells cs t fr))
  (hu:P.underlying ty=some d) (hd:(match d with | .struct _ | .array _ _=>true | _=>false)=true) (hi:(P.info? ty).map (·.size)=some cs.size) :
  (results fn tmps).run P w = .ok (.tuple #[.agg cs,tmps.getD a undef]) w:=by
 have hp':tmps[p]?.getD undef = .pointer (some ⟨g,0,none⟩):=by simpa using hp
 simp[results,h,hp',asAddr,run_loadVar_row w g t ty cs fr d hg hu hd hi]
def FindSays (W:World)(g i:Nat)(k:ByteArray)(r:Option Nat):Prop:=Calls Tryz.prog 59 #[.pointer (some ⟨g,i*12+4,none⟩),.string k] W fun e w'=>e = .returned (.tuple #[.int .i64 (nOf r),.bool r.isSome])∧w'=W
section
variable {w w' w1:World}{B hb:Nat}{O S:Nat→Prop}{H H':He}{M M':HV}{tg:Nat→Nat}
theorem HeapAt.part (h:HeapAt w B hb tg H M){i:Nat}{ob:Ob}{ov:OV}(hi:H.obs[i]?=some ob)(hv:M.ovs[i]?=some ov)(c:Nat)(hc:c<4):ObP w B (fun b=>tg b=7+4*i+c) ob ov c:=by
 have hp:=h.prt (4*i+c+7) ob ov (by rw[show(4*i+c) / 4=i by omega];exact hi) (by rw[show(4*i+c) / 4=i by omega];exact hv)
 rw[show(4*i+c) % 4=c by omega,show 4*i+c+7=7+4*i+c by omega] at hp
 exact hp
theorem vm_none {ob:Ob}{ov:OV}(h:ObP w B O ob ov 1)(hm:ob.hm=false):ov.vm=none:=by
 have h1:=h.1
 rw[hm] at h1
 cases hv:ov.vm with
 | none=>rfl
 | some b=>rw[hv] at h1;cases h1
theorem find_at (h:HeapAt w B hb tg H M){i g cap:Nat}{ob:Ob}{ov:OV}(hi:H.obs[i]?=some ob)(hv:M.ovs[i]?=some ov)(hvo:M.vo=⟨some ⟨g,0,none⟩,H.obs.length,cap⟩)(hm:ob.hm=false)(k:ByteArray):FindSays w g i k (plc ob.ps k):=by
 obtain⟨g',cap',ov',hvo',hov,t4,hne,hgl,hcell,hfz,hl1,hl2,hrow⟩:=h.obj hi
 rw[hvo] at hvo'
 injection hvo' with e1 e2 e3
 injection e1 with e1
 injection e1 with e1
 subst e1
 rw[hv] at hov
 cases hov
 have d4:=hcell 4 _ rfl
 have d5:=hcell 5 _ rfl
 simp only at d4 d5
 have hvm:ov.vm=none:=vm_none (h.part hi hv 1 (by omega)) hm
 rw[hvm] at d5
 exact find_nil w g (i*12+4) ov.vl ob.ps B _ (h.part hi hv 0 (by omega)) d4 d5 k
theorem size_at (h:HeapAt w B hb tg H M){i g cap:Nat}{ob:Ob}(hi:H.obs[i]?=some ob)(hvo:M.vo=⟨some ⟨g,0,none⟩,H.obs.length,cap⟩) :
  Calls Tryz.prog 129 #[.pointer (some ⟨g,i*12+4,none⟩)] w fun e w'=>e = .returned (.int .i64 (ob.ps.length:Int))∧w'=w:=by
 obtain⟨g',cap',ov,hvo',hov,t4,hne,hgl,hcell,hfz,hl1,hl2,hrow⟩:=h.obj hi
 rw[hvo] at hvo'
 injection hvo' with e1 e2 e3
 injection e1 with e1
 injection e1 with e1
 subst e1
 have d4:=hcell 4 _ rfl
 have hr:RowIn prC 5 _ B w _ ov.vl ob.ps:=h.part hi hov 0 (by omega)
 obtain⟨q1,q2,q3,q4⟩:=hr.open rtPr.len
 unfold SV.val at d4
 simp only at d4
 rw[q1] at d4
 generalize ob.ps.length=n at *
 generalize ov.vl.ad=ad at *
 generalize ov.vl.cap=cp at *
 clear h hi hvo hov t4 hne hgl hcell hfz hl1 hl2 hrow e2 e3 hr q1 q2 q3 q4
 go_enter Tryz.func129,Tryz.ntmps129
 go_wp2_with fail
 go_ret
 exact⟨rfl,rfl⟩
def deV (d:De):Value := .agg #[.int .u64 d.va,.int .u64 d.se,.int .i64 d.fl]
end
def cmpI (a b:Int):Int:=if a<b then -1 else if b<a then 1 else 0
theorem isNaN_any (w:World)(a:Int):Calls Tryz.prog 126 #[.int .i64 a] w fun e w'=>e = .returned (.bool false)∧w'=w:=by
 have h:(a != a)=false:=by simp
 go_enter Tryz.func126,Tryz.ntmps126
 go_wp2
 go_ret
 exact⟨rfl,rfl⟩
theorem compare_any (w:World)(a b:Int):Calls Tryz.prog 109 #[.int .i64 a,.int .i64 b] w fun e w'=>e = .returned (.int .i64 (cmpI a b))∧w'=w:=by
 have k1:=isNaN_any w a
 have k2:=isNaN_any w b
 unfold cmpI
 by_cases c:a<b
 ·rw[if_pos c]
  have c1:decide (a<b)=true:=decide_eq_true c
  go_enter Tryz.func109,Tryz.ntmps109
  go_wp2_with fail
  refine k1.mono ?_
  rintro e w2 ⟨rfl,rfl⟩
  go_wp2_with fail
  refine k2.mono ?_
  rintro e w2 ⟨rfl,rfl⟩
  go_wp2_with fail
  go_ret
  exact⟨rfl,rfl⟩
 ·rw[if_neg c]
  by_cases d:b<a
  ·rw[if_pos d]
   go_enter Tryz.func109,Tryz.ntmps109
   go_wp2_with fail
   refine k1.mono ?_
   rintro e w2 ⟨rfl,rfl⟩
   go_wp2_with fail
   refine k2.mono ?_
   rintro e w2 ⟨rfl,rfl⟩
   go_wp2_with fail
   go_ret
   exact⟨rfl,rfl⟩
  ·rw[if_neg d]
   go_enter Tryz.func109,Tryz.ntmps109
   go_wp2_with fail
   refine k1.mono ?_
   rintro e w2 ⟨rfl,rfl⟩
   go_wp2_with fail
   refine k2.mono ?_
   rintro e w2 ⟨rfl,rfl⟩
   go_wp2_with fail
   go_ret
   exact⟨rfl,rfl⟩
def prV (p:Pr):Value := .agg #[.string p.key,.int .i64 p.came,.int .u64 p.de.va,.int .u64 p.de.se,.int .i64 p.de.fl]
theorem byCame_any (w:World)(p:Pr)(c:Int):Calls Tryz.prog 91 #[prV p,.int .i64 c] w fun e w'=>e = .returned (.int .i64 (cmpI p.came c))∧Below w.heap.size w w':=by
 obtain⟨wb,hwb⟩:∃wb,wb=w.alloc (.cells #[.string p.key,.int .i64 p.came,.int .u64 p.de.va,.int .u64 p.de.se,.int .i64 p.de.fl] 116):=⟨_,rfl⟩
 have HB:Hid (Below w.heap.size w wb):=by rw[hwb];exact(Below.refl _ _).alloc (Nat.le_refl _) _
 have b1:wb.cell? ⟨w.heap.size,1,none⟩=some (.int .i64 p.came):=by rw[hwb];exact box_new w _ _ 1 _ rfl
 have kc:=compare_any wb p.came c
 obtain⟨pk,pc,pv,pse,pf⟩:=p
 unfold prV
 simp only at *
 generalize cmpI pc c=r at *
 go_enter Tryz.func91,Tryz.ntmps91
 go_upto_region 1 with fail
 rw[←hwb]
 clear hwb
 go_wp2_with fail
 refine kc.mono ?_
 rintro e w2 ⟨rfl,rfl⟩
 go_wp2_with fail
 go_ret
 exact⟨rfl,HB.out⟩
structure BsAt (ps:List Pr)(c:Int)(n i j:Nat):Prop where
 le:i≤n
 lt:n<j∨n=j
 jl:j≤ps.length
 ij:i≤j
 lo:∀k p,k<i→ps[k]?=some p→p.came<c
 hi:∀k p,j≤k→ps[k]?=some p→c≤p.came
theorem cm_lt {ps:List Pr}(h:ps.Pairwise (fun a b=>a.came<b.came)){i j:Nat}{a b:Pr}(hi:ps[i]?=some a)(hj:ps[j]?=some b)(hij:i<j):a.came<b.came:=by
 obtain⟨p1,p2⟩:=List.getElem?_eq_some_iff.1 hi
 obtain⟨p3,p4⟩:=List.getElem?_eq_some_iff.1 hj
 have:=List.pairwise_iff_getElem.1 h i j p1 p3 hij
 rw[p2,p4] at this
 exact this
theorem search_any (w:World)(s:SV)(ps:List Pr)(B:Nat)(O:Nat→Prop)(hr:RowIn prC 5 116 B w O s ps)(hcm:ps.Pairwise (fun a b=>a.came<b.came))(hlen:ps.length≤2000000000001)(n:Nat)(p:Pr)(hp:ps[n]?=some p) :
  Calls Tryz.prog 90 #[s.val,.int .i64 p.came,.func (.func 91) #[] #[]] w fun e w'=>e = .returned (.tuple #[.int .i64 (n:Int),.bool true])∧Below w.heap.size w w':=by
 obtain⟨q1,q2,q3,q4⟩:=hr.open rtPr.len
 have hnl:n<ps.length:=(List.getElem?_eq_some_iff.1 hp).1
 obtain⟨g,e1,_,_,_,hc,_⟩:=q4 (by intro e;rw[e] at hnl;simp at hnl)
 obtain⟨ad,len,cap⟩:=s
 simp only at q1 q2 q3 e1
 subst q1 e1
 have HC:Hid (∀(i:Nat) (y:Pr),ps[i]?=some y→∀(j:Nat) (u:Value),(prC y)[j]?=some u→w.cell? ⟨g,i*5+j,none⟩=some u):=hc
 have HCM:Hid (ps.Pairwise (fun a b=>a.came<b.came)):=hcm
 have HP:Hid (ps[n]?=some p∧n<ps.length∧ps.length≤2000000000001):=⟨hp,hnl,hlen⟩
 have hlim:(ps.length:Int)≤2000000000001:=by omega
 have HST:Hid (BsAt ps p.came n 0 ps.length):=⟨Nat.zero_le _,Or.inl hnl,Nat.le_refl _,Nat.zero_le _,fun k q hk=>by omega,fun k q hk e=>by have:=(List.getElem?_eq_some_iff.1 e).1;omega⟩
 have kb:=fun W y=>byCame_any W y p.came
 generalize hpc:p.came=c at *
 unfold SV.val
 simp only
 have HPC:Hid (p.came=c):=hpc
 clear hr hcm hlen hp hnl hc q2 q3 q4 hpc
 go_enter Tryz.func90,Tryz.ntmps90
 go_wp2_with fail
 go_loopw [9,10] (fun a b wr=>∃i j:Nat,Hid (BsAt ps c n i j)∧a = .int .i64 (i:Int)∧b = .int .i64 (j:Int)∧Hid (Below w.heap.size w wr)) (fun a b wr=>(intOf b - intOf a).toNat)
 case atStart=>exact⟨0,ps.length,HST,rfl,rfl,Below.refl _ _⟩
 case round =>
  clear HST
  obtain⟨i,j,HS,rfl,rfl,HB⟩:=hrel
  have hij:=HS.out.ij
  have hjl:=HS.out.jl
  have hin:=HS.out.le
  by_cases cij:i<j
  ·obtain⟨h,hh⟩:∃h:Nat,h=(i+j) / 2:=⟨_,rfl⟩
   have h1:i≤h:=by omega
   have h2:h<j:=by omega
   have hex:∃y,ps[h]?=some y:=⟨_,List.getElem?_eq_getElem (by omega)⟩
   obtain⟨y,hy⟩:=hex
   have hcc:=HC.out h y hy
   have d0:=cells_below HB.out _ _ (hcc 0 _ rfl)
   have d1:=cells_below HB.out _ _ (hcc 1 _ rfl)
   have d2:=cells_below HB.out _ _ (hcc 2 _ rfl)
   have d3:=cells_below HB.out _ _ (hcc 3 _ rfl)
   have d4:=cells_below HB.out _ _ (hcc 4 _ rfl)
   simp only[Nat.add_zero] at d0
   have ky:=kb wr y
   have cl:(i:Int)<(j:Int):=by omega
   have w5:IntKind.i64.wrap (((i:Int)+(j:Int)) / 2+1)=((h+1:Nat):Int):=by rw[IntKind.wrap_i64];omega
   have hhl:((i:Int)+(j:Int)) / 2<(ps.length:Int):=by omega
   have hhn:0≤((i:Int)+(j:Int)) / 2:=by omega
   have HQ:Hid (((i:Int)+(j:Int)) / 2=(h:Int)):=by show _=_;omega
   rw[hh] at d0 d1 d2 d3 d4
   have HY:Hid (ps[h]?=some y∧i≤h∧h<j):=⟨hy,h1,h2⟩
   unfold prV at ky
   obtain⟨yk,yc,yv,ys,yf⟩:=y
   simp only at *
   clear hcc hy HC kb hh h1 h2
   by_cases cy:yc<c
   ·have hcm2:cmpI yc c = -1:=by unfold cmpI;rw[if_pos cy]
    rw[hcm2] at ky
    have HN:Hid (BsAt ps c n (h+1) j):=by
     have hcl:h<n:=by
      rcases Nat.lt_or_ge h n with q | q
      ·exact q
      ·have:c≤yc:=by
        rcases Nat.eq_or_lt_of_le q with q2 | q2
        ·have e:=HP.out.1
         rw[q2,HY.out.1] at e
         have:=HPC.out
         rw[←Option.some.inj e] at this
         simp only at this
         omega
        ·have:=cm_lt HCM.out HP.out.1 HY.out.1 q2
         have h9:=HPC.out
         simp only at this
         omega
       omega
     exact⟨hcl,HS.out.lt,HS.out.jl,by have:=HY.out.2.2;omega,fun k q hk e=>by
      rcases Nat.lt_or_ge k h with c1 | c1
      ·have:=cm_lt HCM.out e HY.out.1 c1
       simp only at this
       omega
      ·have:k=h:=by omega
       subst this
       rw[HY.out.1] at e
       rw[←Option.some.inj e]
       exact cy,HS.out.hi⟩
    clear HS HP HPC HCM cy hcm2 hij hjl hin
    go_wp2_with fail
    refine ky.mono ?_
    rintro e w9 ⟨rfl,hB9⟩
    have HB9:Hid (Below w.heap.size w w9):=by
     have z:=HB.out.size
     exact HB.out.trans ⟨hB9.os,hB9.tape,hB9.output,hB9.size,fun k hk=>hB9.block k (by omega)⟩
    clear ky hB9 HB
    go_wp2_with fail
    refine⟨⟨h+1,j,HN,rfl,rfl,HB9⟩,?_⟩
    have:=HY.out
    have:=HQ.out
    simp[intOf]
    omega
   ·have hge:decide (cmpI yc c<0)=false:=by
     apply decide_eq_false
     unfold cmpI
     rw[if_neg cy]
     split <;> omega
    have HN:Hid (BsAt ps c n i h):=by
     have hcl:n≤h:=by
      rcases Nat.lt_or_ge h n with q | q
      ·have:=cm_lt HCM.out HY.out.1 HP.out.1 q
       have h9:=HPC.out
       simp only at this
       omega
      ·exact q
     exact⟨HS.out.le,by omega,by have:=HS.out.jl;have:=HY.out.2.2;omega,HY.out.2.1,HS.out.lo,fun k q hk e=>by
      rcases Nat.eq_or_lt_of_le hk with c1 | c1
      ·subst c1
       rw[HY.out.1] at e
       rw[←Option.some.inj e]
       simp only
       omega
      ·have:=cm_lt HCM.out HY.out.1 e c1
       simp only at this
       omega⟩
    generalize cmpI yc c=rr at *
    clear HS HP HPC HCM cy hij hjl hin
    go_wp2_with fail
    refine ky.mono ?_
    rintro e w9 ⟨rfl,hB9⟩
    have HB9:Hid (Below w.heap.size w w9):=by
     have z:=HB.out.size
     exact HB.out.trans ⟨hB9.os,hB9.tape,hB9.output,hB9.size,fun k hk=>hB9.block k (by omega)⟩
    clear ky hB9 HB
    go_wp2_with fail
    refine⟨⟨i,h,HN,rfl,by rw[HQ.out],HB9⟩,?_⟩
    have:=HY.out
    have:=HQ.out
    simp[intOf]
    omega
  ·have hin2:i=n:=by have:=HS.out.lt;omega
   subst hin2
   have hcc:=HC.out i p HP.out.1
   have d0:=cells_below HB.out _ _ (hcc 0 _ rfl)
   have d1:=cells_below HB.out _ _ (hcc 1 _ rfl)
   have d2:=cells_below HB.out _ _ (hcc 2 _ rfl)
   have d3:=cells_below HB.out _ _ (hcc 3 _ rfl)
   have d4:=cells_below HB.out _ _ (hcc 4 _ rfl)
   simp only[Nat.add_zero] at d0
   have ky:=kb wr p
   rw[HPC.out] at ky
   have hz:cmpI c c=0:=by unfold cmpI;rw[if_neg (by omega),if_neg (by omega)]
   rw[hz] at ky
   have cl:¬((i:Int)<(j:Int)):=by omega
   have cn:(i:Int)<(ps.length:Int):=by have:=HP.out.2.1;omega
   have cnd:decide ((i:Int)<(ps.length:Int))=true:=decide_eq_true cn
   rw[HPC.out] at d1
   unfold prV at ky
   rw[HPC.out] at ky
   obtain⟨yk,yc,yv,ys,yf⟩:=p
   simp only at *
   clear hcc kb HC HS HP HPC HCM cij hij hjl hin hz
   go_wp2_with fail
   refine ky.mono ?_
   rintro e w9 ⟨rfl,hB9⟩
   have HB9:Hid (Below w.heap.size w w9):=by
    have z:=HB.out.size
    exact HB.out.trans ⟨hB9.os,hB9.tape,hB9.output,hB9.size,fun k hk=>hB9.block k (by omega)⟩
   clear ky hB9 HB
   go_wp2_with fail
   go_ret2
   exact⟨rfl,HB9.out⟩
theorem key_law:WideMaps.KeyLaw Tryz.prog 9:=Go.WideMaps.string_law Tryz.underlying9
theorem key_of {s:ByteArray}(hs:s.size≤maxLen):keyOf Tryz.prog 9 (.string s)=some (.string s.data.toList):=by simp[keyOf,mapKey,Tryz.underlying9,hs]
def lk (b:List (ByteArray×Int))(s:ByteArray):Option (ByteArray×Int):=b.find? (fun e=>decide (e.1=s))
structure BkOk (b:List (ByteArray×Int)):Prop where
 nd:(b.map Prod.fst).Nodup
 sz:∀e∈b,e.1.size≤maxLen
theorem lk_none {nm:ByteArray}{b:List (ByteArray×Int)}(h:∀x∈b,x.1≠nm):lk b nm=none:=by
 unfold lk
 rw[List.find?_eq_none]
 intro x hx
 simpa using h x hx
theorem lk_some {nm:ByteArray}:∀ {b:List (ByteArray×Int)},(b.map Prod.fst).Nodup→∀x,x∈b→x.1=nm→lk b nm=some x
 | [],_,x,h,_=>by cases h
 | y :: b,hn,x,h,hx=>by
   unfold lk
   rw[List.map_cons,List.nodup_cons] at hn
   by_cases c:y.1=nm
   ·rw[List.find?_cons_of_pos (by simpa using c)]
    rcases List.mem_cons.1 h with q | q
    ·rw[q]
    ·exact absurd (List.mem_map.2 ⟨x,q,by rw[hx,c]⟩) hn.1
   ·rw[List.find?_cons_of_neg (by simpa using c)]
    rcases List.mem_cons.1 h with q | q
    ·rw[q] at hx
     exact absurd hx c
    ·exact lk_some hn.2 x q hx
section
variable {w:World}{mb:Nat}{k:IntKind}{b:List (ByteArray×Int)}{mt et:TypeId}
theorem ent_at {es:List MapEntry}(h:es.map (fun e=>(e.key,e.val))=b.map (fun x=>((.string x.1:Value),(.int k x.2:Value))))(j:Nat)(e:MapEntry)(he:es[j]?=some e):∃x,x∈b∧b[j]?=some x∧e.key = .string x.1∧e.val = .int k x.2:=by
 have h1:=congrArg (·[j]?) h
 simp only[List.getElem?_map,he,Option.map_some] at h1
 cases hx:b[j]? with
 | none=>rw[hx] at h1;simp at h1
 | some x =>
   rw[hx] at h1
   simp at h1
   exact⟨x,List.mem_of_getElem? hx,rfl,h1.1,h1.2⟩
theorem ent_keys (hw:BkOk b){es:List MapEntry}(h:es.map (fun e=>(e.key,e.val))=b.map (fun x=>((.string x.1:Value),(.int k x.2:Value)))):∀e∈es,∃l,keyOf Tryz.prog 9 e.key=some l:=by
 intro e he
 obtain⟨j,hj⟩:=List.mem_iff_getElem?.1 he
 obtain⟨x,h1,_,h2,_⟩:=ent_at h j e hj
 rw[h2]
 exact⟨_,key_of (hw.sz x h1)⟩
theorem MpIs.look (h:MpIs w mb k b)(hw:BkOk b)(hu:Tryz.prog.underlying mt=some (.map 9 et))(hz0:(zeroValue et).run Tryz.prog w = .ok (.int k 0) w){nm:ByteArray}(hn:nm.size≤maxLen) :
  (Instr.lookup mt (.map (some mb)) (.string nm) true).run Tryz.prog w = .ok (.tuple #[.int k (((lk b nm).map Prod.snd).getD 0),.bool (lk b nm).isSome]) w:=by
 obtain⟨es,clock,hb,he⟩:=h
 have hz:=key_of hn
 rcases key_law.find w hz es.toList (ent_keys hw he) with⟨f1,f2⟩ | ⟨j,e,f1,f2,f3⟩
 ·have hno:lk b nm=none:=lk_none (fun x hx hs=>by
   obtain⟨j,hj⟩:=List.mem_iff_getElem?.1 hx
   have h1:=congrArg (·[j]?) he
   simp only[List.getElem?_map,hj,Option.map_some] at h1
   cases hq:es.toList[j]? with
   | none=>rw[hq] at h1;simp at h1
   | some e =>
     rw[hq] at h1
     simp at h1
     exact f2 e (List.mem_of_getElem? hq) (by rw[h1.1,hs]))
  rw[hno]
  simp[Instr.lookup,run_underlying hu,MapKept.run_getObj_map hb,key_law.check w _ hz,f1,hz0,Result.andThen]
 ·obtain⟨x,h1,_,h2,h3⟩:=ent_at he j e f2
  have hs:lk b nm=some x:=lk_some hw.nd x h1 (by
   rw[h2] at f3
   simpa using f3)
  rw[hs]
  simp[Instr.lookup,run_underlying hu,MapKept.run_getObj_map hb,key_law.check w _ hz,f1,h3,Result.andThen]
theorem MpIs.put (h:MpIs w mb k b)(hw:BkOk b)(hu:Tryz.prog.underlying mt=some (.map 9 et)){nm:ByteArray}(hn:nm.size≤maxLen)(hno:∀x∈b,x.1≠nm)(v:Int) :
  ∃w',(Instr.mapUpdate mt (.map (some mb)) (.string nm) (.int k v)).run Tryz.prog w = .ok () w'∧MpIs w' mb k (b++[(nm,v)])∧w.grownBy w' (some mb)∧w'.heap.size=w.heap.size:=by
 obtain⟨es,clock,hb,he⟩:=h
 have hz:=key_of hn
 rcases key_law.find w hz es.toList (ent_keys hw he) with⟨f1,f2⟩ | ⟨j,e,f1,f2,f3⟩
 ·refine⟨ChangeMaps.setBlock w mb (.map (es.push ⟨.string nm,.int k v,clock⟩) (clock+1)),?_,⟨_,_,ChangeMaps.heap_setBlock_same hb _,?_⟩,⟨rfl,rfl,rfl,by simp[ChangeMaps.setBlock],fun i _ hi=>ChangeMaps.heap_setBlock_other hb _ (fun e=>hi (by rw[e]))⟩,by simp[ChangeMaps.setBlock]⟩
  ·simp[Instr.mapUpdate,run_underlying hu,MapKept.run_getObj_map hb,key_law.check w _ hz,f1,MapKept.run_setObj_map _ hb,Result.andThen,ChangeMaps.setBlock]
  ·simp[he]
 ·obtain⟨x,h1,_,h2,h3⟩:=ent_at he j e f2
  exact absurd (by rw[h2] at f3;simpa using f3) (hno x h1)
end
theorem zero3 (w:World):(zeroValue 3).run Tryz.prog w = .ok (.int .i64 0) w:=by
 kernel_rfl
theorem camd_fst (ps:List Pr):(camd ps).map Prod.fst=ps.map Pr.key:=by
 unfold camd
 rw[List.map_map]
 rfl
theorem camd_ok {ps:List Pr}(hn:(ps.map Pr.key).Nodup)(hs:∀p∈ps,p.key.size≤maxLen):BkOk (camd ps):=by
 refine⟨by rw[camd_fst];exact hn,fun e he => ?_⟩
 obtain⟨p,hp,rfl⟩:=List.mem_map.1 he
 exact hs p hp
theorem camd_lk {ps:List Pr}(hn:(ps.map Pr.key).Nodup)(k:ByteArray):(plc ps k=none∧lk (camd ps) k=none)∨∃n p,plc ps k=some n∧ps[n]?=some p∧lk (camd ps) k=some (k,p.came):=by
 cases h:plc ps k with
 | none =>
   refine Or.inl ⟨rfl,lk_none (fun x hx e => ?_)⟩
   obtain⟨p,hp,rfl⟩:=List.mem_map.1 hx
   exact plc_none h p hp e
 | some n =>
   obtain⟨⟨p,hp,hk⟩,_⟩:=plc_some h
   exact Or.inr ⟨n,p,rfl,hp,lk_some (by rw[camd_fst];exact hn) (k,p.came) (List.mem_map.2 ⟨p,List.mem_of_getElem? hp,by rw[hk]⟩) rfl⟩
theorem find_map (w:World)(g off mb:Nat)(s:SV)(ps:List Pr)(B:Nat)(O:Nat→Prop)(hr:RowIn prC 5 116 B w O s ps)(hm:MpIs w mb .i64 (camd ps))(hn:(ps.map Pr.key).Nodup)(hs:∀p∈ps,p.key.size≤maxLen)(hcm:ps.Pairwise (fun a b=>a.came<b.came))(hlen:ps.length≤2000000000001)(c0:w.cell? ⟨g,off,none⟩=some s.val)(c1:w.cell? ⟨g,off+1,none⟩=some (.map (some mb)))(k:ByteArray)(hk:k.size≤maxLen) :
  Calls Tryz.prog 59 #[.pointer (some ⟨g,off,none⟩),.string k] w fun e w'=>e = .returned (.tuple #[.int .i64 (nOf (plc ps k)),.bool (plc ps k).isSome])∧Below w.heap.size w w':=by
 have q69:∀(w:World) (r:Option Nat),(binOp .neq 92 (.map r) (.map none)).run Tryz.prog w = .ok (.bool (!r.isNone)) w:=fun w r=>run_neq_map_nil w _ _ _ r Tryz.underlying92
 have hlk:=hm.look (camd_ok hn hs) Tryz.underlying92 (zero3 w) (nm:=k) hk
 rcases camd_lk hn k with⟨e1,e2⟩ | ⟨n,p,e1,e2,e3⟩
 ·rw[e1]
  rw[e2] at hlk
  have hlk:(Instr.lookup 92 (.map (some mb)) (.string k) true).run Tryz.prog w = .ok (.tuple #[.int .i64 0,.bool false]) w:=hlk
  unfold nOf
  simp only[Option.map_none,Option.getD_none,Option.isSome_none]
  clear hr hm hn hs hcm hlen e1 e2 c0
  go_enter Tryz.func59,Tryz.ntmps59
  go_wp2_with fail
  go_ret2
  exact⟨rfl,Below.refl _ _⟩
 ·rw[e1]
  rw[e3] at hlk
  have hlk:(Instr.lookup 92 (.map (some mb)) (.string k) true).run Tryz.prog w = .ok (.tuple #[.int .i64 p.came,.bool true]) w:=hlk
  have ks:=search_any w s ps B O hr hcm hlen n p e2
  unfold nOf
  simp only[Option.map_some,Option.getD_some,Option.isSome_some]
  generalize p.came=pc at *
  obtain⟨sa,sl,sc⟩:=s
  unfold SV.val at c0 ks
  simp only at c0 ks
  clear hr hm hn hs hcm hlen e1 e2 e3
  go_enter Tryz.func59,Tryz.ntmps59
  go_wp2_with fail
  refine ks.mono ?_
  rintro e w2 ⟨rfl,hB⟩
  have HB:=(show Hid _ from hB)
  clear ks hB
  go_wp2_with fail
  go_ret2
  exact⟨rfl,HB.out⟩
def FindB (W:World)(g i:Nat)(k:ByteArray)(r:Option Nat):Prop:=Calls Tryz.prog 59 #[.pointer (some ⟨g,i*12+4,none⟩),.string k] W fun e w'=>e = .returned (.tuple #[.int .i64 (nOf r),.bool r.isSome])∧Below W.heap.size W w'
section
variable {w w' w1:World}{B hb:Nat}{O S:Nat→Prop}{H H':He}{M M':HV}{tg:Nat→Nat}
theorem find_any (h:HeapAt w B hb tg H M){i g cap:Nat}{ob:Ob}(hi:H.obs[i]?=some ob)(hvo:M.vo=⟨some ⟨g,0,none⟩,H.obs.length,cap⟩)(hne:ob.neat)(k:ByteArray)(hk:k.size≤maxLen):FindB w g i k (plc ob.ps k):=by
 obtain⟨g',cap',ov,hvo',hov,t4,hneq,hgl,hcell,hfz,hl1,hl2,hrow⟩:=h.obj hi
 have hvv:=hvo'
 rw[hvo] at hvv
 injection hvv with x1 x2 x3
 injection x1 with x1
 injection x1 with x1
 subst x1
 unfold FindB
 cases hm:ob.hm with
 | false =>
   refine(show FindSays _ _ _ _ _ from find_at h hi hov hvo hm k).mono ?_
   rintro e w' ⟨rfl,rfl⟩
   exact⟨rfl,Below.refl _ _⟩
 | true =>
   have h1:=h.part hi hov 1 (by omega)
   have hwf:=h.wf.ob ob (List.mem_of_getElem? hi)
   cases hv:ov.vm with
   | none =>
     have:=h1.1
     rw[hv,hm] at this
     cases this
   | some mb =>
     have d4:=hcell 4 _ rfl
     have d5:=hcell 5 _ rfl
     simp only at d4 d5
     rw[hv] at d5
     exact find_map w g (i*12+4) mb ov.vl ob.ps B _ (h.part hi hov 0 (by omega)) (by have:=(h1.2 mb hv).2;rw[hne.mp hm] at this;exact this) hne.kn hwf.ks hne.cm hwf.nx.2.2 d4 d5 k hk
end
section
variable {w w' w1:World}{B hb:Nat}{O S:Nat→Prop}{H H':He}{M M':HV}{tg:Nat→Nat}
theorem get_any (h:HeapAt w B hb tg H M)(o:Int)(o0:0≤o)(o1:o<18446744073709551616){i n:Nat}{ob:Ob}{k:ByteArray}{p:Pr}(ho:obI H o=some i)(hi:H.obs[i]?=some ob)(hn:plc ob.ps k=some n)(hp:ob.ps[n]?=some p)(hnt:ob.neat)(hk:k.size≤maxLen) :
  Calls Tryz.prog 26 #[.pointer (some ⟨hb,0,none⟩),.int .u64 o,.string k] w fun e w'=>e = .returned (.tuple #[deV p.de,.bool true])∧Below w.heap.size w w':=by
 obtain⟨wb,hwb⟩:∃wb,wb=w.alloc (.cells #[.int .u64 0,.int .u64 0,.int .i64 0] 39):=⟨_,rfl⟩
 have hB:Below w.heap.size w wb:=by rw[hwb];exact(Below.refl _ _).alloc (Nat.le_refl _) _
 have hbx:wb.heap[w.heap.size]?=some (.cells #[.int .u64 0,.int .u64 0,.int .i64 0] 39 (0,0)):=by rw[hwb];exact at_new _ _
 have h2:=h.below hB
 obtain⟨g,cap,ov,hvo,hov,t4,hne,hgl,hcell,hfz,hl1,hl2,hrow⟩:=h2.obj hi
 have ka:=at_hit h2 o o0 o1 i g cap ho hvo
 have kf2:=(show FindB _ _ _ _ _ from find_any (ob:=ob) h2 hi hvo hnt k hk)
 unfold FindB at kf2
 rw[hn] at kf2
 have hr:RowIn prC 5 _ B wb _ ov.vl ob.ps:=h2.part hi hov 0 (by omega)
 obtain⟨q1,q2,q3,q4⟩:=hr.open rtPr.len
 have hnl:n<ob.ps.length:=(List.getElem?_eq_some_iff.1 hp).1
 obtain⟨gl,e1,_,_,_,hc,_⟩:=q4 (by intro e;rw[e] at hnl;simp at hnl)
 have hnl2:(n:Int)<(ob.ps.length:Int):=by omega
 have hlim:(ob.ps.length:Int)≤9223372036854775807:=by unfold maxLen at q3;omega
 unfold nOf at kf2
 simp only[Option.map_some,Option.getD_some,Option.isSome_some] at kf2
 have HF:Hid (∀w6,Below wb.heap.size wb w6→w6.cell? ⟨g,i*12+4,none⟩=some (.slice (some ⟨gl,0,none⟩) ob.ps.length ov.vl.cap)∧(w6.cell? ⟨gl,n*5+2,none⟩=some (.int .u64 p.de.va)∧w6.cell? ⟨gl,n*5+3,none⟩=some (.int .u64 p.de.se)∧w6.cell? ⟨gl,n*5+4,none⟩=some (.int .i64 p.de.fl))∧(w6.frozen? ⟨w.heap.size,0,none⟩=false∧w6.frozen? ⟨w.heap.size,1,none⟩=false∧w6.frozen? ⟨w.heap.size,2,none⟩=false)∧(w6.cell? ⟨w.heap.size,0,none⟩=some (.int .u64 0)∧w6.cell? ⟨w.heap.size,1,none⟩=some (.int .u64 0)∧w6.cell? ⟨w.heap.size,2,none⟩=some (.int .i64 0))∧(((w6.setCell ⟨w.heap.size,0,none⟩ (.int .u64 p.de.va)).setCell ⟨w.heap.size,1,none⟩ (.int .u64 p.de.se)).setCell ⟨w.heap.size,2,none⟩ (.int .i64 p.de.fl) |>.heap[w.heap.size]?=some (.cells #[.int .u64 p.de.va,.int .u64 p.de.se,.int .i64 p.de.fl] 39 (0,0)))∧Below w.heap.size w (((w6.setCell ⟨w.heap.size,0,none⟩ (.int .u64 p.de.va)).setCell ⟨w.heap.size,1,none⟩ (.int .u64 p.de.se)).setCell ⟨w.heap.size,2,none⟩ (.int .i64 p.de.fl))):=fun w6 hB6=>by
  have d4:=hcell 4 _ rfl
  unfold SV.val at d4
  simp only at d4
  rw[q1,e1] at d4
  have hxs:w.heap.size<wb.heap.size:=(Array.getElem?_eq_some_iff.1 hbx).1
  have hbx6:w6.heap[w.heap.size]?=some (.cells #[.int .u64 0,.int .u64 0,.int .i64 0] 39 (0,0)):=by rw[hB6.block _ hxs];exact hbx
  have s0:=heap_setCell_same w6 w.heap.size 0 _ _ (.int .u64 p.de.va) hbx6
  have s1:=heap_setCell_same _ w.heap.size 1 _ _ (.int .u64 p.de.se) s0
  have hBW:Below w.heap.size w w6:=hB.trans (hB6.mono (Nat.le_of_lt hxs))
  exact⟨cells_below hB6 _ _ d4,⟨cells_below hB6 _ _ (hc n p hp 2 _ rfl),cells_below hB6 _ _ (hc n p hp 3 _ rfl),cells_below hB6 _ _ (hc n p hp 4 _ rfl)⟩,⟨frozen_of_row w6 w.heap.size 0 _ _ hbx6,frozen_of_row w6 w.heap.size 1 _ _ hbx6,frozen_of_row w6 w.heap.size 2 _ _ hbx6⟩,⟨cell_of_row w6 w.heap.size 0 _ _ (0,0) hbx6,cell_of_row w6 w.heap.size 1 _ _ (0,0) hbx6,cell_of_row w6 w.heap.size 2 _ _ (0,0) hbx6⟩,heap_setCell_same _ w.heap.size 2 _ _ (.int .i64 p.de.fl) s1,((hBW.setCell (by simp) _).setCell (by simp) _).setCell (by simp) _⟩
 unfold deV
 obtain⟨pk,pc,pv,ps',pf⟩:=p
 simp only at *
 generalize ob.ps.length=len at *
 generalize ov.vl.cap=cp at *
 clear h h2 hB hbx hi ho hvo hov t4 hne hgl hcell hfz hl1 hl2 hrow hn hp hr q1 q2 q3 q4 hc hnl e1 hnt hk
 go_enter Tryz.func26,Tryz.ntmps26
 go_upto_region 1 with fail
 rw[←hwb]
 clear hwb
 go_wp2_with fail
 refine ka.mono ?_
 rintro e w2 ⟨rfl,rfl⟩
 clear ka
 go_wp2_with fail
 refine kf2.mono ?_
 rintro e w6 ⟨rfl,hB6⟩
 obtain⟨d4,⟨m2,m3,m4⟩,⟨f0,f1,f2⟩,⟨b0,b1,b2⟩,hbx,hbl⟩:=HF.out w6 hB6
 have HBX:=(show Hid _ from hbx)
 have HBL:=(show Hid _ from hbl)
 clear kf2 HF hB6 hbx hbl
 go_wp2_with fail
 refine bodyPost_ret (res2 rfl _ _ w.heap.size 39 _ (0,0) _ rfl HBX.out Tryz.underlying39 rfl (by kernel_rfl)) rfl ?_
 exact⟨rfl,HBL.out⟩
end
section
variable {w w' w1:World}{B hb:Nat}{O S:Nat→Prop}{H H':He}{M M':HV}{tg:Nat→Nat}
def obO (H:He)(o:Int):Option Ob:=(obI H o).bind (fun i=>H.obs[i]?)
theorem obO_some {o:Int}{ob:Ob}(h:obO H o=some ob):∃i,obI H o=some i∧H.obs[i]?=some ob:=by
 unfold obO at h
 cases ho:obI H o with
 | none=>rw[ho] at h;cases h
 | some i=>rw[ho] at h;exact⟨i,rfl,h⟩
theorem obO_none {o:Int}(h:obO H o=none):obI H o=none:=by
 unfold obO at h
 cases ho:obI H o with
 | none=>rfl
 | some i =>
   rw[ho] at h
   have h1:=(obI_some ho).2.2.1
   have h:H.obs[i]?=none:=h
   have:=List.getElem?_eq_none_iff.1 h
   omega
theorem kind_any (h:HeapAt w B hb tg H M)(o:Int)(o0:0≤o)(o1:o<18446744073709551616) :
  Calls Tryz.prog 56 #[.pointer (some ⟨hb,0,none⟩),.int .u64 o] w fun e w'=>e = .returned (.tuple #[.int .i64 (((obO H o).map Ob.kind).getD 0),.bool (obO H o).isSome])∧w'=w:=by
 cases hq:obO H o with
 | none =>
   have ka:=at_miss h o o0 o1 (obO_none hq)
   simp only[Option.map_none,Option.getD_none,Option.isSome_none]
   clear h hq
   go_enter Tryz.func56,Tryz.ntmps56
   go_wp2_with fail
   refine ka.mono ?_
   rintro e w2 ⟨rfl,rfl⟩
   clear ka
   go_wp2_with fail
   go_ret2
   exact⟨rfl,rfl⟩
 | some ob =>
   obtain⟨i,ho,hi⟩:=obO_some hq
   obtain⟨g,cap,ov,hvo,hov,t4,hne,hgl,hcell,hfz,hl1,hl2,hrow⟩:=h.obj hi
   have ka:=at_hit h o o0 o1 i g cap ho hvo
   have d0:=hcell 0 _ rfl
   simp only[Nat.add_zero] at d0
   simp only[Option.map_some,Option.getD_some,Option.isSome_some]
   generalize ob.kind=kd at *
   clear h hi ho hvo hov t4 hne hgl hcell hfz hl1 hl2 hrow hq
   go_enter Tryz.func56,Tryz.ntmps56
   go_wp2_with fail
   refine ka.mono ?_
   rintro e w2 ⟨rfl,rfl⟩
   clear ka
   go_wp2_with fail
   go_ret2
   exact⟨rfl,rfl⟩
theorem proto_any (h:HeapAt w B hb tg H M)(o:Int)(o0:0≤o)(o1:o<18446744073709551616) :
  Calls Tryz.prog 16 #[.pointer (some ⟨hb,0,none⟩),.int .u64 o] w fun e w'=>e = .returned (.int .u64 (((obO H o).map Ob.proto).getD nulW))∧w'=w:=by
 cases hq:obO H o with
 | none =>
   have ka:=at_miss h o o0 o1 (obO_none hq)
   simp only[Option.map_none,Option.getD_none]
   unfold nulW
   clear h hq
   go_enter Tryz.func16,Tryz.ntmps16
   go_wp2_with fail
   refine ka.mono ?_
   rintro e w2 ⟨rfl,rfl⟩
   clear ka
   go_wp2_with fail
   go_ret
   exact⟨rfl,rfl⟩
 | some ob =>
   obtain⟨i,ho,hi⟩:=obO_some hq
   obtain⟨g,cap,ov,hvo,hov,t4,hne,hgl,hcell,hfz,hl1,hl2,hrow⟩:=h.obj hi
   have ka:=at_hit h o o0 o1 i g cap ho hvo
   have d0:=hcell 1 _ rfl
   simp only at d0
   simp only[Option.map_some,Option.getD_some]
   generalize ob.proto=kd at *
   clear h hi ho hvo hov t4 hne hgl hcell hfz hl1 hl2 hrow hq
   go_enter Tryz.func16,Tryz.ntmps16
   go_wp2_with fail
   refine ka.mono ?_
   rintro e w2 ⟨rfl,rfl⟩
   clear ka
   go_wp2_with fail
   go_ret
   exact⟨rfl,rfl⟩
theorem open_any (h:HeapAt w B hb tg H M)(o:Int)(o0:0≤o)(o1:o<18446744073709551616) :
  Calls Tryz.prog 60 #[.pointer (some ⟨hb,0,none⟩),.int .u64 o] w fun e w'=>e = .returned (.bool (((obO H o).map (fun x => !x.shut)).getD false))∧w'=w:=by
 cases hq:obO H o with
 | none =>
   have ka:=at_miss h o o0 o1 (obO_none hq)
   simp only[Option.map_none,Option.getD_none]
   clear h hq
   go_enter Tryz.func60,Tryz.ntmps60
   go_wp2_with fail
   refine ka.mono ?_
   rintro e w2 ⟨rfl,rfl⟩
   clear ka
   go_wp2_with fail
   go_ret
   exact⟨rfl,rfl⟩
 | some ob =>
   obtain⟨i,ho,hi⟩:=obO_some hq
   obtain⟨g,cap,ov,hvo,hov,t4,hne,hgl,hcell,hfz,hl1,hl2,hrow⟩:=h.obj hi
   have ka:=at_hit h o o0 o1 i g cap ho hvo
   have d0:=hcell 2 _ rfl
   simp only at d0
   simp only[Option.map_some,Option.getD_some]
   generalize ob.shut=kd at *
   clear h hi ho hvo hov t4 hne hgl hcell hfz hl1 hl2 hrow hq
   go_enter Tryz.func60,Tryz.ntmps60
   go_wp2_with fail
   refine ka.mono ?_
   rintro e w2 ⟨rfl,rfl⟩
   clear ka
   go_wp2_with fail
   go_ret
   exact⟨rfl,rfl⟩
end
end Go.Proofs.YtahhionlbfhinabGreatDoor.Hp
