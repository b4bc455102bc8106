/- LF, LI, LT, LJ, MA -/
import Derived.Test.YtahhionlbfhinabGreatDoorB11
import Derived.Test.YtahhionlbfhinabGreatDoorB1
import Derived.Test.YtahhionlbfhinabGreatDoorB6
set_option linter.unusedVariables false
set_option linter.unusedSimpArgs false
set_option maxRecDepth 100000
set_option maxHeartbeats 40000000
namespace Go.Proofs.YtahhionlbfhinabGreatDoor.Hp
open Go.RowKit
def plS (nm:List ByteArray)(k:ByteArray):Option Nat:=nm.findIdx? (fun u=>decide (u=k))
def plI (nm:List ByteArray)(k:ByteArray):Int:=match plS nm k with
 | some n=>(n:Int)
 | none => -1
theorem plS_hit {nm:List ByteArray}{k u:ByteArray}{i:Nat}(hi:nm[i]?=some u)(hu:u=k)(hl:∀j,j<i→nm[j]?≠some k):plS nm k=some i:=by
 unfold plS
 rw[List.findIdx?_eq_some_iff_getElem]
 obtain⟨h1,h2⟩:=List.getElem?_eq_some_iff.1 hi
 refine⟨h1,by rw[h2];simpa using hu,fun j hj => ?_⟩
 have:=hl j hj
 rw[List.getElem?_eq_getElem (by omega)] at this
 simpa using this
theorem plS_miss {nm:List ByteArray}{k:ByteArray}(hl:∀j,j<nm.length→nm[j]?≠some k):plS nm k=none:=by
 unfold plS
 rw[List.findIdx?_eq_none_iff]
 intro u hu
 obtain⟨j,hj⟩:=List.mem_iff_getElem?.1 hu
 have:=hl j (List.getElem?_eq_some_iff.1 hj).1
 rw[hj] at this
 simpa using this
def soV (y:So×QV):Value := .agg #[.int .i64 y.1.kind,.int .u64 y.1.proto,.bool y.1.shut,y.2.vn.val,y.2.vd.val,y.2.ve.val,y.2.vi.val]
def BxO (W:World)(b:Nat)(y:So×QV):Prop:=W.heap[b]?=some (.cells #[.int .i64 y.1.kind,.int .u64 y.1.proto,.bool y.1.shut,y.2.vn.val,y.2.vd.val,y.2.ve.val,y.2.vi.val] 71 (0,0))
theorem BxO.new (w:World)(y:So×QV):BxO (w.alloc (.cells #[.int .i64 y.1.kind,.int .u64 y.1.proto,.bool y.1.shut,y.2.vn.val,y.2.vd.val,y.2.ve.val,y.2.vi.val] 71)) w.heap.size y:=at_new _ _
theorem BxO.lt {W:World}{b:Nat}{y:So×QV}(h:BxO W b y):b<W.heap.size:=(Array.getElem?_eq_some_iff.1 h).1
theorem BxO.below {W W':World}{b:Nat}{y:So×QV}(h:BxO W b y)(hB:Below W.heap.size W W'):BxO W' b y:=by
 unfold BxO
 rw[hB.block b h.lt]
 exact h
theorem BxO.kept {W W':World}{b:Nat}{y:So×QV}{T:Nat→Prop}(h:BxO W b y)(hc:Chg T W W')(hn:¬T b):BxO W' b y:=by
 unfold BxO
 rw[hc.block b h.lt hn]
 exact h
theorem BxO.ce {W:World}{b:Nat}{y:So×QV}(h:BxO W b y):W.cell? ⟨b,0,none⟩=some (.int .i64 y.1.kind)∧W.cell? ⟨b,1,none⟩=some (.int .u64 y.1.proto)∧W.cell? ⟨b,2,none⟩=some (.bool y.1.shut)∧W.cell? ⟨b,3,none⟩=some y.2.vn.val∧W.cell? ⟨b,4,none⟩=some y.2.vd.val∧W.cell? ⟨b,5,none⟩=some y.2.ve.val∧W.cell? ⟨b,6,none⟩=some y.2.vi.val:=⟨cell_of_row W b 0 _ _ (0,0) h,cell_of_row W b 1 _ _ (0,0) h,cell_of_row W b 2 _ _ (0,0) h,cell_of_row W b 3 _ _ (0,0) h,cell_of_row W b 4 _ _ (0,0) h,cell_of_row W b 5 _ _ (0,0) h,cell_of_row W b 6 _ _ (0,0) h⟩
theorem BxO.fz {W:World}{b:Nat}{y:So×QV}(h:BxO W b y)(n:Nat):W.frozen? ⟨b,n,none⟩=false:=frozen_of_row W b n _ _ h
section
variable {w W W' w' w1:World}{B b n:Nat}{tg:Nat→Nat}{S:List So}{vo vt:SV}{qs:List QV}
theorem place_any {O:Nat→Prop}(y:So×QV)(hr:RowIn strC 1 9 B w O y.2.vn y.1.nm)(k:ByteArray) :
  Calls Tryz.prog 97 #[soV y,.string k] w fun e w'=>e = .returned (.int .i64 (plI y.1.nm k))∧Below w.heap.size w w':=by
 obtain⟨wb,hwb⟩:∃wb,wb=w.alloc (.cells #[.int .i64 y.1.kind,.int .u64 y.1.proto,.bool y.1.shut,y.2.vn.val,y.2.vd.val,y.2.ve.val,y.2.vi.val] 71):=⟨_,rfl⟩
 have hB:Below w.heap.size w wb:=by rw[hwb];exact(Below.refl _ _).alloc (Nat.le_refl _) _
 have hbx:BxO wb w.heap.size y:=by rw[hwb];exact BxO.new w y
 obtain⟨q1,q2,q3,q4⟩:=hr.open rtStr.len
 have H4:Hid (∀i u,y.1.nm[i]?=some u→∃gl,y.2.vn.ad=some ⟨gl,0,none⟩∧wb.cell? ⟨gl,i,none⟩=some (.string u)):=fun i u hi=>by
  obtain⟨gl,e1,_,_,_,hc,_⟩:=q4 (by intro e;rw[e] at hi;simp at hi)
  have:=hc i u hi 0 _ rfl
  simp only[Nat.mul_one,Nat.add_zero] at this
  exact⟨gl,e1,cells_below hB _ _ this⟩
 obtain⟨c0,c1,c2,c3,c4,c5,c6⟩:=hbx.ce
 have hlim:(y.1.nm.length:Int)≤9223372036854775807:=by unfold maxLen at q3;omega
 have HB:Hid (Below w.heap.size w wb):=hB
 have HE:Hid (plI y.1.nm k=match plS y.1.nm k with
  | some n=>(n:Int)
  | none => -1):=rfl
 generalize hR:plI y.1.nm k=R at *
 obtain⟨⟨kd,pr,sh,nm,ds,el,inn⟩,⟨⟨na,nl,nc⟩,vd,ve,vi⟩⟩:=y
 unfold soV
 unfold SV.val at *
 simp only at *
 subst q1
 clear hr hbx hB q2 q3 q4 hR
 go_enter Tryz.func97,Tryz.ntmps97
 go_wp2_with fail
 rw[←hwb]
 clear hwb
 go_loopw [5] (fun p wr=>∃(i:Nat),i≤nm.length∧p = .int .i64 (i:Int)∧wr=wb∧Hid (∀j,j<i→nm[j]?≠some k)) (fun p wr=>((nm.length:Int) - intOf p).toNat)
 case atStart=>exact⟨0,Nat.zero_le _,rfl,rfl,fun j hj=>by omega⟩
 case round =>
  obtain⟨i,hi,rfl,hww,HI⟩:=hrel
  have hw':=hww.symm
  subst hw'
  clear hww
  by_cases c:i<nm.length
  ·have hex:∃u,nm[i]?=some u:=⟨_,List.getElem?_eq_getElem c⟩
   obtain⟨u,hu⟩:=hex
   obtain⟨gl,rfl,du⟩:=H4.out i u hu
   have hii:(i:Int)<(nm.length:Int):=by omega
   have hid:decide ((i:Int)<(nm.length:Int))=true:=decide_eq_true hii
   have hw1:IntKind.i64.wrap ((i:Int)+1)=((i+1:Nat):Int):=by rw[IntKind.wrap_i64];omega
   have HC:Hid (i<nm.length):=c
   by_cases cu:u=k
   ·have hee:(u.toList == k.toList)=true:=by rw[cu];exact Sp.bytes_yes k
    have HR:Hid (R=(i:Int)):=by show R=_;rw[HE.out,plS_hit hu cu HI.out]
    clear HE HI hu c hi H4 cu
    go_wp2_with fail
    go_ret
    rw[HR.out]
    exact⟨rfl,HB.out⟩
   ·have hee:(u.toList == k.toList)=false:=Sp.bytes_no cu
    have HI2:Hid (∀j,j<i+1→nm[j]?≠some k):=fun j hj=>by
     by_cases q:j=i
     ·rw[q,hu];simpa using cu
     ·exact HI.out j (by omega)
    clear HE HI hu c hi H4 cu
    go_wp2_with fail
    refine⟨⟨i+1,by have:=HC.out;omega,rfl,by first | rfl | trivial,HI2⟩,?_⟩
    have:=HC.out
    simp[intOf]
    omega
  ·have hie:i=nm.length:=by omega
   subst hie
   have hii:¬((nm.length:Int)<(nm.length:Int)):=by omega
   have HR:Hid (R = -1):=by show R=_;rw[HE.out,plS_miss HI.out]
   clear HE HI c hi H4
   go_wp2_with fail
   go_ret
   rw[HR.out]
   exact⟨rfl,HB.out⟩
end
section
variable {w W W' w' w1:World}{B b n:Nat}{tg:Nat→Nat}{S:List So}{vo vt:SV}{qs:List QV}
def wWi (w:World)(vo vt:SV)(y:So×QV):World:=((w.alloc (.cells #[vo.val,vt.val] 33)).alloc (.cells #[.int .i64 y.1.kind,.int .u64 y.1.proto,.bool y.1.shut,y.2.vn.val,y.2.vd.val,y.2.ve.val,y.2.vi.val] 71)).alloc (.cells #[.slice none 0 0,.slice none 0 0] 33)
theorem wWi_facts (w:World)(vo vt:SV)(y:So×QV):BxS (wWi w vo vt y) w.heap.size vo vt∧BxO (wWi w vo vt y) (w.heap.size+1) y∧BxS (wWi w vo vt y) (w.heap.size+2) .nil .nil∧Below w.heap.size w (wWi w vo vt y):=by
 have s1:(w.alloc (.cells #[vo.val,vt.val] 33)).heap.size=w.heap.size+1:=size_new _ _
 have s2:((w.alloc (.cells #[vo.val,vt.val] 33)).alloc (.cells #[.int .i64 y.1.kind,.int .u64 y.1.proto,.bool y.1.shut,y.2.vn.val,y.2.vd.val,y.2.ve.val,y.2.vi.val] 71)).heap.size=w.heap.size+2:=by rw[size_new,s1]
 refine⟨at_old _ _ _ _ (at_old _ _ _ _ (at_new _ _)),at_old _ _ _ _ (at_two w _ _),?_,below_new (below_new (below_new (Below.refl _ _) (Nat.le_refl _) _) (by rw[s1];omega) _) (by rw[s2];omega) _⟩
 have:=at_new ((w.alloc (.cells #[vo.val,vt.val] 33)).alloc (.cells #[.int .i64 y.1.kind,.int .u64 y.1.proto,.bool y.1.shut,y.2.vn.val,y.2.vd.val,y.2.ve.val,y.2.vi.val] 71)) (.cells #[.slice none 0 0,.slice none 0 0] 33)
 rw[s2] at this
 exact this
def CelO (w:World)(g n:Nat):Prop:=(∀j,j<7→∃u,w.cell? ⟨g,n+j,none⟩=some u)∧∀j,w.frozen? ⟨g,j,none⟩=false
theorem StAt.celO (h:StAt w B tg S vo qs){i g cap:Nat}{x:So}(hi:S[i]?=some x)(hvo:vo=⟨some ⟨g,0,none⟩,S.length,cap⟩):CelO w g (i*7):=by
 obtain⟨g',cap',q,hv,hq,t1,hgl,hcell,hfz,hl1,hl2,hrow⟩:=h.obj hi
 rw[hvo] at hv
 injection hv with e1 e2 e3
 injection e1 with e1
 injection e1 with e1
 subst e1
 refine⟨fun j hj => ?_,hfz⟩
 have:j=0∨j=1∨j=2∨j=3∨j=4∨j=5∨j=6:=by omega
 rcases this with rfl | rfl | rfl | rfl | rfl | rfl | rfl
 ·exact⟨_,hcell 0 _ rfl⟩
 ·exact⟨_,hcell 1 _ rfl⟩
 ·exact⟨_,hcell 2 _ rfl⟩
 ·exact⟨_,hcell 3 _ rfl⟩
 ·exact⟨_,hcell 4 _ rfl⟩
 ·exact⟨_,hcell 5 _ rfl⟩
 ·exact⟨_,hcell 6 _ rfl⟩
theorem CelO.kept {T:Nat→Prop}{g:Nat}(h:CelO w g n)(hc:Chg T w w')(hn:¬T g):CelO w' g n:=by
 have hg:g<w.heap.size:=by obtain⟨u,hu⟩:=h.1 0 (by omega);exact World.block_lt_of_cell? w _ hu
 refine⟨fun j hj => ?_,fun j => ?_⟩
 ·obtain⟨u,hu⟩:=h.1 j hj
  exact⟨u,hc.cell hu hn⟩
 ·rw[World.frozen?_of_block (w:=w) (hc.block g hg hn)]
  exact h.2 j
theorem with_any {g cap len:Nat}(vt:SV)(i:Nat)(hc:CelO w g (i*7))(hil:i<len)(hl:len≤65536)(y:So×QV) :
  Calls Tryz.prog 81 #[stV ⟨some ⟨g,0,none⟩,len,cap⟩ vt,.int .i64 (i:Int),soV y] w fun e w'=>e = .returned (stV ⟨some ⟨g,0,none⟩,len,cap⟩ vt)∧∃w5,Below w.heap.size w w5∧Chg (fun b=>b=w.heap.size+2) (st7 w5 g (i*7) y) w':=by
 obtain⟨wb,hwb⟩:∃wb,wb=wWi w ⟨some ⟨g,0,none⟩,len,cap⟩ vt y:=⟨_,rfl⟩
 obtain⟨hs,ho,hr,hB⟩:=wWi_facts w ⟨some ⟨g,0,none⟩,len,cap⟩ vt y
 rw[←hwb] at hs ho hr hB
 have hgl:g<w.heap.size:=by obtain⟨u,hu⟩:=hc.1 0 (by omega);exact World.block_lt_of_cell? w _ hu
 have hcb:CelO wb g (i*7):=hc.kept (Chg.of_below (S:=fun _=>False) hB) (fun q=>q)
 obtain⟨b0,b1⟩:=hs.ce
 obtain⟨y0,y1,y2,y3,y4,y5,y6⟩:=ho.ce
 obtain⟨u0,g0⟩:=hcb.1 0 (by omega)
 obtain⟨u1,g1⟩:=hcb.1 1 (by omega)
 obtain⟨u2,g2⟩:=hcb.1 2 (by omega)
 obtain⟨u3,g3⟩:=hcb.1 3 (by omega)
 obtain⟨u4,g4⟩:=hcb.1 4 (by omega)
 obtain⟨u5,g5⟩:=hcb.1 5 (by omega)
 obtain⟨u6,g6⟩:=hcb.1 6 (by omega)
 have f0:=hcb.2 (i*7)
 have f1:=hcb.2 (i*7+1)
 have f2:=hcb.2 (i*7+2)
 have f3:=hcb.2 (i*7+3)
 have f4:=hcb.2 (i*7+4)
 have f5:=hcb.2 (i*7+5)
 have f6:=hcb.2 (i*7+6)
 have HCH:Hid (∀W,Chg (fun b=>b=w.heap.size+2) (st7 wb g (i*7) y) W→∃w5,Below w.heap.size w w5∧Chg (fun b=>b=w.heap.size+2) (st7 w5 g (i*7) y) W):=fun W q=>⟨wb,hB,q⟩
 have hch:=st7_chg wb g (i*7) y
 have hs7:=hs.kept hch (show ¬w.heap.size=g by omega)
 have hr7:=hr.kept hch (show ¬w.heap.size+2=g by omega)
 obtain⟨e0,e1⟩:=hs7.ce
 obtain⟨r0,r1⟩:=hr7.ce
 obtain⟨t0,t1⟩:=hr7.fz
 have HB:Hid (Below w.heap.size w wb):=hB
 have hii:(i:Int)<(len:Int):=by omega
 have hll:(len:Int)≤65536:=by omega
 have hrs:=heap_setCell_same _ (w.heap.size+2) 0 _ _ (SV.mk (some ⟨g,0,none⟩) len cap).val hr7
 have hrs2:=heap_setCell_same _ (w.heap.size+2) 1 _ _ vt.val hrs
 have HRS:=(show Hid _ from hrs2)
 obtain⟨⟨kd,pr,sh,nm,ds,el,inn⟩,⟨⟨na,nl,nc⟩,⟨da,dl,dc⟩,⟨ea,el',ec⟩,⟨ia,il,ic⟩⟩⟩:=y
 obtain⟨ta,tl,tc⟩:=vt
 have hst:st7 wb g (i*7) (⟨kd,pr,sh,nm,ds,el,inn⟩,⟨⟨na,nl,nc⟩,⟨da,dl,dc⟩,⟨ea,el',ec⟩,⟨ia,il,ic⟩⟩)=((((((wb.setCell ⟨g,i*7,none⟩ (.int .i64 kd)).setCell ⟨g,i*7+1,none⟩ (.int .u64 pr)).setCell ⟨g,i*7+2,none⟩ (.bool sh)).setCell ⟨g,i*7+3,none⟩ (.slice na nl nc)).setCell ⟨g,i*7+4,none⟩ (.slice da dl dc)).setCell ⟨g,i*7+5,none⟩ (.slice ea el' ec)).setCell ⟨g,i*7+6,none⟩ (.slice ia il ic):=rfl
 generalize st7 wb g (i*7) (⟨kd,pr,sh,nm,ds,el,inn⟩,⟨⟨na,nl,nc⟩,⟨da,dl,dc⟩,⟨ea,el',ec⟩,⟨ia,il,ic⟩⟩)=w7 at *
 unfold wWi at hwb
 unfold stV soV
 unfold SV.nil at *
 unfold SV.val at *
 simp only at *
 clear hs ho hr hB hc hcb hch hs7 hr7 hrs hrs2
 go_enter Tryz.func81,Tryz.ntmps81
 go_upto_region 1 with fail
 rw[←hwb]
 clear hwb
 simp only[Nat.add_zero] at g0
 go_upto_region 2 with fail
 rw[←hst]
 clear hst g0 g1 g2 g3 g4 g5 g6 f0 f1 f2 f3 f4 f5 f6 b0 b1 y0 y1 y2 y3 y4 y5 y6
 go_wp2_with fail
 refine bodyPost_ret (res1 rfl _ _ (w.heap.size+2) 33 _ (0,0) _ rfl HRS.out Tryz.underlying33 rfl (by kernel_rfl)) rfl ?_
 refine⟨rfl,HCH.out _ ?_⟩
 exact(Chg.set (S:=fun b=>b=w.heap.size+2) w7 ⟨w.heap.size+2,0,none⟩ _ rfl).trans (Chg.set (S:=fun b=>b=w.heap.size+2) _ ⟨w.heap.size+2,1,none⟩ _ rfl) (fun _ _ q=>q)
end
theorem res4 {P:Program}{fn:Func}{p a c:Tmp}{ty:TypeId}(h:fn.results=#[.cell p ty,.tmp a,.tmp c])(tmps:Array Value)(w:World)(g:Nat)(t:TypeId)(cs:Array Value)(fr:Nat×Nat)(d:TypeDesc)
  (hp:tmps.getD p undef = .pointer (some ⟨g,0,none⟩)) (hg:w.heap[g]?=some (.cells cs t fr))
  (hu:P.underlying ty=some d) (hd:(match d with | .struct _ | .array _ _=>true | _=>false)=true) (hi:(P.info? ty).map (·.size)=some cs.size) :
  (results fn tmps).run P w = .ok (.tuple #[.agg cs,tmps.getD a undef,tmps.getD c undef]) w:=by
 have hp':tmps[p]?.getD undef = .pointer (some ⟨g,0,none⟩):=by simpa using hp
 simp[results,h,hp',asAddr,run_loadVar_row w g t ty cs fr d hg hu hd hi]
def newS (kind proto:Int):So:=⟨kind,proto,false,[],[],[],[]⟩
section
variable {w W W' w5:World}{B:Nat}{tg:Nat→Nat}{S:List So}{vo vt:SV}{qs:List QV}
theorem StAt.push (h:StAt w B tg S vo qs){kind proto:Int}{vo':SV}(ho:OwnR soC 7 71 B w5 vo'.val (S.zip qs++[(newS kind proto,QV.none)]))(hc:Chg (fun b=>vo.val.ownBlock=some b) w w5)(hn:vo'.val.ownBlock=vo.val.ownBlock∨∃b,w.heap.size≤b∧vo'.val.ownBlock=some b)(hl:S.length<65536) :
  SWent w B tg (S++[newS kind proto]) vo' w5:=by
 have hvt:∀b,vo.val.ownBlock=some b→tg b=1∧b<w.heap.size:=fun b r=>⟨h.row.2 b r,(h.row.1.lt b r).2⟩
 have hcc:Chg (fun b=>tg b≠0) w w5:=hc.mono (fun b r=>by have:=(hvt b r).1;omega)
 refine⟨fun b=>if b<w.heap.size then tg b else if vo'.val.ownBlock=some b then 1 else 0,qs++[QV.none],⟨?_,?_,?_,by simp[h.len],by simp;omega,?_⟩,hcc,?_⟩
 ·have hz:(S++[newS kind proto]).zip (qs++[QV.none])=S.zip qs++[(newS kind proto,QV.none)]:=by
   rw[List.zip_append h.len.symm]
   rfl
  rw[hz]
  refine⟨ho,fun b r => ?_⟩
  show(if b<w.heap.size then tg b else if vo'.val.ownBlock=some b then 1 else 0)=1
  by_cases cb:b<w.heap.size
  ·rw[if_pos cb]
   rcases hn with e | ⟨b',e1,e2⟩
   ·exact(hvt b (by rw[←e];exact r)).1
   ·rw[e2] at r
    have:=Option.some.inj r
    omega
  ·rw[if_neg cb,if_pos r]
 ·intro k y p c h1 h2 h3
  by_cases ck:k<S.length
  ·rw[List.getElem?_append_left ck] at h1
   rw[List.getElem?_append_left (by rw[h.len];exact ck)] at h2
   have k1:SoP w B (fun b=>tg b=2+4*k+c∧b<w.heap.size) y p c:=SoP.mono c (h.ob k y p c h1 h2 h3) (fun b hb r=>⟨r,hb⟩)
   refine SoP.mono c (SoP.kept c k1 hc (fun b r s=>by have:=(hvt b s).1;have:=r.1;omega)) (fun b _ r => ?_)
   show(if b<w.heap.size then tg b else if vo'.val.ownBlock=some b then 1 else 0)=_
   rw[if_pos r.2]
   exact r.1
  ·have hk:k=S.length:=by
    have:=(List.getElem?_eq_some_iff.1 h1).1
    simp at this
    omega
   subst hk
   rw[List.getElem?_append_right (Nat.le_refl _)] at h1
   rw[List.getElem?_append_right (by rw[h.len];exact Nat.le_refl _)] at h2
   simp at h1
   simp[h.len] at h2
   subst h1
   subst h2
   have nl:∀ {β:Type} (enc:β→List Value) (k:Nat) (e:TypeId) (O:Nat→Prop),RowIn enc k e B w5 O SV.nil ([]:List β):=fun enc k e O=>⟨OwnR.nil _ _,fun b r=>by simp[SV.nil,SV.val,Value.ownBlock] at r⟩
   rcases (show c=0∨c=1∨c=2∨c=3 by omega) with rfl | rfl | rfl | rfl
   ·exact nl _ _ _ _
   ·exact nl _ _ _ _
   ·exact nl _ _ _ _
   ·exact nl _ _ _ _
 ·intro b r
  have r:(if b<w.heap.size then tg b else if vo'.val.ownBlock=some b then 1 else 0)≠0:=r
  by_cases cb:b<w.heap.size
  ·rw[if_pos cb] at r
   have:=h.lt b r
   have:=hc.size
   omega
  ·rw[if_neg cb] at r
   by_cases c2:vo'.val.ownBlock=some b
   ·exact ho.lt b c2
   ·rw[if_neg c2] at r;exact absurd rfl r
 ·intro y hy
  rcases List.mem_append.1 hy with r | r
  ·exact h.same y r
  ·rw[List.mem_singleton.1 r];rfl
 ·intro b r
  have r:(if b<w.heap.size then tg b else if vo'.val.ownBlock=some b then 1 else 0)≠0:=r
  by_cases cb:b<w.heap.size
  ·rw[if_pos cb] at r
   exact Or.inl r
  ·exact Or.inr (by omega)
theorem boxSS (w:World)(vo vt:SV):BxS ((w.alloc (.cells #[vo.val,vt.val] 33)).alloc (.cells #[.slice none 0 0,.slice none 0 0] 33)) w.heap.size vo vt∧BxS ((w.alloc (.cells #[vo.val,vt.val] 33)).alloc (.cells #[.slice none 0 0,.slice none 0 0] 33)) (w.heap.size+1) .nil .nil∧Below w.heap.size w ((w.alloc (.cells #[vo.val,vt.val] 33)).alloc (.cells #[.slice none 0 0,.slice none 0 0] 33)) :=
 ⟨at_old _ _ _ _ (at_new _ _),at_two w _ _,B2 w _ _⟩
theorem rmake_null (h:StAt w B tg S vo qs)(hB:B≤w.heap.size)(vt:SV)(kind:Int)(k0:0≤kind)(k6:kind≤6)(hl:S.length<65536) :
  Calls Tryz.prog 29 #[stV vo vt,.int .i64 kind,.int .u64 18445336698825998337] w fun e w'=>∃vo',e = .returned (.tuple #[stV vo' vt,.int .u64 (objW (S.length:Int)),.bool true])∧SWent w B tg (S++[newS kind 18445336698825998337]) vo' w':=by
 obtain⟨wb,hwb⟩:∃wb,wb=(w.alloc (.cells #[vo.val,vt.val] 33)).alloc (.cells #[.slice none 0 0,.slice none 0 0] 33):=⟨_,rfl⟩
 obtain⟨hbs,hbr,hBw⟩:=boxSS w vo vt
 rw[←hwb] at hbs hbr hBw
 obtain⟨ad,cap,hv,h1,h2⟩:=h.vol
 have hlz:(S.zip qs).length=S.length:=by rw[List.length_zip,h.len];omega
 have HAL:Hid (Below wb.heap.size wb (wb.alloc (.cells #[.int .i64 kind,.int .u64 18445336698825998337,.bool false,.slice none 0 0,.slice none 0 0,.slice none 0 0,.slice none 0 0] 71))):=(Below.refl _ _).alloc (Nat.le_refl _) _
 have hvv:vo.val = .slice ad S.length cap:=by rw[hv];rfl
 have hwal:=hBw.trans (HAL.out.mono hBw.size)
 have HOWN:Hid (OwnR soC 7 71 B (wb.alloc (.cells #[.int .i64 kind,.int .u64 18445336698825998337,.bool false,.slice none 0 0,.slice none 0 0,.slice none 0 0,.slice none 0 0] 71)) (.slice ad S.length cap) (S.zip qs)):=by
  have:=(h.below hwal).row.1
  rw[hvv] at this
  exact this
 have HONE:Hid (Sli.ok soC 7 (wb.alloc (.cells #[.int .i64 kind,.int .u64 18445336698825998337,.bool false,.slice none 0 0,.slice none 0 0,.slice none 0 0,.slice none 0 0] 71)) ⟨some ⟨wb.heap.size,0,none⟩,1,[(newS kind 18445336698825998337,QV.none)]⟩):=one_sli rtSo (at_new _ _) rfl
 have HBX:Hid ((((S.zip qs).length+1)+((S.zip qs).length+1) / 4+192)*120≤281474976710656∧(S.zip qs).length+1≤maxLen):=by rw[hlz];exact⟨by omega,by unfold maxLen;omega⟩
 have HSZ:Hid (B≤(wb.alloc (.cells #[.int .i64 kind,.int .u64 18445336698825998337,.bool false,.slice none 0 0,.slice none 0 0,.slice none 0 0,.slice none 0 0] 71)).heap.size):=Nat.le_trans hB hwal.size
 have HPU:Hid (∀(w5:World) (g5 c5:Nat),OwnR soC 7 71 B w5 (.slice (some ⟨g5,0,none⟩) (S.length+1) c5) (S.zip qs++[(newS kind 18445336698825998337,QV.none)])→Chg (fun b=>(Value.slice ad S.length cap).ownBlock=some b) wb w5→((Value.slice ad S.length cap).ownBlock=some g5∨wb.heap.size≤g5)→(BxS w5 w.heap.size vo vt∧BxS w5 (w.heap.size+1) .nil .nil)∧∀W'',Chg (fun b=>b=w.heap.size∨b=w.heap.size+1) w5 W''→SWent w B tg (S++[newS kind 18445336698825998337]) ⟨some ⟨g5,0,none⟩,S.length+1,c5⟩ W''):=fun w5 g5 c5 q1 q2 q3=>by
  have hvb:∀b,w.heap.size≤b→¬(Value.slice ad S.length cap).ownBlock=some b:=fun b hb r=>by
   have:=(h.row.1.lt b (by rw[hvv];exact r)).2
   omega
  refine⟨⟨hbs.kept q2 (hvb _ (Nat.le_refl _)),hbr.kept q2 (hvb _ (by omega))⟩,fun W'' q4 => ?_⟩
  have hg5:g5≠w.heap.size∧g5≠w.heap.size+1:=by
   rcases q3 with q | q
   ·have:=(h.row.1.lt g5 (by rw[hvv];exact q)).2
    omega
   ·have:=hbr.lt
    omega
  have o1:=q1.kept q4 (fun b r s=>by have r:g5=b:=(by simpa [Value.ownBlock] using r);omega)
  refine h.push o1 ?_ ?_ hl
  ·have c1:Chg (fun b=>(Value.slice ad S.length cap).ownBlock=some b∨w.heap.size≤b) w W'':=(((Chg.of_below hBw).trans q2 (fun b _ r=>Or.inl r)).trans q4 (fun b _ r=>Or.inr (by omega)))
   exact⟨c1.os,c1.tape,c1.output,c1.size,fun b hb hn=>c1.block b hb (fun r=>by rcases r with r | r;exact hn (by rw[hvv];exact r);omega)⟩
  ·rcases q3 with q | q
   ·exact Or.inl (by rw[hvv,q];rfl)
   ·exact Or.inr ⟨g5,Nat.le_trans hBw.size q,rfl⟩
 have hsl:(S.length:Int)<65536:=by omega
 obtain⟨b0,b1⟩:=hbs.ce
 rw[hvv] at b0
 have hob:18445055223849287680+(S.length:Int)=objW (S.length:Int):=rfl
 have hw64:IntKind.u64.wrap (18445055223849287680+(S.length:Int))=objW (S.length:Int):=by rw[IntKind.wrap_u64];unfold objW;omega
 unfold stV
 rw[hvv] at hwb ⊢
 obtain⟨ta,tl,tc⟩:=vt
 rw[show(SV.mk ta tl tc).val = .slice ta tl tc from rfl] at *
 generalize hsn:S.length=n at *
 clear h hB hBw hwal hv h1 h2 hl
 go_enter Tryz.func29,Tryz.ntmps29
 go_upto_region 1 with fail
 rw[←hwb]
 clear hwb
 have kk0:decide (kind<0)=false:=decide_eq_false (by omega)
 have kk6:decide (6<kind)=false:=decide_eq_false (by omega)
 have kkl:decide (65536≤(n:Int))=false:=decide_eq_false (by omega)
 go_wp2_with (at_builtin;refine app_row rtSo rfl _ _ rfl B (.slice ad n cap) (S.zip qs) (by rfl) HOWN.out ⟨some ⟨wb.heap.size,0,none⟩,1,[(newS kind 18445336698825998337,QV.none)]⟩ (by rfl) HONE.out HBX.out.2 HBX.out.1 HSZ.out ?_)
 intro v5 w5 ho5 hg5 hl5
 have hll:(S.zip qs++[(newS kind 18445336698825998337,QV.none)]).length=n+1:=by rw[List.length_append,hlz];rfl
 have ho6:w5.ownsRow B 71 7 v5 (n+1) ((S.zip qs++[(newS kind 18445336698825998337,QV.none)]).flatMap soC):=by rw[←hll];exact ho5
 obtain⟨g5,c5,rfl,_,_⟩:=ho6.form (by omega)
 have hch:Chg (fun b=>(Value.slice ad n cap).ownBlock=some b) wb w5:=(Chg.of_below HAL.out).trans (Chg.of_grown (S:=fun b=>(Value.slice ad n cap).ownBlock=some b) hg5 (fun k q=>q)) (fun _ _ q=>q)
 obtain⟨⟨hb1,hb2⟩,hfin⟩:=HPU.out w5 g5 c5 ho5 hch (hl5.imp (fun q=>by rw[←q];rfl) (fun q=>by
  have q:g5=wb.heap.size+1:=by simpa [Value.ownBlock] using q
  omega))
 obtain⟨p0,p1⟩:=hb1.ce
 rw[hvv] at p0
 rw[show(SV.mk ta tl tc).val = .slice ta tl tc from rfl] at p1
 obtain⟨pf0,pf1⟩:=hb1.fz
 have hs1:=heap_setCell_same _ w.heap.size 0 _ _ (.slice (some ⟨g5,0,none⟩) (n+1) c5) hb1
 have hc6:Chg (fun b=>b=w.heap.size) w5 (w5.setCell ⟨w.heap.size,0,none⟩ (.slice (some ⟨g5,0,none⟩) (n+1) c5)):=Chg.set (S:=fun b=>b=w.heap.size) w5 ⟨w.heap.size,0,none⟩ _ rfl
 have hb3:=hb2.kept hc6 (by omega)
 have HFI:=(show Hid _ from hfin)
 have HC6:=(show Hid _ from hc6)
 clear ho5 ho6 hg5 hl5 hch HPU HAL HOWN HONE HBX HSZ hb1 hb2 hfin hc6
 go_upto_region 4 with fail
 generalize (w5.setCell ⟨w.heap.size,0,none⟩ (.slice (some ⟨g5,0,none⟩) (n+1) c5))=w6 at *
 have m0:w6.cell? ⟨w.heap.size,0,none⟩=some (.slice (some ⟨g5,0,none⟩) (n+1) c5):=cell_of_row w6 w.heap.size 0 _ _ (0,0) hs1
 have m1:w6.cell? ⟨w.heap.size,1,none⟩=some (.slice ta tl tc):=cell_of_row w6 w.heap.size 1 _ _ (0,0) hs1
 obtain⟨r0,r1⟩:=hb3.ce
 obtain⟨rf0,rf1⟩:=hb3.fz
 have z0:=heap_setCell_same _ (w.heap.size+1) 0 _ _ (.slice (some ⟨g5,0,none⟩) (n+1) c5) hb3
 have z1:=heap_setCell_same _ (w.heap.size+1) 1 _ _ (.slice ta tl tc) z0
 have HZ:=(show Hid _ from z1)
 have hsub:IntKind.i64.wrap (((n+1:Nat):Int) - 1)=(n:Int):=by rw[IntKind.wrap_i64];omega
 have hcv:IntKind.u64.wrap (n:Int)=(n:Int):=by rw[IntKind.wrap_u64];omega
 clear p0 p1 pf0 pf1 hs1 hb3 z0 z1 b0 b1 hbs hbr
 go_region
 all_goals
  go_wp2_with fail
  refine bodyPost_ret (res4 rfl _ _ (w.heap.size+1) 33 _ (0,0) _ rfl HZ.out Tryz.underlying33 rfl (by kernel_rfl)) rfl ?_
  refine⟨⟨some ⟨g5,0,none⟩,n+1,c5⟩,rfl,HFI.out _ ?_⟩
  exact(((HC6.out.mono (fun b r=>Or.inl r)).trans (Chg.set (S:=fun b=>b=w.heap.size∨b=w.heap.size+1) w6 ⟨w.heap.size+1,0,none⟩ _ (Or.inr rfl)) (fun _ _ q=>q)).trans (Chg.set (S:=fun b=>b=w.heap.size∨b=w.heap.size+1) _ ⟨w.heap.size+1,1,none⟩ _ (Or.inr rfl)) (fun _ _ q=>q)).drew
end
structure PuS (w W:World)(B:Nat)(tg:Nat→Nat)(i:Nat)(N:Nat→Nat)(y:So×QV):Prop where
 chg:Chg (fun b=>∃c,c<4∧tg b=2+4*i+c) w W
 rows:∀c,c<4→SoP W B (fun b=>ntg tg N w.heap.size b=2+4*i+c) y.1 y.2 c
 new:∀b,N b≠0→w.heap.size≤b∧b<W.heap.size∧∃c,c<4∧N b=2+4*i+c
section
variable {w W W':World}{B:Nat}{tg:Nat→Nat}{S:List So}{vo vt:SV}{qs:List QV}{i:Nat}{N:Nat→Nat}{y:So×QV}{x:So}{q:QV}
theorem StAt.pus (h:StAt w B tg S vo qs)(hi:S[i]?=some x)(hq:qs[i]?=some q):PuS w w B tg i (fun _=>0) (x,q):=by
 refine⟨Chg.refl _ _,fun c hc=>SoP.mono c (h.ob i x q c hi hq hc) (fun b hb r => ?_),fun b r=>absurd rfl r⟩
 show ntg tg _ w.heap.size b=_
 unfold ntg
 rw[if_pos hb]
 exact r
theorem PuS.own {T:Nat→Prop}(h:PuS w W B tg i N y)(hc:Chg T W W')(hT:∀b,b<W.heap.size→T b→w.heap.size≤b∧N b=0):PuS w W' B tg i N y:=by
 refine⟨h.chg.trans hc (fun b hb r => ?_),fun c hc4 => ?_,fun b r => ?_⟩
 ·have:=hT b (Nat.lt_of_lt_of_le hb h.chg.size) r
  omega
 ·have k1:SoP W B (fun b=>ntg tg N w.heap.size b=2+4*i+c∧b<W.heap.size) y.1 y.2 c:=SoP.mono c (h.rows c hc4) (fun b hb r=>⟨r,hb⟩)
  refine SoP.mono c (SoP.kept c k1 hc (fun b r s => ?_)) (fun b _ r=>r.1)
  have h1:=hT b r.2 s
  have h2:=r.1
  unfold ntg at h2
  rw[if_neg (by omega)] at h2
  omega
 ·have h1:=h.new b r
  have h2:=hc.size
  exact⟨h1.1,by omega,h1.2.2⟩
theorem PuS.below (h:PuS w W B tg i N y)(hb:Below W.heap.size W W'):PuS w W' B tg i N y:=h.own (T:=fun _=>False) (Chg.of_below hb) (fun _ _ r=>r.elim)
def nuN (w:World)(N:Nat→Nat)(v:Value)(t:Nat)(b:Nat):Nat:=if v.ownBlock=some b∧w.heap.size≤b then t else N b
theorem PuS.row (h:PuS w W B tg i N y){c0:Nat}(hc0:c0<4){v v':Value}(hv:∀b,v.ownBlock=some b→ntg tg N w.heap.size b=2+4*i+c0)(hc:Chg (fun b=>v.ownBlock=some b) W W')(hn:v'.ownBlock=v.ownBlock∨∃b,W.heap.size≤b∧b<W'.heap.size∧v'.ownBlock=some b)
  (y':So×QV) (hrow:∀O:Nat→Prop,(∀b,v'.ownBlock=some b→O b)→SoP W' B O y'.1 y'.2 c0)
  (hsame:∀c (O:Nat→Prop),c<4→c≠c0→SoP W' B O y.1 y.2 c→SoP W' B O y'.1 y'.2 c):PuS w W' B tg i (nuN w N v' (2+4*i+c0)) y':=by
 have hvl:∀b,v.ownBlock=some b→b<w.heap.size∧tg b=2+4*i+c0∨w.heap.size≤b∧N b=2+4*i+c0:=fun b r=>by
  have h1:=hv b r
  unfold ntg at h1
  by_cases cb:b<w.heap.size
  ·rw[if_pos cb] at h1;exact Or.inl ⟨cb,h1⟩
  ·rw[if_neg cb] at h1;exact Or.inr ⟨by omega,h1⟩
 refine⟨h.chg.trans hc (fun b hb r => ?_),fun c hc4 => ?_,fun b r => ?_⟩
 ·rcases hvl b r with q | q
  ·exact⟨c0,hc0,q.2⟩
  ·omega
 ·by_cases cc:c=c0
  ·subst cc
   refine hrow _ (fun b r => ?_)
   show ntg tg _ w.heap.size b=_
   unfold ntg nuN
   by_cases cb:b<w.heap.size
   ·rw[if_pos cb]
    rcases hn with e | ⟨b',e1,e2,e3⟩
    ·rcases hvl b (by rw[←e];exact r) with q | q
     ·exact q.2
     ·omega
    ·rw[e3] at r
     have:=Option.some.inj r
     have:=h.chg.size
     omega
   ·rw[if_neg cb,if_pos ⟨r,by omega⟩]
  ·have k1:SoP W B (fun b=>ntg tg N w.heap.size b=2+4*i+c∧b<W.heap.size) y.1 y.2 c:=SoP.mono c (h.rows c hc4) (fun b hb r=>⟨r,hb⟩)
   have k2:SoP W' B (fun b=>ntg tg N w.heap.size b=2+4*i+c∧b<W.heap.size) y.1 y.2 c:=SoP.kept c k1 hc (fun b r s=>by
    have h1:=hv b s
    have h2:=r.1
    omega)
   refine hsame c _ hc4 cc (SoP.mono c k2 (fun b _ r => ?_))
   obtain⟨r,hb⟩:=r
   show ntg tg _ w.heap.size b=_
   unfold ntg at r ⊢
   by_cases cb:b<w.heap.size
   ·rw[if_pos cb] at r ⊢;exact r
   ·rw[if_neg cb] at r ⊢
    unfold nuN
    rw[if_neg]
    ·exact r
    ·rintro⟨e,_⟩
     rcases hn with e' | ⟨b',e1,e2,e3⟩
     ·have:=hv b (by rw[←e'];exact e)
      unfold ntg at this
      rw[if_neg cb] at this
      omega
     ·rw[e3] at e
      have:=Option.some.inj e
      omega
 ·unfold nuN at r
  by_cases cb:v'.ownBlock=some b∧w.heap.size≤b
  ·refine⟨cb.2,?_,c0,hc0,by unfold nuN;rw[if_pos cb]⟩
   rcases hn with e | ⟨b',e1,e2,e3⟩
   ·rcases hvl b (by rw[←e];exact cb.1) with q | q
    ·omega
    ·have h1:=h.new b (by omega)
     have:=hc.size
     omega
   ·have h1:=cb.1
    rw[e3] at h1
    have:=Option.some.inj h1
    omega
  ·rw[if_neg cb] at r
   have h1:=h.new b r
   have h2:=hc.size
   refine⟨h1.1,by omega,?_⟩
   unfold nuN
   rw[if_neg cb]
   exact h1.2.2
end
theorem two_fun {α β:Type}{R:World→α→β→Prop}(h:∀w,∃a b,R w a b):∃(F:World→α)(D:World→β),∀w,R w (F w) (D w):=⟨fun w=>(h w).choose,fun w=>(h w).choose_spec.choose,fun w=>(h w).choose_spec.choose_spec⟩
theorem arch_some (way:Ieee.Toward)(name:String)(x:Nat)(w:World):∃n w',(Extern.MathFloor.toIntegral name way #[.float .f64 x]).run Tryz.prog w = .ok (.float .f64 n) w'∧Below w.heap.size w w':=by
 cases hd:FloatKind.f64.decode x with
 | nan s t =>
   by_cases q:FloatKind.f64.format.quiet t=t
   ·have h:∃n,(Extern.MathFloor.toIntegral name way #[.float .f64 x]).run Tryz.prog w = .ok (.float .f64 n) w:=by
     unfold Extern.MathFloor.toIntegral
     conv=>enter [1,k];lhs;arg 2;whnf
     simp only[hd]
     rw[if_pos q]
     exact⟨_,rfl⟩
    exact⟨h.choose,w,h.choose_spec,Below.refl _ _⟩
   ·have h:∃n,(Extern.MathFloor.toIntegral name way #[.float .f64 x]).run Tryz.prog w = .ok (.float .f64 n) w.drew:=by
     unfold Extern.MathFloor.toIntegral
     conv=>enter [1,k];lhs;arg 2;whnf
     simp only[hd]
     rw[if_neg q]
     exact⟨_,rfl⟩
    exact⟨h.choose,w.drew,h.choose_spec,(Below.refl _ _).drew⟩
 | _ =>
   have h:∃n,(Extern.MathFloor.toIntegral name way #[.float .f64 x]).run Tryz.prog w = .ok (.float .f64 n) w:=by
    unfold Extern.MathFloor.toIntegral
    conv=>enter [1,k];lhs;arg 2;whnf
    simp only[hd]
    exact⟨_,rfl⟩
   exact⟨h.choose,w,h.choose_spec,Below.refl _ _⟩
theorem floor_some (x:Nat)(w:World):Calls Tryz.prog 123 #[.float .f64 x] w fun e w'=>∃n,e = .returned (.float .f64 n)∧Below w.heap.size w w':=by
 obtain ⟨F, D, h⟩ := two_fun (R := fun w n w' => (Extern.MathFloor.toIntegral "math.archFloor" .down #[.float .f64 x]).run Tryz.prog w = .ok (.float .f64 n) w' ∧ Below w.heap.size w w') (arch_some .down "math.archFloor" x)
 have hx:∀w,(callFunc 139 #[.float .f64 x]).run Tryz.prog w = .ok (.value (.float .f64 (F w))) (D w):=fun w=>by
  rw [run_callFunc_extern (e := Extern.MathFloor.toIntegral "math.archFloor" .down) Tryz.func139 (by kernel_rfl) (by kernel_rfl) (by kernel_rfl) (by kernel_rfl)]
  rw[(h w).1]
  rfl
 have HB:Hid (∀w,Below w.heap.size w (D w)):=fun w=>(h w).2
 clear h
 go_enter Tryz.func123,Tryz.ntmps123
 go_wp2
 go_ret
 exact⟨_,rfl,HB.out _⟩
theorem conv_some (x:Nat)(w:World):∃n w',(convert 167 21 (.float .f64 x)).run Tryz.prog w = .ok (.int .i32 n) w'∧Below w.heap.size w w':=by
 have e:(convert 167 21 (.float .f64 x)).run Tryz.prog w=(Conv.floatToInt .f64 x .i32).run Tryz.prog w:=by
  unfold convert
  simp
 rw[e]
 unfold Conv.floatToInt
 simp only
 cases (FloatKind.f64.decode x).toInt .zero with
 | none=>exact⟨_,_,rfl,(Below.refl _ _).drew⟩
 | some n =>
   simp only
   split
   ·exact⟨_,_,rfl,Below.refl _ _⟩
   ·exact⟨_,_,rfl,(Below.refl _ _).drew⟩
theorem frombits_run (a:Int)(w:World):(callFunc 108 #[.int .u64 a]).run Tryz.prog w = .ok (.value (.float .f64 a.toNat)) w:=by
 rw[run_callFunc_extern (e:=Extern.MathFloatBits.float64frombits) Tryz.func108 (by kernel_rfl) (by kernel_rfl) (by kernel_rfl) (by kernel_rfl)]
 rfl
theorem tobits_run (n:Nat)(w:World):(callFunc 125 #[.float .f64 n]).run Tryz.prog w = .ok (.value (.int .u64 n)) w:=by
 rw[run_callFunc_extern (e:=Extern.MathFloatBits.float64bits) Tryz.func125 (by kernel_rfl) (by kernel_rfl) (by kernel_rfl) (by kernel_rfl)]
 rfl
theorem signbit_some (n:Nat)(w:World):Calls Tryz.prog 124 #[.float .f64 n] w fun e w'=>∃b,e = .returned (.bool b)∧w'=w:=by
 have hx:=tobits_run
 go_enter Tryz.func124,Tryz.ntmps124
 go_wp2
 go_ret
 exact⟨_,rfl,rfl⟩
end Go.Proofs.YtahhionlbfhinabGreatDoor.Hp
