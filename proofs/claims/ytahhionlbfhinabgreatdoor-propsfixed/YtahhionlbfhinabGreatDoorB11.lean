/- KC, LC, LD, LE -/
import Derived.Test.YtahhionlbfhinabGreatDoorB9
import Derived.Test.YtahhionlbfhinabGreatDoorHY
set_option linter.unusedVariables false
set_option linter.unusedSimpArgs false
set_option maxRecDepth 100000
set_option maxHeartbeats 40000000
namespace Go.Proofs.YtahhionlbfhinabGreatDoor.Hp
open Go.RowKit
def zDe:De:=⟨0,0,0⟩
def Bx3 (W:World)(b:Nat)(d:De):Prop:=W.heap[b]?=some (.cells #[.int .u64 d.va,.int .u64 d.se,.int .i64 d.fl] 39 (0,0))
def st3 (W:World)(b:Nat)(d:De):World:=((W.setCell ⟨b,0,none⟩ (.int .u64 d.va)).setCell ⟨b,1,none⟩ (.int .u64 d.se)).setCell ⟨b,2,none⟩ (.int .i64 d.fl)
theorem Bx3.new (w:World):Bx3 (w.alloc (.cells #[.int .u64 0,.int .u64 0,.int .i64 0] 39)) w.heap.size zDe:=at_new _ _
theorem Bx3.box (w:World)(d:De):Bx3 (w.alloc (.cells #[.int .u64 d.va,.int .u64 d.se,.int .i64 d.fl] 39)) w.heap.size d:=at_new _ _
section
variable {w W W':World}{b n:Nat}{d:De}
theorem Bx3.lt (h:Bx3 W b d):b<W.heap.size:=(Array.getElem?_eq_some_iff.1 h).1
theorem Bx3.below (h:Bx3 W b d)(hB:Below W.heap.size W W'):Bx3 W' b d:=by
 unfold Bx3
 rw[hB.block b h.lt]
 exact h
theorem Bx3.fz (h:Bx3 W b d):W.frozen? ⟨b,0,none⟩=false∧W.frozen? ⟨b,1,none⟩=false∧W.frozen? ⟨b,2,none⟩=false:=⟨frozen_of_row W b 0 _ _ h,frozen_of_row W b 1 _ _ h,frozen_of_row W b 2 _ _ h⟩
theorem Bx3.ce (h:Bx3 W b d):W.cell? ⟨b,0,none⟩=some (.int .u64 d.va)∧W.cell? ⟨b,1,none⟩=some (.int .u64 d.se)∧W.cell? ⟨b,2,none⟩=some (.int .i64 d.fl):=⟨cell_of_row W b 0 _ _ (0,0) h,cell_of_row W b 1 _ _ (0,0) h,cell_of_row W b 2 _ _ (0,0) h⟩
theorem Bx3.put (h:Bx3 W b d)(d':De):Bx3 (st3 W b d') b d':=by
 have s0:=heap_setCell_same W b 0 _ _ (.int .u64 d'.va) h
 have s1:=heap_setCell_same _ b 1 _ _ (.int .u64 d'.se) s0
 exact heap_setCell_same _ b 2 _ _ (.int .i64 d'.fl) s1
theorem Bx3.pfl (h:Bx3 W b d)(z:Int):Bx3 (W.setCell ⟨b,2,none⟩ (.int .i64 z)) b { d with fl:=z }:=heap_setCell_same W b 2 _ _ (.int .i64 z) h
theorem Bx3.pva (h:Bx3 W b d)(z:Int):Bx3 (W.setCell ⟨b,0,none⟩ (.int .u64 z)) b { d with va:=z }:=heap_setCell_same W b 0 _ _ (.int .u64 z) h
theorem Bx3.pse (h:Bx3 W b d)(z:Int):Bx3 (W.setCell ⟨b,1,none⟩ (.int .u64 z)) b { d with se:=z }:=heap_setCell_same W b 1 _ _ (.int .u64 z) h
theorem st3_below (hB:Below n w W)(hb:n≤b)(d:De):Below n w (st3 W b d):=((hB.setCell hb _).setCell hb _).setCell hb _
end
theorem res1 {P:Program}{fn:Func}{p:Tmp}{ty:TypeId}(h:fn.results=#[.cell p ty])(tmps:Array Value)(w:World)(g:Nat)(t:TypeId)(cs:Array Value)(fr:Nat×Nat)(d:TypeDesc)
  (hp:tmps.getD p undef = .pointer (some ⟨g,0,none⟩)) (hg:w.heap[g]?=some (.cells cs t fr))
  (hu:P.underlying ty=some d) (hd:(match d with | .struct _ | .array _ _=>true | _=>false)=true) (hi:(P.info? ty).map (·.size)=some cs.size) :
  (results fn tmps).run P w = .ok (.agg cs) w:=by
 have hp':tmps[p]?.getD undef = .pointer (some ⟨g,0,none⟩):=by simpa using hp
 simp[results,h,hp',asAddr,run_loadVar_row w g t ty cs fr d hg hu hd hi]
theorem res3 {P:Program}{fn:Func}{p a c:Tmp}{ty:TypeId}(h:fn.results=#[.tmp c,.cell p ty,.tmp a])(tmps:Array Value)(w:World)(g:Nat)(t:TypeId)(cs:Array Value)(fr:Nat×Nat)(d:TypeDesc)
  (hp:tmps.getD p undef = .pointer (some ⟨g,0,none⟩)) (hg:w.heap[g]?=some (.cells cs t fr))
  (hu:P.underlying ty=some d) (hd:(match d with | .struct _ | .array _ _=>true | _=>false)=true) (hi:(P.info? ty).map (·.size)=some cs.size) :
  (results fn tmps).run P w = .ok (.tuple #[tmps.getD c undef,.agg cs,tmps.getD a undef]) w:=by
 have hp':tmps[p]?.getD undef = .pointer (some ⟨g,0,none⟩):=by simpa using hp
 simp[results,h,hp',asAddr,run_loadVar_row w g t ty cs fr d hg hu hd hi]
def getO (ob:Ob)(k:ByteArray):Option De:=(plc ob.ps k).bind (fun n=>(ob.ps[n]?).map Pr.de)
def getH (H:He)(o:Int)(k:ByteArray):Option De:=(obO H o).bind (fun ob=>getO ob k)
def He.neat (H:He):Prop:=∀ob∈H.obs,ob.neat
section
variable {w w' w1:World}{B hb:Nat}{O S:Nat→Prop}{H H':He}{M M':HV}{tg:Nat→Nat}
theorem get_none (h:HeapAt w B hb tg H M)(o:Int)(o0:0≤o)(o1:o<18446744073709551616)(k:ByteArray)(hq:obO H o=none) :
  Calls Tryz.prog 26 #[.pointer (some ⟨hb,0,none⟩),.int .u64 o,.string k] w fun e w'=>e = .returned (.tuple #[deV zDe,.bool false])∧Below w.heap.size w w':=by
 obtain⟨wb,hwb⟩:∃wb,wb=w.alloc (.cells #[.int .u64 0,.int .u64 0,.int .i64 0] 39):=⟨_,rfl⟩
 have hB:Below w.heap.size w wb:=by rw[hwb];exact(Below.refl _ _).alloc (Nat.le_refl _) _
 have hbx:Bx3 wb w.heap.size zDe:=by rw[hwb];exact Bx3.new w
 have ka:=at_miss (h.below hB) o o0 o1 (obO_none hq)
 have HF:Hid (Bx3 (st3 wb w.heap.size zDe) w.heap.size zDe∧Below w.heap.size w (st3 wb w.heap.size zDe)):=⟨hbx.put _,st3_below hB (Nat.le_refl _) _⟩
 obtain⟨f0,f1,f2⟩:=hbx.fz
 obtain⟨b0,b1,b2⟩:=hbx.ce
 unfold zDe at b0 b1 b2
 clear h hq hbx hB
 go_enter Tryz.func26,Tryz.ntmps26
 go_upto_region 1 with fail
 rw[←hwb]
 clear hwb
 go_wp2_with fail
 refine ka.mono ?_
 rintro e w2 ⟨rfl,rfl⟩
 clear ka
 go_wp2_with fail
 refine bodyPost_ret (res2 rfl _ _ w.heap.size 39 _ (0,0) _ rfl HF.out.1 Tryz.underlying39 rfl (by kernel_rfl)) rfl ?_
 exact⟨rfl,HF.out.2⟩
theorem get_miss (h:HeapAt w B hb tg H M)(o:Int)(o0:0≤o)(o1:o<18446744073709551616){i:Nat}{ob:Ob}{k:ByteArray}(ho:obI H o=some i)(hi:H.obs[i]?=some ob)(hn:plc ob.ps k=none)(hnt:ob.neat)(hk:k.size≤maxLen) :
  Calls Tryz.prog 26 #[.pointer (some ⟨hb,0,none⟩),.int .u64 o,.string k] w fun e w'=>e = .returned (.tuple #[deV zDe,.bool false])∧Below w.heap.size w w':=by
 obtain⟨wb,hwb⟩:∃wb,wb=w.alloc (.cells #[.int .u64 0,.int .u64 0,.int .i64 0] 39):=⟨_,rfl⟩
 have hB:Below w.heap.size w wb:=by rw[hwb];exact(Below.refl _ _).alloc (Nat.le_refl _) _
 have hbx:Bx3 wb w.heap.size zDe:=by rw[hwb];exact Bx3.new w
 have h2:=h.below hB
 obtain⟨g,cap,ov,hvo,hov,t4,hne,hgl,hcell,hfz,hl1,hl2,hrow⟩:=h2.obj hi
 have ka:=at_hit h2 o o0 o1 i g cap ho hvo
 have kf2:=(show FindB _ _ _ _ _ from find_any (ob:=ob) h2 hi hvo hnt k hk)
 unfold FindB at kf2
 rw[hn] at kf2
 have HBX:Hid (∀w6,Below wb.heap.size wb w6→Bx3 w6 w.heap.size zDe∧Bx3 (st3 w6 w.heap.size zDe) w.heap.size zDe∧Below w.heap.size w (st3 w6 w.heap.size zDe)):=fun w6 q=>⟨hbx.below q,(hbx.below q).put _,st3_below (hB.trans (q.mono (Nat.le_of_lt hbx.lt))) (Nat.le_refl _) _⟩
 unfold nOf at kf2
 simp only[Option.map_none,Option.getD_none,Option.isSome_none] at kf2
 clear h h2 hbx hB hi ho hvo hov t4 hne hgl hcell hfz hl1 hl2 hrow hn hnt hk
 go_enter Tryz.func26,Tryz.ntmps26
 go_upto_region 1 with fail
 rw[←hwb]
 clear hwb
 go_wp2_with fail
 refine ka.mono ?_
 rintro e w2 ⟨rfl,rfl⟩
 clear ka
 go_wp2_with fail
 refine kf2.mono ?_
 rintro e w6 ⟨rfl,hB6⟩
 obtain⟨q1,q2,q3⟩:=HBX.out w6 hB6
 obtain⟨f0,f1,f2⟩:=q1.fz
 obtain⟨b0,b1,b2⟩:=q1.ce
 unfold zDe at b0 b1 b2
 have HF:Hid (Bx3 (st3 w6 w.heap.size zDe) w.heap.size zDe∧Below w.heap.size w (st3 w6 w.heap.size zDe)):=⟨q2,q3⟩
 clear kf2 HBX hB6 q1 q2 q3
 go_wp2_with fail
 refine bodyPost_ret (res2 rfl _ _ w.heap.size 39 _ (0,0) _ rfl HF.out.1 Tryz.underlying39 rfl (by kernel_rfl)) rfl ?_
 exact⟨rfl,HF.out.2⟩
theorem obO_mem {o:Int}{ob:Ob}(h:obO H o=some ob):ob∈H.obs:=by
 obtain⟨i,_,hi⟩:=obO_some h
 exact List.mem_of_getElem? hi
theorem get_full (h:HeapAt w B hb tg H M)(hn:H.neat)(o:Int)(o0:0≤o)(o1:o<18446744073709551616)(k:ByteArray)(hk:k.size≤maxLen) :
  Calls Tryz.prog 26 #[.pointer (some ⟨hb,0,none⟩),.int .u64 o,.string k] w fun e w'=>e = .returned (.tuple #[deV ((getH H o k).getD zDe),.bool (getH H o k).isSome])∧Below w.heap.size w w':=by
 unfold getH
 cases hq:obO H o with
 | none=>exact get_none h o o0 o1 k hq
 | some ob =>
   obtain⟨i,ho,hi⟩:=obO_some hq
   have hnt:=hn ob (obO_mem hq)
   show Calls Tryz.prog 26 #[.pointer (some ⟨hb,0,none⟩),.int .u64 o,.string k] w fun e w'=>e = .returned (.tuple #[deV ((getO ob k).getD zDe),.bool (getO ob k).isSome])∧Below w.heap.size w w'
   unfold getO
   cases hp:plc ob.ps k with
   | none=>exact get_miss h o o0 o1 ho hi hp hnt hk
   | some n =>
     obtain⟨⟨p,hn',hpk⟩,_⟩:=plc_some hp
     have e:(some n).bind (fun n=>(ob.ps[n]?).map Pr.de)=some p.de:=by
      show(ob.ps[n]?).map Pr.de=_
      rw[hn']
      rfl
     rw[e]
     exact get_any h o o0 o1 ho hi hp hn' hnt hk
end
structure So where
 kind:Int
 proto:Int
 shut:Bool
 nm:List ByteArray
 ds:List De
 el:List Int
 inn:List Int
structure QV where
 vn:SV
 vd:SV
 ve:SV
 vi:SV
def QV.none:QV:=⟨.nil,.nil,.nil,.nil⟩
def deC (d:De):List Value:=[.int .u64 d.va,.int .u64 d.se,.int .i64 d.fl]
def soC (x:So×QV):List Value:=[.int .i64 x.1.kind,.int .u64 x.1.proto,.bool x.1.shut,x.2.vn.val,x.2.vd.val,x.2.ve.val,x.2.vi.val]
theorem rtDe:RT deC 68 39 3 24:=⟨fun _=>rfl,Tryz.underlying68,rt_inf (z := .agg #[.int .u64 0,.int .u64 0,.int .i64 0]) (by kernel_rfl) rfl,by decide,fun y u h=>by simp[deC] at h;rcases h with rfl | rfl | rfl <;> rfl⟩
theorem rtSo:RT soC 30 71 7 120:=⟨fun _=>rfl,Tryz.underlying30,rt_inf (z := .agg #[.int .i64 0,.int .u64 0,.bool false,.slice none 0 0,.slice none 0 0,.slice none 0 0,.slice none 0 0]) (by kernel_rfl) rfl,by decide,fun y u h=>by
 simp[soC,SV.val] at h
 rcases h with rfl | rfl | rfl | rfl | rfl | rfl | rfl <;> rfl⟩
def SoP (w:World)(B:Nat)(O:Nat→Prop)(x:So)(q:QV):Nat→Prop
 | 0=>RowIn strC 1 9 B w O q.vn x.nm
 | 1=>RowIn deC 3 39 B w O q.vd x.ds
 | 2=>RowIn wC 1 24 B w O q.ve x.el
 | _=>RowIn wC 1 24 B w O q.vi x.inn
structure StAt (w:World)(B:Nat)(tg:Nat→Nat)(S:List So)(vo:SV)(qs:List QV):Prop where
 row:RowIn soC 7 71 B w (fun b=>tg b=1) vo (S.zip qs)
 ob:∀i x q c,S[i]?=some x→qs[i]?=some q→c<4→SoP w B (fun b=>tg b=2+4*i+c) x q c
 lt:∀b,tg b≠0→B≤b∧b<w.heap.size
 len:qs.length=S.length
 big:S.length≤65536
 same:∀x∈S,x.ds.length=x.nm.length
section
variable {w w' w1:World}{B:Nat}{S':Nat→Prop}{O O':Nat→Prop}{tg:Nat→Nat}{S:List So}{vo:SV}{qs:List QV}
theorem SoP.kept {x:So}{q:QV}{T:Nat→Prop}:∀(c:Nat),SoP w B O x q c→Chg T w w'→(∀b,O b→¬T b)→SoP w' B O x q c
 | 0,h,hc,hs=>RowIn.kept h hc hs
 | 1,h,hc,hs=>RowIn.kept (xs:=x.ds) h hc hs
 | 2,h,hc,hs=>RowIn.kept (xs:=x.el) h hc hs
 | _+3,h,hc,hs=>RowIn.kept (xs:=x.inn) h hc hs
theorem SoP.mono {x:So}{q:QV}:∀(c:Nat),SoP w B O x q c→(∀b,b<w.heap.size→O b→O' b)→SoP w B O' x q c
 | 0,h,hs=>RowIn.mono h hs
 | 1,h,hs=>RowIn.mono (xs:=x.ds) h hs
 | 2,h,hs=>RowIn.mono (xs:=x.el) h hs
 | _+3,h,hs=>RowIn.mono (xs:=x.inn) h hs
theorem StAt.kept {T:Nat→Prop}(h:StAt w B tg S vo qs)(hc:Chg T w w')(hs:∀b,tg b≠0→¬T b):StAt w' B tg S vo qs :=
 ⟨h.row.kept hc (fun b q=>hs b (by omega)),fun i x q c h1 h2 h3=>(h.ob i x q c h1 h2 h3).kept c hc (fun b r=>hs b (by omega)),fun b q=>by have:=h.lt b q;have:=hc.size;omega,h.len,h.big,h.same⟩
theorem StAt.below (h:StAt w B tg S vo qs)(hb:Below w.heap.size w w'):StAt w' B tg S vo qs:=h.kept (T:=fun _=>False) (Chg.of_below hb) (fun _ _ q=>q)
theorem StAt.vol (h:StAt w B tg S vo qs):∃ad cap,vo=⟨ad,S.length,cap⟩∧S.length≤cap∧cap≤maxLen:=by
 have hl:(S.zip qs).length=S.length:=by rw[List.length_zip,h.len];omega
 obtain⟨⟨ad,cap,xs⟩,h1,h2,h3,_⟩:=h.row.1.sl rtSo.len
 simp only at h2
 subst h2
 have h4:=h3.len
 have h5:=h3.cap
 simp only[hl] at h4
 rcases hvo:vo with⟨ad',n',cap'⟩
 rw[hvo] at h1
 unfold SV.val Sli.val at h1
 injection h1 with e1 e2 e3
 simp only at e1 e2 e3 h5
 subst e3
 exact⟨ad',cap',by rw[e2,hl],h4,h5⟩
theorem StAt.obj (h:StAt w B tg S vo qs){i:Nat}{x:So}(hi:S[i]?=some x) :
  ∃g cap q,vo=⟨some ⟨g,0,none⟩,S.length,cap⟩∧qs[i]?=some q∧tg g=1∧g<w.heap.size∧(∀j u,(soC (x,q))[j]?=some u→w.cell? ⟨g,i*7+j,none⟩=some u)∧(∀n,w.frozen? ⟨g,n,none⟩=false)∧S.length≤cap∧cap≤maxLen∧OwnR soC 7 71 B w (.slice (some ⟨g,0,none⟩) S.length cap) (S.zip qs):=by
 obtain⟨ad,cap,hv,h1,h2⟩:=h.vol
 have hil:i<S.length:=(List.getElem?_eq_some_iff.1 hi).1
 have hov:∃q,qs[i]?=some q:=⟨_,List.getElem?_eq_getElem (by rw[h.len];exact hil)⟩
 obtain⟨q,hov⟩:=hov
 have hz:=zip_at hi hov
 have hr:=h.row.1
 have hblk:=h.row.2
 rw[hv] at hr hblk
 unfold SV.val at hr hblk
 simp only at hr hblk
 rcases hr.2 with⟨h5,h6⟩ | ⟨g,cap',cur,h5,h6⟩
 ·rw[List.eq_nil_of_length_eq_zero h6] at hz
  simp at hz
 ·injection h5 with e1 e2 e3
  subst e1 e3
  have t4:tg g=1:=hblk g rfl
  exact⟨g,cap,q,hv,hov,t4,(h.lt g (by omega)).2,fun j u hj=>hr.at' rtSo.len hz hj,fun n=>hr.fz n,h1,h2,hr⟩
def SWent (w:World)(B:Nat)(tg:Nat→Nat)(S:List So)(vo:SV)(w':World):Prop:=∃tg' qs,StAt w' B tg' S vo qs∧Chg (fun b=>tg b≠0) w w'∧∀b,tg' b≠0→tg b≠0∨w.heap.size≤b
theorem SWent.same (h:StAt w B tg S vo qs)(hb:Below w.heap.size w w'):SWent w B tg S vo w':=⟨tg,qs,h.below hb,Chg.of_below hb,fun b q=>Or.inl q⟩
theorem StAt.nil (w:World)(B:Nat):StAt w B (fun _=>0) [] .nil [] :=
 ⟨⟨OwnR.nil _ _,fun b q=>by simp[SV.nil,SV.val,Value.ownBlock] at q⟩,fun i x q c h=>by simp at h,fun b q=>absurd rfl q,rfl,by simp,by simp⟩
end
def st7 (w:World)(g n:Nat)(y:So×QV):World:=((((((w.setCell ⟨g,n,none⟩ (.int .i64 y.1.kind)).setCell ⟨g,n+1,none⟩ (.int .u64 y.1.proto)).setCell ⟨g,n+2,none⟩ (.bool y.1.shut)).setCell ⟨g,n+3,none⟩ y.2.vn.val).setCell ⟨g,n+4,none⟩ y.2.vd.val).setCell ⟨g,n+5,none⟩ y.2.ve.val).setCell ⟨g,n+6,none⟩ y.2.vi.val
theorem own_put7 {B g n cap i:Nat}{w:World}{xs:List (So×QV)}{y:So×QV}(h:OwnR soC 7 71 B w (.slice (some ⟨g,0,none⟩) n cap) xs)(hi:xs[i]?=some y)(y':So×QV) :
  OwnR soC 7 71 B (st7 w g (i*7) y') (.slice (some ⟨g,0,none⟩) n cap) (xs.set i y'):=by
 have hil:i<xs.length:=(List.getElem?_eq_some_iff.1 hi).1
 have s0:=h.put (j:=0) (u := .int .i64 y'.1.kind) (y':=({ y.1 with kind:=y'.1.kind },y.2)) rtSo.len hi (by omega) rfl
 have s1:=s0.put (j:=1) (u := .int .u64 y'.1.proto) (y':=({ y.1 with kind:=y'.1.kind,proto:=y'.1.proto },y.2)) rtSo.len (List.getElem?_set_self hil) (by omega) rfl
 rw[List.set_set] at s1
 have s2:=s1.put (j:=2) (u := .bool y'.1.shut) (y':=({ y.1 with kind:=y'.1.kind,proto:=y'.1.proto,shut:=y'.1.shut },y.2)) rtSo.len (List.getElem?_set_self hil) (by omega) rfl
 rw[List.set_set] at s2
 have s3:=s2.put (j:=3) (u:=y'.2.vn.val) (y':=({ y.1 with kind:=y'.1.kind,proto:=y'.1.proto,shut:=y'.1.shut },{ y.2 with vn:=y'.2.vn })) rtSo.len (List.getElem?_set_self hil) (by omega) rfl
 rw[List.set_set] at s3
 have s4:=s3.put (j:=4) (u:=y'.2.vd.val) (y':=({ y.1 with kind:=y'.1.kind,proto:=y'.1.proto,shut:=y'.1.shut },{ y.2 with vn:=y'.2.vn,vd:=y'.2.vd })) rtSo.len (List.getElem?_set_self hil) (by omega) rfl
 rw[List.set_set] at s4
 have s5:=s4.put (j:=5) (u:=y'.2.ve.val) (y':=({ y.1 with kind:=y'.1.kind,proto:=y'.1.proto,shut:=y'.1.shut },{ y.2 with vn:=y'.2.vn,vd:=y'.2.vd,ve:=y'.2.ve })) rtSo.len (List.getElem?_set_self hil) (by omega) rfl
 rw[List.set_set] at s5
 have s6:=s5.put (j:=6) (u:=y'.2.vi.val) (y':=y') rtSo.len (List.getElem?_set_self hil) (by omega) rfl
 rw[List.set_set] at s6
 exact s6
theorem st7_chg (w:World)(g n:Nat)(y:So×QV):Chg (fun b=>b=g) w (st7 w g n y):=by
 unfold st7
 exact(((((((Chg.refl _ w).trans (Chg.set (S:=fun b=>b=g) _ ⟨g,n,none⟩ _ rfl) (fun _ _ q=>q)).trans (Chg.set (S:=fun b=>b=g) _ ⟨g,n+1,none⟩ _ rfl) (fun _ _ q=>q)).trans (Chg.set (S:=fun b=>b=g) _ ⟨g,n+2,none⟩ _ rfl) (fun _ _ q=>q)).trans (Chg.set (S:=fun b=>b=g) _ ⟨g,n+3,none⟩ _ rfl) (fun _ _ q=>q)).trans (Chg.set (S:=fun b=>b=g) _ ⟨g,n+4,none⟩ _ rfl) (fun _ _ q=>q)).trans (Chg.set (S:=fun b=>b=g) _ ⟨g,n+5,none⟩ _ rfl) (fun _ _ q=>q)).trans (Chg.set (S:=fun b=>b=g) _ ⟨g,n+6,none⟩ _ rfl) (fun _ _ q=>q)
theorem st7_size (w:World)(g n:Nat)(y:So×QV):(st7 w g n y).heap.size=w.heap.size:=by simp[st7]
def ntg (tg N:Nat→Nat)(lo b:Nat):Nat:=if b<lo then tg b else N b
section
variable {w w' w1 w5:World}{B:Nat}{tg:Nat→Nat}{S:List So}{vo:SV}{qs:List QV}
theorem StAt.set' (h:StAt w B tg S vo qs){i g cap:Nat}{x:So}{q:QV}(hi:S[i]?=some x)(hq:qs[i]?=some q)(hvo:vo=⟨some ⟨g,0,none⟩,S.length,cap⟩)
  (hc:Chg (fun b=>∃c,c<4∧tg b=2+4*i+c) w w5) (x':So) (q':QV) (N:Nat→Nat) (hN:∀b,N b≠0→w.heap.size≤b∧b<w5.heap.size∧∃c,c<4∧N b=2+4*i+c)
  (hrows:∀c,c<4→SoP w5 B (fun b=>ntg tg N w.heap.size b=2+4*i+c) x' q' c) (hl:x'.ds.length=x'.nm.length) :
  StAt (st7 w5 g (i*7) (x',q')) B (ntg tg N w.heap.size) (S.set i x') vo (qs.set i q')∧Chg (fun b=>tg b≠0) w (st7 w5 g (i*7) (x',q')):=by
 have hz:=zip_at hi hq
 have hr:=h.row.1
 have hblk:=h.row.2
 rw[hvo] at hr hblk
 unfold SV.val at hr hblk
 simp only at hr hblk
 have t1:tg g=1:=hblk g rfl
 have hg:g<w.heap.size:=(h.lt g (by omega)).2
 have hB:B≤w.heap.size:=by have:=h.lt g (by omega);omega
 have hs:=st7_chg w5 g (i*7) (x',q')
 have hsz:=st7_size w5 g (i*7) (x',q')
 have hcc:Chg (fun b=>tg b≠0) w (st7 w5 g (i*7) (x',q')):=(hc.mono (fun b ⟨c,_,q⟩=>by omega)).trans hs (fun b _ q=>by rw[show b=g from q];omega)
 have hil:i<S.length:=(List.getElem?_eq_some_iff.1 hi).1
 have hil2:i<qs.length:=(List.getElem?_eq_some_iff.1 hq).1
 refine⟨⟨?_,?_,?_,by simp only[List.length_set];exact h.len,by simp only[List.length_set];exact h.big,?_⟩,hcc⟩
 ·rw[zip_set,hvo]
  have hr5:OwnR soC 7 71 B w5 (.slice (some ⟨g,0,none⟩) S.length cap) (S.zip qs):=hr.kept hc (fun b q ⟨c,_,s⟩=>by have:=hblk b q;omega)
  refine⟨own_put7 hr5 hz (x',q'),fun b r => ?_⟩
  have hbg:b=g:=by simpa [SV.val,Value.ownBlock] using r.symm
  show ntg tg N w.heap.size b=1
  unfold ntg
  rw[hbg,if_pos hg]
  exact t1
 ·intro k y p c h1 h2 h3
  by_cases ck:i=k
  ·subst ck
   rw[List.getElem?_set_self hil] at h1
   rw[List.getElem?_set_self hil2] at h2
   cases h1
   cases h2
   refine SoP.kept c (hrows c h3) hs (fun b r e => ?_)
   have r:ntg tg N w.heap.size b=2+4*i+c:=r
   unfold ntg at r
   rw[show b=g from e,if_pos hg] at r
   omega
  ·rw[List.getElem?_set_ne ck] at h1 h2
   have hk:=h.ob k y p c h1 h2 h3
   have k1:SoP w B (fun b=>tg b=2+4*k+c∧b<w.heap.size) y p c:=SoP.mono c hk (fun b hb r=>⟨r,hb⟩)
   have k2:SoP w5 B (fun b=>tg b=2+4*k+c∧b<w.heap.size) y p c:=SoP.kept c k1 hc (fun b r ⟨c',hc',s⟩=>by have:=r.1;omega)
   have k3:SoP (st7 w5 g (i*7) (x',q')) B (fun b=>tg b=2+4*k+c∧b<w.heap.size) y p c:=SoP.kept c k2 hs (fun b r e=>by have:=r.1;rw[show b=g from e] at this;omega)
   refine SoP.mono c k3 (fun b _ r => ?_)
   show ntg tg N w.heap.size b=_
   unfold ntg
   rw[if_pos r.2]
   exact r.1
 ·intro b r
  unfold ntg at r
  rw[hsz]
  by_cases cb:b<w.heap.size
  ·rw[if_pos cb] at r
   have:=h.lt b r
   have:=hc.size
   omega
  ·rw[if_neg cb] at r
   have:=hN b r
   omega
 ·intro y hy
  rcases List.mem_or_eq_of_mem_set hy with r | r
  ·exact h.same y r
  ·rw[r];exact hl
theorem SWent.ntg {N:Nat→Nat}{S':List So}{qs':List QV}(h:StAt w' B (ntg tg N w.heap.size) S' vo qs')(hc:Chg (fun b=>tg b≠0) w w'):SWent w B tg S' vo w':=by
 refine⟨_,qs',h,hc,fun b r => ?_⟩
 unfold Hp.ntg at r
 by_cases cb:b<w.heap.size
 ·rw[if_pos cb] at r
  exact Or.inl r
 ·exact Or.inr (by omega)
end
theorem rtag_obj (i:Int)(w:World)(h0:0≤i)(h1:i<4294967296):Calls Tryz.prog 54 #[.int .u64 (objW i)] w fun e w'=>e = .returned (.tuple #[.int .u64 65530,.int .u32 i])∧w'=w:=by
 have o0:0≤objW i:=by unfold objW;omega
 have o1:objW i<18446744073709551616:=by unfold objW;omega
 have hq:objW i / 65536 / 65536 / 65536=65530:=by unfold objW;omega
 have hm:objW i % 4294967296=i:=by unfold objW;omega
 generalize objW i=o at *
 go_enter Tryz.func54,Tryz.ntmps54
 go_wp2
 go_ret2
 refine⟨?_,rfl⟩
 show Ending.returned (.tuple #[.int .u64 (o / 65536 / 65536 / 65536),.int .u32 i])=_
 rw[hq]
theorem rright_obj (i:Int)(w:World)(h0:0≤i)(h1:i<4294967296):Calls Tryz.prog 55 #[.int .u64 (objW i)] w fun e w'=>e = .returned (.bool true)∧w'=w:=by
 have kt:=rtag_obj i w h0 h1
 have o0:0≤objW i:=by unfold objW;omega
 have o1:objW i<18446744073709551616:=by unfold objW;omega
 have hq:objW i / 4294967296 % 65536=0:=by unfold objW;omega
 generalize objW i=o at *
 go_enter Tryz.func55,Tryz.ntmps55
 go_wp2_with fail
 refine kt.mono ?_
 rintro e w1 ⟨rfl,rfl⟩
 clear kt
 go_wp2
 go_ret
 exact⟨rfl,rfl⟩
theorem isTag_obj (i:Int)(w:World)(h0:0≤i)(h1:i<4294967296):Calls Tryz.prog 20 #[.int .u64 (objW i),.int .u64 65530] w fun e w'=>e = .returned (.tuple #[.int .u32 i,.bool true])∧w'=w:=by
 have kt:=rtag_obj i w h0 h1
 have kr:=rright_obj i w h0 h1
 generalize objW i=o at *
 go_enter Tryz.func20,Tryz.ntmps20
 go_wp2_with fail
 refine kt.mono ?_
 rintro e w1 ⟨rfl,rfl⟩
 clear kt
 go_wp2_with fail
 refine kr.mono ?_
 rintro e w1 ⟨rfl,rfl⟩
 clear kr
 go_wp2
 go_ret2
 exact⟨rfl,rfl⟩
def stV (vo vt:SV):Value := .agg #[vo.val,vt.val]
def BxS (W:World)(b:Nat)(vo vt:SV):Prop:=W.heap[b]?=some (.cells #[vo.val,vt.val] 33 (0,0))
section
variable {w W W' w' w1:World}{B b n:Nat}{tg:Nat→Nat}{S:List So}{vo vt:SV}{qs:List QV}
theorem BxS.new (w:World)(vo vt:SV):BxS (w.alloc (.cells #[vo.val,vt.val] 33)) w.heap.size vo vt:=at_new _ _
theorem BxS.lt (h:BxS W b vo vt):b<W.heap.size:=(Array.getElem?_eq_some_iff.1 h).1
theorem BxS.below (h:BxS W b vo vt)(hB:Below W.heap.size W W'):BxS W' b vo vt:=by
 unfold BxS
 rw[hB.block b h.lt]
 exact h
theorem BxS.kept {T:Nat→Prop}(h:BxS W b vo vt)(hc:Chg T W W')(hn:¬T b):BxS W' b vo vt:=by
 unfold BxS
 rw[hc.block b h.lt hn]
 exact h
theorem BxS.ce (h:BxS W b vo vt):W.cell? ⟨b,0,none⟩=some vo.val∧W.cell? ⟨b,1,none⟩=some vt.val:=⟨cell_of_row W b 0 _ _ (0,0) h,cell_of_row W b 1 _ _ (0,0) h⟩
theorem BxS.fz (h:BxS W b vo vt):W.frozen? ⟨b,0,none⟩=false∧W.frozen? ⟨b,1,none⟩=false:=⟨frozen_of_row W b 0 _ _ h,frozen_of_row W b 1 _ _ h⟩
theorem rat_any (h:StAt w B tg S vo qs)(vt:SV){i:Nat}(hi:i<S.length) :
  Calls Tryz.prog 9 #[stV vo vt,.int .u64 (objW (i:Int))] w fun e w'=>e = .returned (.int .i64 (i:Int))∧Below w.heap.size w w':=by
 obtain⟨ad,cap,hv,h1,h2⟩:=h.vol
 have hbig:=h.big
 have HB:Hid (Below w.heap.size w (w.alloc (.cells #[vo.val,vt.val] 33))):=(Below.refl _ _).alloc (Nat.le_refl _) _
 have kt:=fun W=>isTag_obj (i:Int) W (by omega) (by omega)
 have hii:(i:Int)<(S.length:Int):=by omega
 have hsl:(S.length:Int)≤65536:=by omega
 subst hv
 unfold stV SV.val at *
 simp only at *
 generalize objW (i:Int)=o at *
 clear h
 go_enter Tryz.func9,Tryz.ntmps9
 go_wp2_with fail
 refine(kt _).mono ?_
 rintro e w2 ⟨rfl,rfl⟩
 clear kt
 go_wp2_with fail
 go_ret
 exact⟨rfl,HB.out⟩
theorem rarray_any (h:StAt w B tg S vo qs)(vt:SV){i:Nat}{x:So}(hi:S[i]?=some x) :
  Calls Tryz.prog 12 #[stV vo vt,.int .u64 (objW (i:Int))] w fun e w'=>e = .returned (.bool (x.kind == 1))∧Below w.heap.size w w':=by
 obtain⟨wb,hwb⟩:∃wb,wb=w.alloc (.cells #[vo.val,vt.val] 33):=⟨_,rfl⟩
 have hB:Below w.heap.size w wb:=by rw[hwb];exact(Below.refl _ _).alloc (Nat.le_refl _) _
 have hbx:BxS wb w.heap.size vo vt:=by rw[hwb];exact BxS.new w vo vt
 have hil:i<S.length:=(List.getElem?_eq_some_iff.1 hi).1
 have ka:=rat_any (h.below hB) vt hil
 obtain⟨g,cap,q,hv,hq,t1,hgl,hcell,hfz,hl1,hl2,hrow⟩:=(h.below hB).obj hi
 have hbig:=h.big
 have HN:Hid (∀W,Below wb.heap.size wb W→W.cell? ⟨w.heap.size,0,none⟩=some vo.val∧W.cell? ⟨w.heap.size,1,none⟩=some vt.val∧W.cell? ⟨g,i*7,none⟩=some (.int .i64 x.kind)∧Below w.heap.size w W):=fun W r=>⟨(hbx.below r).ce.1,(hbx.below r).ce.2,cells_below r _ _ (hcell 0 _ rfl),hB.trans (r.mono hB.size)⟩
 have hii:(i:Int)<(S.length:Int):=by omega
 have hsl:(S.length:Int)≤65536:=by omega
 obtain⟨b0,b1⟩:=hbx.ce
 have h0i:(0:Int)≤(i:Int):=by omega
 subst hv
 unfold stV SV.val at *
 simp only at *
 generalize objW (i:Int)=o at *
 generalize x.kind=kd at *
 clear h hB hbx hi hq t1 hgl hcell hfz hrow
 go_enter Tryz.func12,Tryz.ntmps12
 go_upto_region 1 with fail
 rw[←hwb]
 clear hwb
 go_wp2_with fail
 refine ka.mono ?_
 rintro e w2 ⟨rfl,hB2⟩
 obtain⟨b0,b1,c0,hbel⟩:=HN.out w2 hB2
 have HB2:=(show Hid _ from hbel)
 clear ka hB2 HN hbel
 go_wp2_with fail
 go_ret
 exact⟨rfl,HB2.out⟩
theorem ropen_any (h:StAt w B tg S vo qs)(vt:SV){i:Nat}{x:So}(hi:S[i]?=some x) :
  Calls Tryz.prog 65 #[stV vo vt,.int .u64 (objW (i:Int))] w fun e w'=>e = .returned (.bool (!x.shut))∧Below w.heap.size w w':=by
 obtain⟨wb,hwb⟩:∃wb,wb=w.alloc (.cells #[vo.val,vt.val] 33):=⟨_,rfl⟩
 have hB:Below w.heap.size w wb:=by rw[hwb];exact(Below.refl _ _).alloc (Nat.le_refl _) _
 have hbx:BxS wb w.heap.size vo vt:=by rw[hwb];exact BxS.new w vo vt
 have hil:i<S.length:=(List.getElem?_eq_some_iff.1 hi).1
 have ka:=rat_any (h.below hB) vt hil
 obtain⟨g,cap,q,hv,hq,t1,hgl,hcell,hfz,hl1,hl2,hrow⟩:=(h.below hB).obj hi
 have hbig:=h.big
 have HN:Hid (∀W,Below wb.heap.size wb W→W.cell? ⟨w.heap.size,0,none⟩=some vo.val∧W.cell? ⟨w.heap.size,1,none⟩=some vt.val∧W.cell? ⟨g,i*7+2,none⟩=some (.bool x.shut)∧Below w.heap.size w W):=fun W r=>⟨(hbx.below r).ce.1,(hbx.below r).ce.2,cells_below r _ _ (hcell 2 _ rfl),hB.trans (r.mono hB.size)⟩
 have hii:(i:Int)<(S.length:Int):=by omega
 have hsl:(S.length:Int)≤65536:=by omega
 obtain⟨b0,b1⟩:=hbx.ce
 have h0i:(0:Int)≤(i:Int):=by omega
 subst hv
 unfold stV SV.val at *
 simp only at *
 generalize objW (i:Int)=o at *
 generalize x.shut=kd at *
 clear h hB hbx hi hq t1 hgl hcell hfz hrow
 go_enter Tryz.func65,Tryz.ntmps65
 go_upto_region 1 with fail
 rw[←hwb]
 clear hwb
 go_wp2_with fail
 refine ka.mono ?_
 rintro e w2 ⟨rfl,hB2⟩
 obtain⟨b0,b1,c0,hbel⟩:=HN.out w2 hB2
 have HB2:=(show Hid _ from hbel)
 clear ka hB2 HN hbel
 go_wp2_with fail
 go_ret
 exact⟨rfl,HB2.out⟩
end
end Go.Proofs.YtahhionlbfhinabGreatDoor.Hp
