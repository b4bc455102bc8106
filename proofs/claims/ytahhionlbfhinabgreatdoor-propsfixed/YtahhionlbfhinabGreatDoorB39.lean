/- XL, KV, XN, XO, YD2, YE, YF, YG, YH, YK2, XP2 -/
import Derived.Test.YtahhionlbfhinabGreatDoorB38
import Derived.Test.YtahhionlbfhinabGreatDoorRows
import Derived.ProofKit
import Derived.OpenShut
import Derived.LaidMore
import Derived.Lib.LaidTab
import Derived.MakeChecks
import Derived.Lay
import Derived.Test.YtahhionlbfhinabGreatDoorB27
import Derived.Test.YtahhionlbfhinabGreatDoorB36
import Derived.Test.YtahhionlbfhinabGreatDoorB37
set_option linter.unusedVariables false
set_option linter.unusedSimpArgs false
set_option maxRecDepth 100000
set_option maxHeartbeats 40000000
namespace Go.Proofs.YtahhionlbfhinabGreatDoor.Hp
open Go.RowKit
section
variable {w0 w:World}{X:Nat→Prop}{hb:Nat}{H:He}{S:List So}{vo vt:SV}{ts:List ByteArray}{n:Nat}
theorem pstep_any (h:TwoE w0 w X hb H S vo vt ts)(hO:OrP H S ts n)(hT:TbAt w)(hn:n≤1999999999999)(a:OpP)(ha:a.wf) :
  Calls Tryz.prog 13 #[.pointer (some ⟨hb,0,none⟩),stV vo vt,a.val] w fun e w'=>∃vo',e = .returned (.tuple #[stV vo' vt,.bool true])∧TwoK w0 w w' X hb (pH H a) (pS S a) vo' vt ts:=by
 rcases kindsP a.kd with k | k | k | k | k | k | k | k | k
 ·exact pstep_0 h hO hT hn a k ha
 ·exact pstep_1 h hO hT hn a k ha
 ·exact pstep_2 h hO hT hn a k ha
 ·exact pstep_3 h hO hT hn a k ha
 ·exact pstep_4 h hO hT hn a k ha
 ·exact pstep_5 h hO hT hn a k ha
 ·exact pstep_6 h hO hT hn a k ha
 ·exact pstep_8 h hO hT hn a k ha
 ·exact pstep_no h hO hT hn a k ha
end
structure LawP (w wr:World)(X:Nat→Prop)(hb bs:Nat)(H:He)(S:List So)(vo:SV)(n:Nat):Prop where
 two:TwoE w wr X hb H S vo .nil []
 bx:X bs
 box:BxS wr bs vo .nil
 ord:OrP H S [] n
 lo:w.heap.size≤bs
 tb:TbAt w
section
variable {w wr w':World}{X Y:Nat→Prop}{hb bs:Nat}{H:He}{S:List So}{vo:SV}{n:Nat}
theorem LawP.start {w1:World}{O:Nat→Prop}{m:Int}(hT:TbAt w)(h:Heap w1 w.heap.size hb O (He.new m))(hB:Below w.heap.size w w1):LawP w (w1.alloc (.cells #[.slice none 0 0,.slice none 0 0] 33)) (fun b=>b=w1.heap.size) hb w1.heap.size (He.new m) [] .nil 0:=by
 obtain⟨tg,M,h,_⟩:=h
 have hal:Below w1.heap.size w1 (w1.alloc (.cells #[.slice none 0 0,.slice none 0 0] 33)):=(Below.refl _ _).alloc (Nat.le_refl _) _
 refine⟨⟨tg,fun _=>0,M,[],h.below hal,StAt.nil _ _,OwnR.nil _ _,fun b _=>rfl,fun b q=>by simp[SV.nil,SV.val,Value.ownBlock] at q,fun b q=>⟨?_,rfl,fun r=>by simp[SV.nil,SV.val,Value.ownBlock] at r,?_⟩,hB.trans (hal.mono hB.size)⟩,rfl,BxS.new w1 .nil .nil,OrP.start m,hB.size,hT⟩
 ·rw[show b=w1.heap.size from q]
  rcases Nat.eq_zero_or_pos (tg w1.heap.size) with e | e
  ·exact e
  ·have:=(h.lt _ (by omega:tg w1.heap.size≠0)).2
   omega
 ·rw[show b=w1.heap.size from q]
  have:=size_new w1 (.cells #[.slice none 0 0,.slice none 0 0] 33)
  omega
theorem LawP.below (h:LawP w wr X hb bs H S vo n)(hB:Below wr.heap.size wr w'):LawP w w' X hb bs H S vo n :=
 ⟨h.two.below hB,h.bx,h.box.below hB,h.ord,h.lo,h.tb⟩
theorem LawP.more (h:LawP w wr X hb bs H S vo n)(hB:Below wr.heap.size wr w'):LawP w w' (fun b=>X b∨(wr.heap.size≤b∧b<w'.heap.size)) hb bs H S vo n :=
 ⟨h.two.box hB,Or.inl h.bx,h.box.below hB,h.ord,h.lo,h.tb⟩
theorem LawP.less (h:LawP w wr X hb bs H S vo n)(hs:∀b,Y b→X b)(hy:Y bs):LawP w wr Y hb bs H S vo n :=
 ⟨h.two.mono hs,hy,h.box,h.ord,h.lo,h.tb⟩
theorem LawP.new (h:LawP w wr X hb bs H S vo n)(o:Obj):LawP w (wr.alloc o) (fun b=>X b∨b=wr.heap.size) hb bs H S vo n :=
 (h.more ((Below.refl _ _).alloc (Nat.le_refl _) o)).less (fun b q=>q.imp id (fun e=>⟨by omega,by rw[size_new];omega⟩)) (Or.inl h.bx)
theorem LawP.most (h:LawP w wr X hb bs H S vo n):H.most≤256:=h.two.wf.mo
theorem LawP.tbr (h:LawP w wr X hb bs H S vo n):TbAt wr:=h.tb.below h.two.bel
theorem LawP.ne (h:LawP w wr X hb bs H S vo n):¬X wr.heap.size:=fun q=>by have:=h.two.lt q;omega
theorem LawP.step (h:LawP w wr X hb bs H S vo n)(hn:n≤1999999999999)(a:OpP)(ha:a.wf) :
  Calls Tryz.prog 13 #[.pointer (some ⟨hb,0,none⟩),stV vo .nil,a.val] wr fun e w'=>∃vo',e = .returned (.tuple #[stV vo' .nil,.bool true])∧BxS w' bs vo .nil∧LawP w ((w'.setCell ⟨bs,0,none⟩ vo'.val).setCell ⟨bs,1,none⟩ SV.nil.val) X hb bs (pH H a) (pS S a) vo' (n+1)∧∀b,X b→b≠bs→((w'.setCell ⟨bs,0,none⟩ vo'.val).setCell ⟨bs,1,none⟩ SV.nil.val).heap[b]?=wr.heap[b]?:=by
 refine(pstep_any h.two h.ord h.tbr hn a ha).mono ?_
 rintro e w' ⟨vo',rfl,hk⟩
 have hbx:BxS w' bs vo .nil:=(hk.kp bs h.bx).trans h.box
 have z0:=heap_setCell_same _ bs 0 _ _ vo'.val hbx
 have z1:=heap_setCell_same _ bs 1 _ _ SV.nil.val z0
 refine⟨vo',rfl,hbx,⟨(hk.two.set (b:=bs) h.bx h.lo 0 _).set (b:=bs) h.bx h.lo 1 _,h.bx,z1,h.ord.step h.most a,h.lo,h.tb⟩,fun b q r => ?_⟩
 rw[heap_other _ _ _ (show b≠bs from r),heap_other _ _ _ (show b≠bs from r)]
 exact hk.kp b q
end
def opP (a:OpP):List Value:=[.int .i64 a.kd,.int .u64 a.o,.int .u64 a.p,.string a.k,.int .i64 a.u.has,.int .u64 a.u.va,.int .u64 a.u.ge,.int .u64 a.u.se,.int .i64 a.u.fl,.int .u64 a.v,.int .i64 a.n]
end Go.Proofs.YtahhionlbfhinabGreatDoor.Hp
namespace Go.Proofs.YtahhionlbfhinabGreatDoor.Hp
open Go.RowKit Go.ChangeShapes Go.WideShapes
theorem cells_of_pairs {H:Type}{enc:TypeId×Value→H}{W:World}{base:Nat}{sp:Nat→Bool}{held:Bool}{fuel:Nat}{cs:List Value}{p:List MemPlace}
  (h:DataW.trod enc Tryz.prog W base sp held fuel 153 cs=some (Rows.laid_brazier_props_flagPairs,p)):cs=[.int .i64 2,.int .i64 1,.int .i64 4,.int .i64 2,.int .i64 8,.int .i64 4]:=by
 have c1:Tryz.prog.cellsOf 152=2:=by kernel_rfl
 have c2:Tryz.prog.cellsOf 153=6:=by kernel_rfl
 unfold Rows.laid_brazier_props_flagPairs at h
 cases fuel with
 | zero=>simp[DataW.trod] at h
 | succ fuel =>
   simp only[DataW.trod,Tryz.underlying153,c1,c2] at h
   split at h
   ·rename_i hl
    obtain⟨xs,hm,hx⟩:=Option.map_eq_some_iff.1 h
    have hf:xs.map (·.1)=[.agg [.lit (.int .i64 2),.lit (.int .i64 1)],.agg [.lit (.int .i64 4),.lit (.int .i64 2)],.agg [.lit (.int .i64 8),.lit (.int .i64 4)]]:=by simpa using congrArg Prod.fst hx
    have part:∀(i:Nat) (a b:Int),i<3→(xs.map (·.1))[i]?=some (DataW.agg [.lit (.int .i64 a),.lit (.int .i64 b)]:DataW H)→(cs.drop (i*2)).take 2=[.int .i64 a,.int .i64 b]:=fun i a b hi he=>by
     obtain⟨x,hb,hk⟩:=Go.Lib.mapM_at hm i i (by simp[hi])
     rw[List.getElem?_map,hb] at he
     have he:=Option.some.inj he
     obtain⟨x1,x2⟩:=x
     simp only at he
     subst he
     exact Lib.cells_of_tab (zs:=[a,b]) Tryz.underlying152 Tryz.underlying3 (by kernel_rfl) (by kernel_rfl) hk
    have p0:=part 0 2 1 (by omega) (by rw[hf];rfl)
    have p1:=part 1 4 2 (by omega) (by rw[hf];rfl)
    have p2:=part 2 8 4 (by omega) (by rw[hf];rfl)
    match cs,hl,p0,p1,p2 with
    | [a,b,c,d,e,f],_,p0,p1,p2 =>
      simp at p0 p1 p2
      obtain⟨rfl,rfl⟩:=p0
      obtain⟨rfl,rfl⟩:=p1
      obtain⟨rfl,rfl⟩:=p2
      rfl
   ·cases h
theorem fp_of {W : World} (h : laidMetH Tryz.prog [("brazier/props.flagPairs", Rows.laid_brazier_props_flagPairs)] W) : FpAt W := by
 rw[MakeChecks.laidMetH_plain _ _ _ (by kernel_rfl)] at h
 obtain⟨ps,⟨g0,t0,cs0,f0,p0,q0,hg0,ht0,hv0,hd0,_,_⟩,_⟩:=h
 obtain rfl := Option.some.inj ((show Tryz.prog.globalNamed "brazier/props.flagPairs" = some 0 by kernel_rfl).symm.trans hg0)
 obtain rfl:=Option.some.inj ((show(Tryz.prog.globals[0]?).map (·.type)=some 153 by kernel_rfl).symm.trans ht0)
 have e:=cells_of_pairs hd0
 unfold World.var? at hv0
 rw [show Tryz.prog.globalNamed "brazier/props.flagPairs" = some 0 by kernel_rfl] at hv0
 simp only[Option.bind_some] at hv0
 split at hv0
 ·rename_i c t fr hh
  simp at hv0
  subst hv0
  refine⟨t,fr,?_⟩
  rw[hh]
  congr 2
  rw[←e]
 ·simp at hv0
section
variable {H:Type}{enc:TypeId×Value→H}{w:World}{base:Nat}{spare:Nat→Bool}{held:Bool}
theorem open_wsx {n:Nat}{cs:List Value}{x:DataW H×List MemPlace}(h:DataW.trod enc Tryz.prog w base spare held n 26 cs=some x):∃u:Ws,cs=[.int .i64 u.has,.int .u64 u.va,.int .u64 u.ge,.int .u64 u.se,.int .i64 u.fl]∧u.ok∧6≤Rows.uptoBulk x.1:=by
 obtain⟨xs,k,hk,hxy,hlen,hxl,hf⟩:=DataW.trod_struct Tryz.underlying26 h
 rw[show Tryz.prog.cellsOf 26=5 by kernel_rfl] at hlen
 have hxl:xs.length=5:=hxl
 match cs,hlen,xs,hxl with
 | [v0,v1,v2,v3,v4],_,[y0,y1,y2,y3,y4],_ =>
   have g0:DataW.trod enc Tryz.prog w base spare held k 3 [v0]=some y0:=hf 0 _ rfl
   obtain⟨a0,e0,_⟩:=open_int g0
   obtain rfl:v0=_:=by simpa using e0
   have g1:DataW.trod enc Tryz.prog w base spare held k 24 [v1]=some y1:=hf 1 _ rfl
   obtain⟨a1,e1,w1⟩:=open_word g1
   obtain rfl:v1=_:=by simpa using e1
   have g2:DataW.trod enc Tryz.prog w base spare held k 24 [v2]=some y2:=hf 2 _ rfl
   obtain⟨a2,e2,w2⟩:=open_word g2
   obtain rfl:v2=_:=by simpa using e2
   have g3:DataW.trod enc Tryz.prog w base spare held k 24 [v3]=some y3:=hf 3 _ rfl
   obtain⟨a3,e3,w3⟩:=open_word g3
   obtain rfl:v3=_:=by simpa using e3
   have g4:DataW.trod enc Tryz.prog w base spare held k 3 [v4]=some y4:=hf 4 _ rfl
   obtain⟨a4,e4,_⟩:=open_int g4
   obtain rfl:v4=_:=by simpa using e4
   refine⟨⟨a0,a1,a2,a3,a4⟩,rfl,⟨w1,w2⟩,?_⟩
   rw[hxy]
   have b0:=some_bulk y0.1
   have b1:=some_bulk y1.1
   have b2:=some_bulk y2.1
   have b3:=some_bulk y3.1
   have b4:=some_bulk y4.1
   simp only[List.map_cons,List.map_nil,Rows.uptoBulk,Rows.uptoBulkAll]
   omega
theorem open_pop {n:Nat}{cs:List Value}{x:DataW H×List MemPlace}(h:DataW.trod enc Tryz.prog w base spare held n 28 cs=some x):∃a:OpP,cs=opP a∧a.wf∧11≤Rows.uptoBulk x.1:=by
 obtain⟨xs,k,hk,hxy,hlen,hxl,hf⟩:=DataW.trod_struct Tryz.underlying28 h
 rw[show Tryz.prog.cellsOf 28=11 by kernel_rfl] at hlen
 have hxl:xs.length=7:=hxl
 match cs,hlen,xs,hxl with
 | [v0,v1,v2,v3,v4,v5,v6,v7,v8,v9,v10],_,[y0,y1,y2,y3,y4,y5,y6],_ =>
   have g0:DataW.trod enc Tryz.prog w base spare held k 3 [v0]=some y0:=hf 0 _ rfl
   obtain⟨a0,e0,_⟩:=open_int g0
   obtain rfl:v0=_:=by simpa using e0
   have g1:DataW.trod enc Tryz.prog w base spare held k 24 [v1]=some y1:=hf 1 _ rfl
   obtain⟨a1,e1,w1⟩:=open_word g1
   obtain rfl:v1=_:=by simpa using e1
   have g2:DataW.trod enc Tryz.prog w base spare held k 24 [v2]=some y2:=hf 2 _ rfl
   obtain⟨a2,e2,w2⟩:=open_word g2
   obtain rfl:v2=_:=by simpa using e2
   have g3:DataW.trod enc Tryz.prog w base spare held k 9 [v3]=some y3:=hf 3 _ rfl
   obtain⟨a3,e3,w3⟩:=open_str g3
   obtain rfl:v3=_:=by simpa using e3
   have g4:DataW.trod enc Tryz.prog w base spare held k 26 [v4,v5,v6,v7,v8]=some y4:=hf 4 _ rfl
   obtain⟨u,e4,hu,b4⟩:=open_wsx g4
   obtain⟨rfl,rfl,rfl,rfl,rfl⟩:v4 = .int .i64 u.has∧v5 = .int .u64 u.va∧v6 = .int .u64 u.ge∧v7 = .int .u64 u.se∧v8 = .int .i64 u.fl:=by simpa using e4
   have g5:DataW.trod enc Tryz.prog w base spare held k 24 [v9]=some y5:=hf 5 _ rfl
   obtain⟨a5,e5,w5⟩:=open_word g5
   obtain rfl:v9=_:=by simpa using e5
   have g6:DataW.trod enc Tryz.prog w base spare held k 3 [v10]=some y6:=hf 6 _ rfl
   obtain⟨a6,e6,_⟩:=open_int g6
   obtain rfl:v10=_:=by simpa using e6
   refine⟨⟨a0,a1,a2,a3,u,a5,a6⟩,rfl,⟨w1.1,w1.2,w2.1,w2.2,w3,hu,w5⟩,?_⟩
   rw[hxy]
   have b0:=some_bulk y0.1
   have b1:=some_bulk y1.1
   have b2:=some_bulk y2.1
   have b3:=some_bulk y3.1
   have b5:=some_bulk y5.1
   have b6:=some_bulk y6.1
   simp only[List.map_cons,List.map_nil,Rows.uptoBulk,Rows.uptoBulkAll]
   omega
end
theorem gPow : Tryz.prog.globalNamed "internal/strconv.uint64pow10" = some 2 := by kernel_rfl
theorem gPowT:(Tryz.prog.globals[2]?).map (·.type)=some 198:=by kernel_rfl
theorem cPow:Tryz.prog.cellsOf 198=20:=by kernel_rfl
theorem cU64:Tryz.prog.cellsOf 23=1:=by kernel_rfl
theorem laid_tail {P:Program}{x:String×DataW Unit}{l:List (String×DataW Unit)}{w:World}(h:laidMet P (x :: l) w):laidMet P l w:=by
 obtain⟨ps,⟨g,t,cs,fuel,p,q,h1,h2,h3,h4,h5,rfl⟩,hn,hc⟩:=h
 exact⟨q,h5,(List.nodup_append.1 hn).2.1,fun b off hb=>hc b off (List.mem_append_right _ hb)⟩
theorem tb_of {W : World} (h : laidMetH Tryz.prog [("math/bits.deBruijn32tab", Rows.laid_math_bits_deBruijn32tab), ("math/bits.deBruijn64tab", Rows.laid_math_bits_deBruijn64tab), ("internal/strconv.uint64pow10", Rows.laid_internal_strconv_uint64pow10), ("brazier/props.flagPairs", Rows.laid_brazier_props_flagPairs)] W) : TbAt W := by
 rw[MakeChecks.laidMetH_plain _ _ _ (by kernel_rfl)] at h
 have h3:=laid_tail (laid_tail h)
 have h4:=laid_tail h3
 refine⟨fp_of ?_,?_⟩
 ·rw[MakeChecks.laidMetH_plain _ _ _ (by kernel_rfl)]
  exact h4
 ·exact Lib.tabIs_of_head (rest:=_) gPow gPowT Tryz.underlying198 Tryz.underlying23 cU64 cPow h3
end Go.Proofs.YtahhionlbfhinabGreatDoor.Hp
namespace Go.Proofs.YtahhionlbfhinabGreatDoor.Hp
open Go.RowKit
section
variable {w wr w':World}{X Y:Nat→Prop}{hb bs:Nat}{H:He}{S:List So}{vo:SV}{n:Nat}
theorem rat_b (h:LawP w wr X hb bs H S vo n)(o:Int)(o0:0≤o)(o1:o<18446744073709551616) :
  Calls Tryz.prog 9 #[stV vo .nil,.int .u64 o] wr fun e w'=>e = .returned (.int .i64 (atI S o))∧Below wr.heap.size wr w':=by
 obtain⟨tgH,tgS,M,qs,h⟩:=h.two
 exact rat_o h.st .nil o o0 o1
theorem rarray_b (h:LawP w wr X hb bs H S vo n)(o:Int)(o0:0≤o)(o1:o<18446744073709551616) :
  Calls Tryz.prog 12 #[stV vo .nil,.int .u64 o] wr fun e w'=>e = .returned (.bool (((soO S o).map (fun x=>x.kind == 1)).getD false))∧Below wr.heap.size wr w':=by
 obtain⟨tgH,tgS,M,qs,h⟩:=h.two
 exact rarray_o h.st .nil o o0 o1
theorem rproto_b (h:LawP w wr X hb bs H S vo n)(o:Int)(o0:0≤o)(o1:o<18446744073709551616) :
  Calls Tryz.prog 76 #[stV vo .nil,.int .u64 o] wr fun e w'=>e = .returned (.int .u64 (((soO S o).map So.proto).getD 18445336698825998337))∧Below wr.heap.size wr w':=by
 obtain⟨tgH,tgS,M,qs,h⟩:=h.two
 exact rproto_o h.st .nil o o0 o1
theorem ropen_b (h:LawP w wr X hb bs H S vo n)(o:Int)(o0:0≤o)(o1:o<18446744073709551616) :
  Calls Tryz.prog 65 #[stV vo .nil,.int .u64 o] wr fun e w'=>e = .returned (.bool (((soO S o).map (fun x => !x.shut)).getD false))∧Below wr.heap.size wr w':=by
 obtain⟨tgH,tgS,M,qs,h⟩:=h.two
 exact ropen_o h.st .nil o o0 o1
theorem popen_b (h:LawP w wr X hb bs H S vo n)(o:Int)(o0:0≤o)(o1:o<18446744073709551616) :
  Calls Tryz.prog 60 #[.pointer (some ⟨hb,0,none⟩),.int .u64 o] wr fun e w'=>e = .returned (.bool (((obO H o).map (fun x => !x.shut)).getD false))∧w'=wr:=by
 obtain⟨tgH,tgS,M,qs,h⟩:=h.two
 exact open_any h.hp o o0 o1
theorem pown_b (h:LawP w wr X hb bs H S vo n)(o:Int)(o0:0≤o)(o1:o<18446744073709551616)(k:ByteArray)(hk:k.size≤maxLen) :
  Calls Tryz.prog 10 #[.pointer (some ⟨hb,0,none⟩),.int .u64 o,.string k] wr fun e w'=>e = .returned (.tuple #[deV ((ownH H o k).getD zDe),.bool (ownH H o k).isSome])∧Below wr.heap.size wr w':=pown_e h.two h.ord o o0 o1 k hk
theorem rown_b (h:LawP w wr X hb bs H S vo n)(o:Int)(o0:0≤o)(o1:o<18446744073709551616)(k:ByteArray)(hk:k.size≤maxLen) :
  Calls Tryz.prog 36 #[stV vo .nil,.int .u64 o,.string k] wr fun e w'=>e = .returned (.tuple #[deV ((ownH H o k).getD zDe),.bool (ownH H o k).isSome])∧Below wr.heap.size wr w':=by
 rw[h.ord.own]
 exact rown_e h.two h.ord h.two.wf o o0 o1 k hk
theorem OrP.up (h:OrP H S [] n)(o:Int):upH H o=((soO S o).map So.proto).getD 18445336698825998337:=by
 unfold upH
 rcases h.rel.oo o with⟨e1,e2⟩ | ⟨ob,x,e1,e2,e3⟩
 ·rw[e1,e2];rfl
 ·rw[e1,e2]
  simp only[Option.map_some,Option.getD_some]
  exact e3.pr
theorem OrP.op (h:OrP H S [] n)(o:Int):((obO H o).map (fun x => !x.shut)).getD false=((soO S o).map (fun x => !x.shut)).getD false:=by
 rcases h.rel.oo o with⟨e1,e2⟩ | ⟨ob,x,e1,e2,e3⟩
 ·rw[e1,e2];rfl
 ·rw[e1,e2]
  simp only[Option.map_some,Option.getD_some]
  rw[e3.sh]
theorem atI_none {o:Int}(h:soO S o=none)(o0:0≤o)(o1:o<18446744073709551616):atI S o = -1:=by
 unfold atI
 rw[soO_none h o0 o1]
theorem atI_some {o:Int}{x:So}(h:soO S o=some x):0≤atI S o:=by
 unfold atI
 cases e:obS S o with
 | none=>unfold soO at h;rw[e] at h;cases h
 | some i=>show(0:Int)≤(i:Int);omega
end
section
variable {H H':He}{S:List So}{ts:List ByteArray}{o:Int}{k:ByteArray}{i:Nat}{ob:Ob}{x:So}{d:De}{n:Nat}
end
section
variable {H H':He}{S:List So}{ts:List ByteArray}{o:Int}{k k2:ByteArray}{i:Nat}{ob:Ob}{x:So}{d:De}{n:Nat}
end
section
variable {H H':He}{S S':List So}{ts:List ByteArray}{o:Int}{k k2:ByteArray}{i:Nat}{ob:Ob}{x:So}{d:De}{n:Nat}
end
section
variable {H H':He}{S S':List So}{ts:List ByteArray}{o:Int}{k k2:ByteArray}{i:Nat}{ob:Ob}{x:So}{d:De}{n:Nat}
end
section
variable {H H':He}{S S':List So}{ts:List ByteArray}{o o2:Int}{k k2:ByteArray}{i:Nat}{ob:Ob}{x y:So}{d:De}{n:Nat}
end
section
variable {H H':He}{S S':List So}{ts:List ByteArray}{o o2:Int}{k k2:ByteArray}{i:Nat}{ob:Ob}{x y:So}{d:De}{n:Nat}
end
section
variable {H:He}{S:List So}{ts:List ByteArray}{o:Int}{k:ByteArray}{i:Nat}{ob:Ob}{x:So}{d:De}{n:Nat}
end
end Go.Proofs.YtahhionlbfhinabGreatDoor.Hp
