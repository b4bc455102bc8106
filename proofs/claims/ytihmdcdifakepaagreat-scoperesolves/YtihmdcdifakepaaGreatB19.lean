/- MG, MH, MI -/
import Derived.Test.YtihmdcdifakepaaGreatB18
set_option linter.unusedVariables false
set_option linter.unusedSimpArgs false
set_option maxRecDepth 100000
set_option maxHeartbeats 40000000
namespace Go.Proofs.YtihmdcdifakepaaGreat.Rv
open Go.RowKit Go.Shelf Go.Proofs.YtihmdcdifakepaaGreat.Sc Go.Proofs.YtihmdcdifakepaaGreat.Rz
attribute [local go_sem] Oper.semAt_some
def bkAt (bs:List Blk)(i:Nat):Blk:=(bs.reverse[i]?).getD []
theorem findP_none (nm:ByteArray):∀bs:List Blk,(∀b∈bs,fnd nm b=none)→findP nm bs=none
 | [],_=>rfl
 | b :: bs,h=>by
   have h1:=h b (List.mem_cons_self ..)
   unfold fnd at h1
   rw[findP,h1]
   exact findP_none nm bs (fun x hx=>h x (List.mem_cons_of_mem _ hx))
theorem findP_at (nm:ByteArray)(e:ByteArray×Nat):∀(ps:List Blk)(b:Blk)(cs:List Blk),(∀a∈ps,fnd nm a=none)→fnd nm b=some e→findP nm (ps++b :: cs)=some e.2
 | [],b,cs,_,h=>by
   unfold fnd at h
   rw[List.nil_append,findP,h]
 | a :: ps,b,cs,h,hb=>by
   have h1:=h a (List.mem_cons_self ..)
   unfold fnd at h1
   rw[List.cons_append,findP,h1]
   exact findP_at nm e ps b cs (fun x hx=>h x (List.mem_cons_of_mem _ hx)) hb
theorem bkAt_is (bs:List Blk)(i:Nat)(h:i<bs.length):bkAt bs i=bs[bs.length - 1 - i]'(by omega):=by
 unfold bkAt
 rw[List.getElem?_reverse h,List.getElem?_eq_getElem (by omega)]
 rfl
theorem mem_revT {k m:Nat}(x:Fin k):x∈revT k m↔m≤x.val:=by
 unfold revT
 rw[List.mem_reverse,List.mem_iff_getElem?]
 constructor
 ·rintro⟨i,hi⟩
  rw[List.getElem?_drop] at hi
  obtain⟨h1,h2⟩:=List.getElem?_eq_some_iff.1 hi
  rw[List.getElem_finRange] at h2
  rw[←h2]
  simp
 ·intro h
  refine⟨x.val - m,?_⟩
  rw[List.getElem?_drop,List.getElem?_eq_some_iff]
  exact⟨by simp;omega,by rw[List.getElem_finRange];ext;simp;omega⟩
theorem find_none_all {nm:ByteArray}{bs:List Blk}{k:Nat}(hk:k=bs.length)(h:∀x∈revT k 0,fnd nm (bkAt bs x.val)=none):findP nm bs=none:=by
 subst hk
 refine findP_none nm bs (fun b hb => ?_)
 obtain⟨i,hi,rfl⟩:=List.mem_iff_getElem.1 hb
 have:=h ⟨bs.length - 1 - i,by omega⟩ ((mem_revT _).2 (Nat.zero_le _))
 rw[bkAt_is _ _ (by omega)] at this
 simp only at this
 have e:bs.length - 1 - (bs.length - 1 - i)=i:=by omega
 simp only[e] at this
 exact this
theorem find_some_at {nm:ByteArray}{bs:List Blk}{k:Nat}(hk:k=bs.length){m:Nat}(hm:m<k){e:ByteArray×Nat}(h:∀x∈revT k (m+1),fnd nm (bkAt bs x.val)=none)(he:fnd nm (bkAt bs m)=some e):findP nm bs=some e.2:=by
 subst hk
 have hp:bs.length - 1 - m<bs.length:=by omega
 have hs:bs=bs.take (bs.length - 1 - m)++bs[bs.length - 1 - m] :: bs.drop (bs.length - 1 - m+1):=by
  rw[←List.drop_eq_getElem_cons hp,List.take_append_drop]
 rw[bkAt_is _ _ hm] at he
 rw[hs]
 refine findP_at nm e _ _ _ (fun a ha => ?_) he
 obtain⟨i,hi,rfl⟩:=List.mem_iff_getElem.1 ha
 rw[List.length_take] at hi
 have:=h ⟨bs.length - 1 - i,by omega⟩ ((mem_revT _).2 (by simp only;omega))
 rw[bkAt_is _ _ (by omega)] at this
 simp only at this
 have e:bs.length - 1 - (bs.length - 1 - i)=i:=by omega
 simp only[e] at this
 rw[List.getElem_take]
 exact this
def placeI (nm:ByteArray)(s:Rz.RS):Int:=((findP nm s.blocks).map (fun i=>(i:Int))).getD (-1)
def foundB (nm:ByteArray)(s:Rz.RS):Bool:=(findP nm s.blocks).isSome || decide (0≤idxI nm)
theorem find_any (w:World)(B rb:Nat)(O:Nat→Prop)(s:Rz.RS)(v6:Value)(h:Mem w B rb O s v6)(nm:ByteArray)(hs:nm.size≤maxLen) :
  Calls Tryz.prog 92 #[.pointer (some ⟨rb,0,none⟩),.string nm] w fun e w'=>e = .returned (.tuple #[.int .i64 (placeI nm s),.bool (foundB nm s)])∧Below w.heap.size w w':=by
 obtain⟨tg,v0,v1,v2,v3,ms,h,hO⟩:=h
 refine(callsIn_wide (n:=5)).1 ?_
 obtain⟨ad,cap,rfl,l1,l2,hg⟩:=own_slice h.r3
 have hml:ms.length=s.blocks.length:=h.ml
 have hr:w.cell? ⟨rb,3,none⟩=some (.slice ad ms.length cap):=h.c.2.2.2.1
 obtain⟨b,hadb,hbl,hbc⟩:∃b,(ms≠[]→ad=some ⟨b,0,none⟩)∧(ms≠[]→b<w.heap.size)∧(∀(i:Nat) (m:Option Nat),ms[i]?=some m→w.cell? ⟨b,i,none⟩=some (.map m)):=by
  by_cases c:ms=[]
  ·subst c
   exact⟨0,fun q=>absurd rfl q,fun q=>absurd rfl q,fun i m q=>by simp at q⟩
  ·obtain⟨g,rfl⟩:=hg c
   obtain⟨_,_,r3,_,_,r6,_⟩:=h.r3.read rtMp.len
   refine⟨g,fun _=>rfl,fun _=>r3,fun i m q => ?_⟩
   have:=r6 i m q 0 _ rfl
   rw[Nat.mul_one,Nat.add_zero] at this
   exact this
 have hlook:∀(x:Fin ms.length) W,Below w.heap.size w W→(Instr.lookup 124 (.map (ms[x.val]'x.isLt)) (.string nm) true).run Tryz.prog W = .ok (lookV nm (bkAt s.blocks x.val)) W:=fun x W hW=>by
  have hx:x.val<s.blocks.reverse.length:=by rw[List.length_reverse,←hml];exact x.isLt
  have hb1:=List.getElem?_eq_getElem hx
  have hm1:=h.mp x.val _ _ (List.getElem?_eq_getElem x.isLt) hb1
  have hbk:bkAt s.blocks x.val=s.blocks.reverse[x.val]:=by unfold bkAt;rw[hb1];rfl
  rw[hbk]
  refine(hm1.kept (fun mb e => ?_)).look (h.gd.wf _ (List.mem_reverse.1 (List.getElem_mem hx))) hs
  exact hW.block mb (h.tm x.val mb (by rw[List.getElem?_eq_getElem x.isLt,e])).2.2
 have h1:1≤5:=by omega
 have hB3:Below w.heap.size w (((w.alloc (.cells #[.string nm] 9)).alloc (.cells #[.int .i64 0] 3)).alloc (.cells #[.bool false] 4)):=(((Below.refl w.heap.size w).alloc (Nat.le_refl _) _).alloc (by simp) _).alloc (by simp;omega) _
 have hq:=Sc.cells_below hB3 _ _ hr
 refine callsIn_of_wp_marks Tryz.func92 rfl trivial ?_ rfl
 simp only[Tryz.ntmps92,List.size_toArray,List.length_cons,List.length_nil,Nat.reduceAdd,Nat.reduceSub,Array.replicate_succ,Array.replicate_zero,List.push_toArray,List.append_toArray,List.nil_append,List.cons_append]
 have HOK:Hid (MemAt w B rb tg s v0 v1 v2 (.slice ad ms.length cap) v6 ms):=h
 have HLK:=(show Hid _ from hlook)
 have HAD:=(show Hid _ from hadb)
 have HBL:=(show Hid _ from hbl)
 have HBC:=(show Hid _ from hbc)
 have HML:=(show Hid _ from hml)
 have HL12:Hid (ms.length≤cap∧cap≤maxLen):=⟨l1,l2⟩
 clear h hlook hadb hbl hbc hml l1 l2 hg
 gi_wp2_with (refine⟨trivial,?_⟩;gi_at_call 98;refine(back_in Fence.wide 4 trivial rfl _ _ _ _).mono ?_;rintro e w' ⟨rfl,rfl⟩)
 have bS:=Boxed.new w 9 (.string nm)
 have bR:=Boxed.new (w.alloc (.cells #[.string nm] 9)) 3 (.int .i64 0)
 have bO:=Boxed.new ((w.alloc (.cells #[.string nm] 9)).alloc (.cells #[.int .i64 0] 3)) 4 (.bool false)
 have bN:=Boxed.new (((w.alloc (.cells #[.string nm] 9)).alloc (.cells #[.int .i64 0] 3)).alloc (.cells #[.bool false] 4)) 40 (.slice ad ms.length cap)
 rw[World.size_alloc] at bR
 rw[World.size_alloc,World.size_alloc] at bO
 rw[World.size_alloc,World.size_alloc,World.size_alloc] at bN
 have hB0:Below w.heap.size w ((((w.alloc (.cells #[.string nm] 9)).alloc (.cells #[.int .i64 0] 3)).alloc (.cells #[.bool false] 4)).alloc (.cells #[.slice ad ms.length cap] 40)):=hB3.alloc (by simp;omega) _
 have hbI:∀(i:Nat) (m:Option Nat),ms[i]?=some m→((((w.alloc (.cells #[.string nm] 9)).alloc (.cells #[.int .i64 0] 3)).alloc (.cells #[.bool false] 4)).alloc (.cells #[.slice ad ms.length cap] 40)).cell? ⟨b,i,none⟩=some (.map m):=fun i m q=>Sc.cells_below hB0 _ _ (HBC.out i m q)
 refine wpIn_rangeFunc_ownG rfl h1 (gf:=103) (lb:=#[.pointer (some ⟨w.heap.size+1+1+1,0,none⟩)]) rfl trivial (enters_of Tryz.func103 (by kernel_rfl) rfl)
  (encs:=encB (ms:=ms)) (Kp:=Below (w.heap.size+1+1+1+1)) (S:=fun xs=>xs=revT ms.length 0) (Sp:=fun pre=>∃m,m<ms.length∧pre=revT ms.length m) (N:=ms.length)
  (w0:=((((w.alloc (.cells #[.string nm] 9)).alloc (.cells #[.int .i64 0] 3)).alloc (.cells #[.bool false] 4)).alloc (.cells #[.slice ad ms.length cap] 40)))
  (fun l J Jx W hW _ _ hY h0 => ?seq) belowK_t (belowK_b (by simp)) (Below.refl _ _) (fun _=>rfl)
  (fun pre W=>(((W.cell? ⟨w.heap.size,0,none⟩=some (.string nm)∧W.cell? ⟨w.heap.size+1,0,none⟩=some (.int .i64 0)∧W.frozen? ⟨w.heap.size+1,0,none⟩=false∧W.cell? ⟨w.heap.size+1+1,0,none⟩=some (.bool false)∧W.frozen? ⟨w.heap.size+1+1,0,none⟩=false))∧Below w.heap.size w W)∧∀x∈pre,fnd nm (bkAt s.blocks x.val)=none)
  (fun c pre W=>((c = .ret∧∃(pre':List (Fin ms.length)) (x:Fin ms.length) (e:ByteArray×Nat),pre=pre'++[x]∧(∀y∈pre',fnd nm (bkAt s.blocks y.val)=none)∧fnd nm (bkAt s.blocks x.val)=some e∧W.cell? ⟨w.heap.size+1,0,none⟩=some (.int .i64 (e.2:Int))∧W.cell? ⟨w.heap.size+1+1,0,none⟩=some (.bool true))∧Below w.heap.size w W))
  (OwnFrom.and (OwnFrom.and (Own.from (fun s A B row hs hg hr=>⟨cell_kept hs.1 hg hr,cell_kept hs.2.1 hg hr,(frozen_kept hs.2.1 hg hr).trans hs.2.2.1,cell_kept hs.2.2.2.1 hg hr,(frozen_kept hs.2.2.2.1 hg hr).trans hs.2.2.2.2⟩) _) (ownFrom_below (Nat.le_refl _) (by simp;omega))) (fun s A B row hs hg hr=>hs))
  (fun c=>OwnFrom.and (Own.from (fun s A B row hs hg hr=>by
   obtain⟨q1,pre',x,e,q2,q3,q4,q5,q6⟩:=hs
   exact⟨q1,pre',x,e,q2,q3,q4,cell_kept q5 hg hr,cell_kept q6 hg hr⟩) _) (ownFrom_below (Nat.le_refl _) (by simp;omega)))
  ⟨⟨⟨(((bS.alloc _).alloc _).alloc _).cell,((bR.alloc _).alloc _).cell,((bR.alloc _).alloc _).frozen,(bO.alloc _).cell,(bO.alloc _).frozen⟩,hB0⟩,fun x hx=>by cases hx⟩
  (fun x=>{ tmps:=#[.pointer (some ⟨rb,0,none⟩),.string nm,undef,.pointer (some ⟨w.heap.size,0,none⟩),.pointer (some ⟨w.heap.size+1,0,none⟩),.pointer (some ⟨w.heap.size+1+1,0,none⟩),undef,.map (ms[x.val]'x.isLt),undef,undef,undef,undef,.pointer (some ⟨rb,0,none⟩),.pointer (some ⟨rb,0,none⟩),.pointer (some ⟨rb,3,none⟩),.slice ad ms.length cap,.func (.func 103) #[] #[.pointer (some ⟨w.heap.size+1+1+1,0,none⟩)],.int .i64 ((x.val:Nat):Int),.map (ms[x.val]'x.isLt),undef,undef,undef,undef,undef,undef,undef,undef,undef,undef,undef,undef,undef,undef],defers:=[] }) ?assign ?body ?done ?stop
 case seq =>
  have hc':=(hW.cell (p:=⟨w.heap.size+1+1+1,0,none⟩) (by simp)).trans bN.cell
  refine(backn_in Fence.wide 4 trivial rfl (by omega) l (w.heap.size+1+1+1) (w.heap.size+1+1+1+1) b cap ms (fun q=>by have:=HBL.out q;omega) (by omega) HL12.out J Jx hY ad W hc' HAD.out (fun i m q=>(hW.cell (p:=⟨b,i,none⟩) (by have:=HBL.out (fun e=>by rw[e] at q;simp at q);simp;omega)).trans (hbI i m q)) h0).mono ?_
  rintro e W' ⟨he,hh⟩
  exact⟨he,hh⟩
 case assign =>
  intro l x W K hK
  unfold encB
  gi_wp2
  exact hK
 case body =>
  rintro l pre x W ⟨⟨⟨h3,h4,h5,h6,h7⟩,hB⟩,hpre⟩ _
  have hl:=HLK.out x W hB
  unfold lookV at hl
  cases hf:fnd nm (bkAt s.blocks x.val) with
  | none =>
    rw[hf] at hl
    simp only[Option.map_none,Option.getD_none,Option.isSome_none] at hl
    have HX:Hid ((∀y∈pre++[x],fnd nm (bkAt s.blocks y.val)=none)∧Below w.heap.size w W):=⟨fun y hy=>by
     rcases List.mem_append.1 hy with q | q
     ·exact hpre y q
     ·rw[List.mem_singleton.1 q];exact hf,hB⟩
    clear hpre hf hB
    gi_wp2
    exact⟨KeepsFrom.refl _ _,Below.refl _ _,⟨⟨h3,h4,h5,h6,h7⟩,HX.out.2⟩,HX.out.1⟩
  | some e =>
    rw[hf] at hl
    simp only[Option.map_some,Option.getD_some,Option.isSome_some] at hl
    have HX:Hid ((∀y∈pre,fnd nm (bkAt s.blocks y.val)=none)∧fnd nm (bkAt s.blocks x.val)=some e∧Below w.heap.size w W):=⟨hpre,hf,hB⟩
    clear hpre hf hB
    gi_wp2
    refine⟨((KeepsOthers.setCell _ _ _).trans (KeepsOthers.setCell _ _ _)).from _,⟨rfl,pre,x,e,rfl,HX.out.1,HX.out.2.1,?_,?_⟩,?_⟩
    ·rw[World.cell?_setCell_other]
     ·exact World.cell?_setCell_same' _ _ _ (by rw[h4];rfl)
     ·simp
    ·refine World.cell?_setCell_same' _ _ _ ?_
     rw[World.cell?_setCell_other]
     ·rw[h6];rfl
     ·simp
    ·exact(HX.out.2.2.setCell (p:=⟨w.heap.size+1,0,none⟩) (by simp) _).setCell (p:=⟨w.heap.size+1+1,0,none⟩) (by simp;omega) _
 case done =>
  rintro D xs W hD rfl ⟨⟨⟨h3,h4,h5,h6,h7⟩,hB⟩,hno⟩ hK
  have hfn:findP nm s.blocks=none:=find_none_all HML.out hno
  have e1:placeI nm s = -1:=by unfold placeI;rw[hfn];rfl
  have e2:foundB nm s=decide (0≤idxI nm):=by unfold foundB;rw[hfn];rfl
  have EE:Hid (placeI nm s = -1∧foundB nm s=decide (0≤idxI nm)):=⟨e1,e2⟩
  clear hno hfn e1 e2
  have hsz:w.heap.size+1+1+1+1≤D:=by simpa using hD
  have hDW:D<W.heap.size:=by
   rcases Nat.lt_or_ge D W.heap.size with h | h
   ·exact h
   ·rw[Array.getElem?_eq_none h] at hK;cases hK
  gi_wp2_with (refine⟨trivial,?_⟩;gi_at_call 99;refine(callsIn_wide.2 (builtin_any _ _)).mono ?_;rintro e w' ⟨rfl,hB1⟩;have k4:=Sc.cells_below hB1 _ _ h4;have k6:=Sc.cells_below hB1 _ _ h6;have k5:=(hB1.frozen (p:=⟨w.heap.size+1,0,none⟩) (by simp;omega)).trans h5;have k7:=(hB1.frozen (p:=⟨w.heap.size+1+1,0,none⟩) (by simp;omega)).trans h7)
  have hK1:w'.heap[D]?=some (Obj.deferred (some [])):=(hB1.block D hDW).trans hK
  have hBw:Below w.heap.size w w':=hB.trans (hB1.mono hB.size)
  have hK2:=(KeepsOthers.setCell w' ⟨w.heap.size+1,0,none⟩ (.int .i64 (-1))).same D _ hK1 rfl
  have hK':=(KeepsOthers.setCell _ ⟨w.heap.size+1+1,0,none⟩ (.bool (decide (0≤idxI nm)))).same D _ hK2 rfl
  refine⟨by simp,.inl ⟨_,_,rfl,run_takeDeferred hK',?_⟩⟩
  have c1:(((w'.setCell ⟨w.heap.size+1,0,none⟩ (.int .i64 (-1))).setCell ⟨w.heap.size+1+1,0,none⟩ (.bool (decide (0≤idxI nm))))).cell? ⟨w.heap.size+1,0,none⟩=some (.int .i64 (-1)):=by
   rw[World.cell?_setCell_other]
   ·exact World.cell?_setCell_same' _ _ _ (by rw[k4];rfl)
   ·simp
  have c2:(((w'.setCell ⟨w.heap.size+1,0,none⟩ (.int .i64 (-1))).setCell ⟨w.heap.size+1+1,0,none⟩ (.bool (decide (0≤idxI nm))))).cell? ⟨w.heap.size+1+1,0,none⟩=some (.bool (decide (0≤idxI nm))):=by
   refine World.cell?_setCell_same' _ _ _ ?_
   rw[World.cell?_setCell_other]
   ·rw[k6];rfl
   ·simp
  have hc5:=cell_kept c1 (grownBy_putObj' _ D (.deferred none)) (fun r e=>by cases e;exact⟨_,hK',rfl⟩)
  have hc6:=cell_kept c2 (grownBy_putObj' _ D (.deferred none)) (fun r e=>by cases e;exact⟨_,hK',rfl⟩)
  refine⟨.tuple #[.int .i64 (-1),.bool (decide (0≤idxI nm))],?_,by rw[EE.out.1,EE.out.2],((hBw.setCell (p:=⟨w.heap.size+1,0,none⟩) (by simp) _).setCell (p:=⟨w.heap.size+1+1,0,none⟩) (by simp;omega) _).trans (belowK_b (w:=w) (Nat.le_refl _) _ D _ _ (by omega) hK' rfl rfl)⟩
  simp[results,Tryz.f92,go_sem,hc5,hc6]
 case stop =>
  rintro D c pre W hD ⟨m,hm,hpm⟩ ⟨⟨rfl,pre',x,e,q2,q3,q4,q5,q6⟩,hB⟩ hK
  rw[hpm,revT_next _ m hm] at q2
  have q7:=List.append_inj' q2 rfl
  have q8:x.val=m:=by have:=q7.2;simp at this;rw[←this]
  have hfn:findP nm s.blocks=some e.2:=find_some_at HML.out hm (fun y hy=>q3 y (by rw[←q7.1];exact hy)) (by rw[←q8];exact q4)
  have e1:placeI nm s=(e.2:Int):=by unfold placeI;rw[hfn];rfl
  have e2:foundB nm s=true:=by unfold foundB;rw[hfn];rfl
  have EE:Hid (placeI nm s=(e.2:Int)∧foundB nm s=true):=⟨e1,e2⟩
  clear hfn e1 e2 q2 q3 q4 q7
  have hsz:w.heap.size+1+1+1+1≤D:=by simpa using hD
  gi_wp2
  refine⟨by simp,.inl ⟨_,_,rfl,run_takeDeferred hK,?_⟩⟩
  have hc5:=cell_kept q5 (grownBy_putObj' _ D (.deferred none)) (fun r e=>by cases e;exact⟨_,hK,rfl⟩)
  have hc6:=cell_kept q6 (grownBy_putObj' _ D (.deferred none)) (fun r e=>by cases e;exact⟨_,hK,rfl⟩)
  refine⟨.tuple #[.int .i64 (e.2:Int),.bool true],?_,by rw[EE.out.1,EE.out.2],hB.trans (belowK_b (w:=w) (Nat.le_refl _) _ D _ _ (by omega) hK rfl rfl)⟩
  simp[results,Tryz.f92,go_sem,hc5,hc6]
end Go.Proofs.YtihmdcdifakepaaGreat.Rv
namespace Go.Proofs.YtihmdcdifakepaaGreat.Rv
open Go.RowKit Go.Proofs.YtihmdcdifakepaaGreat.Sc Go.Proofs.YtihmdcdifakepaaGreat.Rz
def thrown (e:Rz.Er):List PanicEntry:=[{ v := .iface 38 (.agg #[.int .i64 e.1,.int .i64 e.2]),recovered:=false }]
def Out (w:World)(B rb:Nat)(O:Nat→Prop)(v6:Value)(val:Value)(r:Except Rz.Er Rz.RS)(e:Ending)(w':World):Prop :=
 match r with
 | .ok s'=>e = .returned val∧Went w B rb O s' v6 w'
 | .error er=>e = .panicked (thrown er)∧Chg O w w'
theorem modify_set {α:Type}(f:α→α):∀(l:List α)(i:Nat)(x:α),l[i]?=some x→l.modify i f=l.set i (f x)
 | [],i,x,h=>by simp at h
 | y :: l,0,x,h=>by simp at h;subst h;rfl
 | y :: l,i+1,x,h=>by simp at h;simp[modify_set f l i x h]
section
variable {w w':World}{B rb:Nat}{tg:Nat→Nat}{s:Rz.RS}{v0 v1 v2 v3 v6:Value}{ms:List (Option Nat)}
theorem MemAt.put0 {g n cap:Nat}(h:MemAt w B rb tg s (.slice (some ⟨g,0,none⟩) n cap) v1 v2 v3 v6 ms){i j:Nat}{y y':Rz.Scp}{u:Value}(hi:s.scopes[i]?=some y)(hj:j<4)(he:scpC y'=(scpC y).set j u)(hg:Gd { s with scopes:=s.scopes.set i y' }) :
  MemAt (w.setCell ⟨g,i*4+j,none⟩ u) B rb tg { s with scopes:=s.scopes.set i y' } (.slice (some ⟨g,0,none⟩) n cap) v1 v2 v3 v6 ms∧Chg (Ow rb (.slice (some ⟨g,0,none⟩) n cap) v1 v2 v3 v6 ms) w (w.setCell ⟨g,i*4+j,none⟩ u):=by
 have hgt:tg g=1:=h.t1 g rfl
 have hc:Chg (fun b=>b=g) w (w.setCell ⟨g,i*4+j,none⟩ u):=Chg.set w _ _ rfl
 have nr:¬rb=g:=fun e=>by have:=h.t0;rw[e] at this;omega
 refine⟨⟨(hc.block rb h.rlt nr).trans h.box,h.r0.put rtScp.len hi hj he,h.r1.kept hc (fun b q e=>by have h1:=h.t2 b q;rw[e] at h1;omega),h.r2.kept hc (fun b q e=>by have h1:=h.t3 b q;rw[e] at h1;omega),h.r3.kept hc (fun b q e=>by have h1:=h.t4 b q;rw[e] at h1;omega),h.r6.kept hc (fun b q e=>by have h1:=h.t5 b q;rw[e] at h1;omega),h.t0,h.t1,h.t2,h.t3,h.t4,h.t5,fun i b q => ?_,h.ml,fun i m b q1 q2=>(h.mp i m b q1 q2).kept (fun mb e => ?_),hg,h.lo⟩,Chg.set w _ _ (Or.inr (Or.inl rfl))⟩
 ·obtain⟨a1,a2,a3⟩:=h.tm i b q
  exact⟨a1,a2,Nat.lt_of_lt_of_le a3 hc.size⟩
 ·subst e
  obtain⟨a1,a2,a3⟩:=h.tm i mb q1
  exact hc.block mb a3 (fun e=>by rw[e] at a1;omega)
theorem MemAt.put1 {g n cap:Nat}(h:MemAt w B rb tg s v0 (.slice (some ⟨g,0,none⟩) n cap) v2 v3 v6 ms){i j:Nat}{y y':Rz.Vr}{u:Value}(hi:s.vars[i]?=some y)(hj:j<6)(he:vrC y'=(vrC y).set j u)(hg:Gd { s with vars:=s.vars.set i y' }) :
  MemAt (w.setCell ⟨g,i*6+j,none⟩ u) B rb tg { s with vars:=s.vars.set i y' } v0 (.slice (some ⟨g,0,none⟩) n cap) v2 v3 v6 ms∧Chg (Ow rb v0 (.slice (some ⟨g,0,none⟩) n cap) v2 v3 v6 ms) w (w.setCell ⟨g,i*6+j,none⟩ u):=by
 have hgt:tg g=2:=h.t2 g rfl
 have hc:Chg (fun b=>b=g) w (w.setCell ⟨g,i*6+j,none⟩ u):=Chg.set w _ _ rfl
 have nr:¬rb=g:=fun e=>by have:=h.t0;rw[e] at this;omega
 refine⟨⟨(hc.block rb h.rlt nr).trans h.box,h.r0.kept hc (fun b q e=>by have h1:=h.t1 b q;rw[e] at h1;omega),h.r1.put rtVr.len hi hj he,h.r2.kept hc (fun b q e=>by have h1:=h.t3 b q;rw[e] at h1;omega),h.r3.kept hc (fun b q e=>by have h1:=h.t4 b q;rw[e] at h1;omega),h.r6.kept hc (fun b q e=>by have h1:=h.t5 b q;rw[e] at h1;omega),h.t0,h.t1,h.t2,h.t3,h.t4,h.t5,fun i b q => ?_,h.ml,fun i m b q1 q2=>(h.mp i m b q1 q2).kept (fun mb e => ?_),hg,h.lo⟩,Chg.set w _ _ (Or.inr (Or.inr (Or.inl rfl)))⟩
 ·obtain⟨a1,a2,a3⟩:=h.tm i b q
  exact⟨a1,a2,Nat.lt_of_lt_of_le a3 hc.size⟩
 ·subst e
  obtain⟨a1,a2,a3⟩:=h.tm i mb q1
  exact hc.block mb a3 (fun e=>by rw[e] at a1;omega)
theorem MemAt.put3 {g n cap mb:Nat}(h:MemAt w B rb tg s v0 v1 v2 (.slice (some ⟨g,0,none⟩) n cap) v6 ms){i:Nat}(hi:ms[i]?=some none){es:Array MapEntry}{clock:Nat}(hm:w.heap[mb]?=some (.map es clock))(he:es.toList=[])(hB:B≤mb)(hno:∀b,Ow rb v0 v1 v2 (.slice (some ⟨g,0,none⟩) n cap) v6 ms b→b≠mb) :
  MemAt (w.setCell ⟨g,i,none⟩ (.map (some mb))) B rb (fun b=>if b=mb then 6+i else tg b) s v0 v1 v2 (.slice (some ⟨g,0,none⟩) n cap) v6 (ms.set i (some mb))∧Chg (Ow rb v0 v1 v2 (.slice (some ⟨g,0,none⟩) n cap) v6 ms) w (w.setCell ⟨g,i,none⟩ (.map (some mb))):=by
 have hgt:tg g=4:=h.t4 g rfl
 have hc:Chg (fun b=>b=g) w (w.setCell ⟨g,i,none⟩ (.map (some mb))):=Chg.set w _ _ rfl
 have nr:¬rb=g:=fun e=>by have:=h.t0;rw[e] at this;omega
 have hil:i<ms.length:=(List.getElem?_eq_some_iff.1 hi).1
 have hmg:mb≠g:=fun e=>hno g (Or.inr (Or.inr (Or.inr (Or.inr (Or.inl rfl))))) e.symm
 have hml:mb<w.heap.size:=(Array.getElem?_eq_some_iff.1 hm).1
 have hput:=h.r3.put (j:=0) (y':=some mb) (u := .map (some mb)) rtMp.len hi (by omega) rfl
 rw[Nat.mul_one,Nat.add_zero] at hput
 have hmk:(w.setCell ⟨g,i,none⟩ (.map (some mb))).heap[mb]?=some (.map es clock):=(hc.block mb hml hmg).trans hm
 refine⟨⟨(hc.block rb h.rlt nr).trans h.box,h.r0.kept hc (fun b q e=>by have h1:=h.t1 b q;rw[e] at h1;omega),h.r1.kept hc (fun b q e=>by have h1:=h.t2 b q;rw[e] at h1;omega),h.r2.kept hc (fun b q e=>by have h1:=h.t3 b q;rw[e] at h1;omega),hput,h.r6.kept hc (fun b q e=>by have h1:=h.t5 b q;rw[e] at h1;omega),
  by rw[if_neg (hno rb (Or.inl rfl))];exact h.t0,fun b q=>by rw[if_neg (hno b (Or.inr (Or.inl q)))];exact h.t1 b q,fun b q=>by rw[if_neg (hno b (Or.inr (Or.inr (Or.inl q))))];exact h.t2 b q,fun b q=>by rw[if_neg (hno b (Or.inr (Or.inr (Or.inr (Or.inl q)))))];exact h.t3 b q,fun b q=>by rw[if_neg (hno b (Or.inr (Or.inr (Or.inr (Or.inr (Or.inl q))))))];exact h.t4 b q,fun b q=>by rw[if_neg (hno b (Or.inr (Or.inr (Or.inr (Or.inr (Or.inr (Or.inl q)))))))];exact h.t5 b q,
  fun k b q => ?_,by rw[List.length_set];exact h.ml,fun k m b q1 q2 => ?_,h.gd,h.lo⟩,Chg.set w _ _ (Or.inr (Or.inr (Or.inr (Or.inr (Or.inl rfl)))))⟩
 ·by_cases c:i=k
  ·subst c
   rw[List.getElem?_set_self hil] at q
   cases q
   rw[if_pos rfl]
   exact⟨rfl,hB,Nat.lt_of_lt_of_le hml hc.size⟩
  ·rw[List.getElem?_set_ne c] at q
   obtain⟨a1,a2,a3⟩:=h.tm k b q
   rw[if_neg (hno b (Or.inr (Or.inr (Or.inr (Or.inr (Or.inr (Or.inr ⟨k,q⟩)))))))]
   exact⟨a1,a2,Nat.lt_of_lt_of_le a3 hc.size⟩
 ·by_cases c:i=k
  ·subst c
   rw[List.getElem?_set_self hil] at q1
   cases q1
   have hb0:b=[]:=by
    rcases h.mp i none b hi q2 with e | ⟨_,_,_,e,_⟩
    ·exact e.2
    ·cases e
   subst hb0
   exact Or.inr ⟨mb,es,clock,rfl,hmk,by rw[he];rfl⟩
  ·rw[List.getElem?_set_ne c] at q1
   refine(h.mp k m b q1 q2).kept (fun mb' e => ?_)
   subst e
   obtain⟨a1,a2,a3⟩:=h.tm k mb' q1
   exact hc.block mb' a3 (fun e=>by rw[e] at a1;omega)
theorem MemAt.name (h:MemAt w B rb tg s v0 v1 v2 v3 v6 ms){i mb:Nat}(hi:ms[i]?=some (some mb))(hil:i+1=ms.length){b0:Blk}{bs:List Blk}(hbs:s.blocks=b0 :: bs)(hg:w.grownBy w' (some mb)){b1:Blk}(hm:MpAt w' (some mb) b1)(hgd:Gd { s with blocks:=b1 :: bs }) :
  MemAt w' B rb tg { s with blocks:=b1 :: bs } v0 v1 v2 v3 v6 ms∧Chg (Ow rb v0 v1 v2 v3 v6 ms) w w':=by
 obtain⟨m1,m2,m3⟩:=h.tm i mb hi
 have hc:Chg (fun b=>b=mb) w w':=Chg.of_grown hg (fun k q=>by cases q;rfl)
 have hl:=h.ml
 rw[hbs,List.length_cons] at hl
 refine⟨⟨(hc.block rb h.rlt (fun e=>by have:=h.t0;rw[e] at this;omega)).trans h.box,h.r0.kept hc (fun b q e=>by have h1:=h.t1 b q;rw[e] at h1;omega),h.r1.kept hc (fun b q e=>by have h1:=h.t2 b q;rw[e] at h1;omega),h.r2.kept hc (fun b q e=>by have h1:=h.t3 b q;rw[e] at h1;omega),h.r3.kept hc (fun b q e=>by have h1:=h.t4 b q;rw[e] at h1;omega),h.r6.kept hc (fun b q e=>by have h1:=h.t5 b q;rw[e] at h1;omega),h.t0,h.t1,h.t2,h.t3,h.t4,h.t5,fun k b q => ?_,by rw[List.length_cons];omega,fun k m b q1 q2 => ?_,hgd,h.lo⟩,hc.mono (fun b q=>Or.inr (Or.inr (Or.inr (Or.inr (Or.inr (Or.inr ⟨i,by rw[q];exact hi⟩))))))⟩
 ·obtain⟨a1,a2,a3⟩:=h.tm k b q
  exact⟨a1,a2,Nat.lt_of_lt_of_le a3 hc.size⟩
 ·rw[List.reverse_cons] at q2
  have hkl:=(List.getElem?_eq_some_iff.1 q1).1
  by_cases c:k=i
  ·subst c
   rw[hi] at q1
   cases q1
   rw[List.getElem?_append_right (by rw[List.length_reverse];omega),List.getElem?_singleton] at q2
   split at q2
   ·cases q2;exact hm
   ·cases q2
  ·rw[List.getElem?_append_left (by rw[List.length_reverse];omega)] at q2
   refine(h.mp k m b q1 (by rw[hbs,List.reverse_cons,List.getElem?_append_left (by rw[List.length_reverse];omega)];exact q2)).kept (fun mb' e => ?_)
   subst e
   obtain⟨a1,a2,a3⟩:=h.tm k mb' q1
   exact hc.block mb' a3 (fun e=>by rw[e] at a1;omega)
end
def bi (nm:ByteArray):Bool:=decide (0≤idxI nm)
def UOut (w:World)(B rb:Nat)(O:Nat→Prop)(v6:Value)(r:Except Rz.Er (Option Nat×Rz.RS))(e:Ending)(w':World):Prop :=
 match r with
 | .ok (v,s')=>e = .returned (.int .i64 ((v.map (fun i=>(i:Int))).getD (-1)))∧Went w B rb O s' v6 w'
 | .error er=>e = .panicked (thrown er)∧Chg O w w'
theorem gd_uses {s:Rz.RS}(h:Gd s)(u:List Rz.Us):Gd { s with uses:=u }:=⟨h.fnl,h.blk,h.wf⟩
theorem MemAt.use {w w5:World}{B rb:Nat}{tg:Nat→Nat}{s:Rz.RS}{v0 v1 v3 v6:Value}{ms:List (Option Nat)}{ad:Option Addr}{cap:Nat}(h:MemAt w B rb tg s v0 v1 (.slice ad s.uses.length cap) v3 v6 ms){g5 cap5:Nat}{u:Rz.Us}
  (ho:OwnR usC 2 57 B w5 (.slice (some ⟨g5,0,none⟩) (s.uses.length+1) cap5) (s.uses++[u])) (hc:Chg (fun b=>(Value.slice ad s.uses.length cap).ownBlock=some b) w w5) (hg:(Value.slice ad s.uses.length cap).ownBlock=some g5∨w.heap.size≤g5) :
  MemAt (w5.setCell ⟨rb,2,none⟩ (.slice (some ⟨g5,0,none⟩) (s.uses.length+1) cap5)) B rb (retag tg (.slice (some ⟨g5,0,none⟩) (s.uses.length+1) cap5) 3) { s with uses:=s.uses++[u] } v0 v1 (.slice (some ⟨g5,0,none⟩) (s.uses.length+1) cap5) v3 v6 ms∧Chg (Ow rb v0 v1 (.slice ad s.uses.length cap) v3 v6 ms) w (w5.setCell ⟨rb,2,none⟩ (.slice (some ⟨g5,0,none⟩) (s.uses.length+1) cap5))∧∀b,Ow rb v0 v1 (.slice (some ⟨g5,0,none⟩) (s.uses.length+1) cap5) v3 v6 ms b→Ow rb v0 v1 (.slice ad s.uses.length cap) v3 v6 ms b∨w.heap.size≤b :=
 h.row2 hc ho (fun b q=>by
  simp[Value.ownBlock] at q
  subst q
  exact hg) (gd_uses h.gd _)
theorem use_any (w:World)(B rb:Nat)(O:Nat→Prop)(s:Rz.RS)(v6:Value)(h:Mem w B rb O s v6)(hb:bg s≤1000000000)(kind pl num:Int)(nm op:ByteArray)(kv:Value)(hs:nm.size≤maxLen) :
  Calls Tryz.prog 80 #[.pointer (some ⟨rb,0,none⟩),.agg #[.int .i64 kind,.int .i64 pl,.string nm,.int .u64 num,.string op,kv]] w (UOut w B rb O v6 (useP bi nm pl s)):=by
 obtain⟨wb,hwb⟩:∃wb,wb=w.alloc (.cells #[.int .i64 kind,.int .i64 pl,.string nm,.int .u64 num,.string op,kv] 25):=⟨_,rfl⟩
 have hbl:Below w.heap.size w wb:=by rw[hwb];exact below_new (Below.refl _ _) (Nat.le_refl _) _
 have b1:wb.cell? ⟨w.heap.size,1,none⟩=some (.int .i64 pl):=by rw[hwb];exact box_new w _ _ 1 _ rfl
 have b2:wb.cell? ⟨w.heap.size,2,none⟩=some (.string nm):=by rw[hwb];exact box_new w _ _ 2 _ rfl
 have kf:=find_any wb B rb O s v6 (h.below hbl) nm hs
 have HM:Hid (Mem w B rb O s v6):=h
 have HB:Hid (Below w.heap.size w wb):=hbl
 have HU:Hid (s.uses.length≤1000000000):=by show _≤_;unfold bg at hb;omega
 have H1:Hid (wb.cell? ⟨w.heap.size,1,none⟩=some (.int .i64 pl)):=b1
 clear h hb hbl hs
 cases hf:findP nm s.blocks with
 | none =>
   cases hbi:bi nm with
   | false =>
     have hup:useP bi nm pl s = .error (pl,73):=by unfold useP;rw[hf,hbi];rfl
     rw[hup]
     have e2:foundB nm s=false:=by unfold foundB;rw[hf];exact hbi
     rw[e2] at kf
     generalize placeI nm s=P at *
     clear hup hf hbi e2
     go_enter Tryz.func80,Tryz.ntmps80
     go_upto_region 1 with fail
     rw[←hwb]
     clear hwb
     go_wp2_with fail
     refine kf.mono ?_
     rintro e w1 ⟨rfl,hb1⟩
     have b1':=Sc.cells_below hb1 _ _ H1.out
     have HC:Hid (Chg O w w1):=(Chg.of_below HB.out).trans (Chg.of_below (S:=O) hb1) (fun _ _ q=>q)
     clear kf hb1 b1 b2
     go_wp2_with fail
     exact⟨rfl,rfl,HC.out⟩
   | true =>
     have hup:useP bi nm pl s = .ok (none,{ s with uses:=s.uses++[⟨pl,-1⟩] }):=by unfold useP;rw[hf,hbi];rfl
     rw[hup]
     have e1:placeI nm s = -1:=by unfold placeI;rw[hf];rfl
     have e2:foundB nm s=true:=by unfold foundB;rw[hf];exact hbi
     rw[e1,e2] at kf
     clear hup hf hbi e1 e2
     go_enter Tryz.func80,Tryz.ntmps80
     go_upto_region 1 with fail
     rw[←hwb]
     clear hwb
     go_wp2_with fail
     refine kf.mono ?_
     rintro e w1 ⟨rfl,hb1⟩
     have b1':=Sc.cells_below hb1 _ _ H1.out
     have hbw:Below w.heap.size w w1:=HB.out.trans (hb1.mono HB.out.size)
     have hm1:=HM.out.below hbw
     have HO1:Hid (∀b,O b→b<w.heap.size):=fun b q=>(HM.out.lt b q).2
     have HBW:Hid (Below w.heap.size w w1):=hbw
     obtain⟨tg,v0,v1,v2,v3,ms,h,hO⟩:=hm1
     obtain⟨ad,cap,rfl,l1,l2,hg⟩:=own_slice h.r2
     have HMA:Hid (MemAt w1 B rb tg s v0 v1 (.slice ad s.uses.length cap) v3 v6 ms):=h
     have HOO:=(show Hid _ from hO)
     have c2:=h.c.2.2.1
     have hne:¬rb=w1.heap.size:=Nat.ne_of_lt h.rlt
     have HAL:Hid (Below w1.heap.size w1 (w1.drew.alloc (.cells #[.int .i64 pl,.int .i64 (-1)] 57))):=((Below.refl w1.heap.size w1).drew).alloc (Nat.le_refl _) _
     have HOW:Hid (OwnR usC 2 57 B (w1.drew.alloc (.cells #[.int .i64 pl,.int .i64 (-1)] 57)) (.slice ad s.uses.length cap) s.uses):=h.r2.below HAL.out
     have HBB:Hid (B≤w1.heap.size):=Nat.le_trans h.lo (Nat.le_of_lt h.rlt)
     have g1:(w1.alloc (.cells #[.int .i64 pl,.int .i64 (-1)] 57)).cell? ⟨rb,2,none⟩=some (.slice ad s.uses.length cap):=Sc.cells_below ((Below.refl w1.heap.size w1).alloc (Nat.le_refl _) _) _ _ c2
     have HBX:Hid (((s.uses.length+1)+(s.uses.length+1) / 4+192)*16≤281474976710656∧s.uses.length+1≤maxLen):=by have:=HU.out;exact⟨by omega,by unfold maxLen;omega⟩
     have HFZ:Hid (∀w5,Chg (fun b=>(Value.slice ad s.uses.length cap).ownBlock=some b) w1 w5→w5.cell? ⟨rb,2,none⟩=some (.slice ad s.uses.length cap)∧w5.frozen? ⟨rb,2,none⟩=false):=fun w5 h5=>by
      have hrs:¬(Value.slice ad s.uses.length cap).ownBlock=some rb:=fun q=>by have:=HMA.out.t3 rb q;have:=HMA.out.t0;omega
      exact⟨h5.cell c2 hrs,by rw[World.frozen?_of_block (w:=w1) (h5.block rb HMA.out.rlt hrs)];exact HMA.out.f 2⟩
     clear kf hb1 b1 b2 hbw h hO l1 l2 hg HM H1 HB
     go_wp2_with fail
     go_region_law ((refine step_row rtUs (by rfl) _ _ (by rfl) B (.slice ad s.uses.length cap) s.uses (by rfl) (by exact HOW.out) w1.heap.size ⟨pl,(-1)⟩ #[.int .i64 pl,.int .i64 (-1)] 57 (by rfl) (by exact at_new _ _) (by rfl) (by exact HBX.out.2) (by exact HBX.out.1) (by exact Nat.le_trans HBB.out HAL.out.size) ?_;intro g5 cap5 w5 ho5 hg5 hl5;have HO:Hid (OwnR usC 2 57 B w5 (.slice (some ⟨g5,0,none⟩) (s.uses.length+1) cap5) (s.uses++[⟨pl,(-1)⟩])∧Chg (fun b=>(Value.slice ad s.uses.length cap).ownBlock=some b) w1 w5∧((Value.slice ad s.uses.length cap).ownBlock=some g5∨w1.heap.size≤g5)):=⟨ho5,(Chg.of_below HAL.out).trans (Chg.of_grown (S:=fun b=>(Value.slice ad s.uses.length cap).ownBlock=some b) hg5 (fun k q=>q)) (fun _ _ q=>q),hl5.imp id (fun q=>by rw[q];exact HAL.out.size)⟩;obtain⟨z1,z2⟩:=HFZ.out w5 HO.out.2.1;clear ho5 hg5 hl5))
     all_goals
      have hU:=HMA.out.use HO.out.1 HO.out.2.1 HO.out.2.2
      generalize hwq:w5.setCell ⟨rb,2,none⟩ (.slice (some ⟨g5,0,none⟩) (s.uses.length+1) cap5)=wq at *
      have HUU:=(show Hid _ from hU)
      clear hU HO HFZ HOW HBB HAL HBX g1 z1 z2 c2 hwq
      go_wp2_with fail
      go_region
      all_goals
       go_wp2_with fail
       go_ret
       refine⟨rfl,Went.drew ?_⟩
       exact(went_of HOO.out HUU.out.1 HUU.out.2.1 HUU.out.2.2).behind HBW.out
 | some v =>
   have HF:Hid (findP nm s.blocks=some v):=hf
   have HVL:Hid (v<s.vars.length):=find_lt nm _ s.blocks v HM.out.gd.blk hf
   have e1:placeI nm s=(v:Int):=by unfold placeI;rw[hf];rfl
   have e2:foundB nm s=true:=by unfold foundB;rw[hf];rfl
   rw[e1,e2] at kf
   clear hf e1 e2
   go_enter Tryz.func80,Tryz.ntmps80
   go_upto_region 1 with fail
   rw[←hwb]
   clear hwb
   go_wp2_with fail
   refine kf.mono ?_
   rintro e w1 ⟨rfl,hb1⟩
   have b1':=Sc.cells_below hb1 _ _ H1.out
   have hbw:Below w.heap.size w w1:=HB.out.trans (hb1.mono HB.out.size)
   have hm1:=HM.out.below hbw
   have HO1:Hid (∀b,O b→b<w.heap.size):=fun b q=>(HM.out.lt b q).2
   have HBW:Hid (Below w.heap.size w w1):=hbw
   obtain⟨tg,v0,v1,v2,v3,ms,h,hO⟩:=hm1
   obtain⟨ad,cap,rfl,l1,l2,hg⟩:=own_slice h.r2
   have HMA:Hid (MemAt w1 B rb tg s v0 v1 (.slice ad s.uses.length cap) v3 v6 ms):=h
   have HOO:=(show Hid _ from hO)
   have c2:=h.c.2.2.1
   have hne:¬rb=w1.heap.size:=Nat.ne_of_lt h.rlt
   have HAL:Hid (Below w1.heap.size w1 (w1.drew.alloc (.cells #[.int .i64 pl,.int .i64 (v:Int)] 57))):=((Below.refl w1.heap.size w1).drew).alloc (Nat.le_refl _) _
   have HOW:Hid (OwnR usC 2 57 B (w1.drew.alloc (.cells #[.int .i64 pl,.int .i64 (v:Int)] 57)) (.slice ad s.uses.length cap) s.uses):=h.r2.below HAL.out
   have HBB:Hid (B≤w1.heap.size):=Nat.le_trans h.lo (Nat.le_of_lt h.rlt)
   have g1:(w1.alloc (.cells #[.int .i64 pl,.int .i64 (v:Int)] 57)).cell? ⟨rb,2,none⟩=some (.slice ad s.uses.length cap):=Sc.cells_below ((Below.refl w1.heap.size w1).alloc (Nat.le_refl _) _) _ _ c2
   have HBX:Hid (((s.uses.length+1)+(s.uses.length+1) / 4+192)*16≤281474976710656∧s.uses.length+1≤maxLen):=by have:=HU.out;exact⟨by omega,by unfold maxLen;omega⟩
   have HFZ:Hid (∀w5,Chg (fun b=>(Value.slice ad s.uses.length cap).ownBlock=some b) w1 w5→w5.cell? ⟨rb,2,none⟩=some (.slice ad s.uses.length cap)∧w5.frozen? ⟨rb,2,none⟩=false):=fun w5 h5=>by
    have hrs:¬(Value.slice ad s.uses.length cap).ownBlock=some rb:=fun q=>by have:=HMA.out.t3 rb q;have:=HMA.out.t0;omega
    exact⟨h5.cell c2 hrs,by rw[World.frozen?_of_block (w:=w1) (h5.block rb HMA.out.rlt hrs)];exact HMA.out.f 2⟩
   clear kf hb1 b1 b2 hbw h hO l1 l2 hg HM H1 HB
   go_wp2_with fail
   go_region_law ((refine step_row rtUs (by rfl) _ _ (by rfl) B (.slice ad s.uses.length cap) s.uses (by rfl) (by exact HOW.out) w1.heap.size ⟨pl,(v:Int)⟩ #[.int .i64 pl,.int .i64 (v:Int)] 57 (by rfl) (by exact at_new _ _) (by rfl) (by exact HBX.out.2) (by exact HBX.out.1) (by exact Nat.le_trans HBB.out HAL.out.size) ?_;intro g5 cap5 w5 ho5 hg5 hl5;have HO:Hid (OwnR usC 2 57 B w5 (.slice (some ⟨g5,0,none⟩) (s.uses.length+1) cap5) (s.uses++[⟨pl,(v:Int)⟩])∧Chg (fun b=>(Value.slice ad s.uses.length cap).ownBlock=some b) w1 w5∧((Value.slice ad s.uses.length cap).ownBlock=some g5∨w1.heap.size≤g5)):=⟨ho5,(Chg.of_below HAL.out).trans (Chg.of_grown (S:=fun b=>(Value.slice ad s.uses.length cap).ownBlock=some b) hg5 (fun k q=>q)) (fun _ _ q=>q),hl5.imp id (fun q=>by rw[q];exact HAL.out.size)⟩;obtain⟨z1,z2⟩:=HFZ.out w5 HO.out.2.1;clear ho5 hg5 hl5))
   all_goals
    have hU:=HMA.out.use HO.out.1 HO.out.2.1 HO.out.2.2
    generalize hwq:w5.setCell ⟨rb,2,none⟩ (.slice (some ⟨g5,0,none⟩) (s.uses.length+1) cap5)=wq at *
    have HUU:=(show Hid _ from hU)
    clear hU HO HFZ HOW HBB HAL HBX g1 z1 z2 c2 hwq
    have hbb:=Went.behind HBW.out (went_of HOO.out HUU.out.1 HUU.out.2.1 HUU.out.2.2)
    have HBB2:=(show Hid _ from hbb)
    obtain⟨ad1,cap1,e1,l1,l2,hg1⟩:=own_slice HUU.out.1.r1
    have hvl:=HVL.out
    obtain⟨gv,rfl⟩:=hg1 (by intro e;simp only at e;rw[e] at hvl;simp at hvl)
    simp only at e1 l1
    subst e1
    obtain⟨_,_,_,_,_,r6,r7⟩:=HUU.out.1.r1.read rtVr.len
    have hx:s.vars[v]?=some (s.vars[v]'hvl):=List.getElem?_eq_getElem hvl
    have d3:=r6 v _ hx 3 _ rfl
    have d5:=r6 v _ hx 5 _ rfl
    have fz:=r7 (v*6+5)
    have c1:=HUU.out.1.c.2.1
    have c4:=HUU.out.1.c.2.2.2.2.1
    have hvi:(v:Int)<s.vars.length:=by omega
    have hv0:(0:Int)≤(v:Int):=by omega
    have hlim:(s.vars.length:Int)≤9223372036854775807:=by unfold maxLen at l2;omega
    have hput:=HUU.out.1.put1 (i:=v) (j:=5) (y:=s.vars[v]) (y':={ s.vars[v] with cap:=true }) (u := .bool true) hx (by omega) rfl ⟨HUU.out.1.gd.fnl,fun b q e q2=>by have:=HUU.out.1.gd.blk b q e q2;simpa using this,HUU.out.1.gd.wf⟩
    have HPUT:=(show Hid _ from hput)
    clear hput r6 r7 l1 l2 hg1 hbb
    have hfx:((s.vars[v]?).map (·.fn)).getD 0=(s.vars[v]).fn:=by rw[hx];rfl
    by_cases hq:(s.vars[v]).fn=s.fn
    ·have HR:Hid (useP bi nm pl s = .ok (some v,{ s with uses:=s.uses++[⟨pl,(v:Int)⟩] })):=by show _=_;unfold useP;rw[HF.out];simp only;rw[hfx,if_neg (fun c=>c hq)]
     rw[hq] at d3
     have hqq:((s.fn:Int) != (s.fn:Int))=false:=by simp
     clear hx hfx HPUT
     simp only at c4 d3
     go_wp2_with fail
     go_region
     all_goals
      go_wp2_with fail
      go_ret
      rw[HR.out]
      exact⟨rfl,Went.drew HBB2.out⟩
    ·have hmod:capP v { s with uses:=s.uses++[⟨pl,(v:Int)⟩] }={ s with uses:=s.uses++[⟨pl,(v:Int)⟩],vars:=s.vars.set v { s.vars[v] with cap:=true } }:=by unfold capP;simp only;rw[modify_set _ _ _ _ hx]
     have HR:Hid (useP bi nm pl s = .ok (some v,{ s with uses:=s.uses++[⟨pl,(v:Int)⟩],vars:=s.vars.set v { s.vars[v] with cap:=true } })):=by show _=_;unfold useP;rw[HF.out];simp only;rw[hfx,if_pos hq,hmod]
     have hqq:(((s.vars[v]).fn:Int) != (s.fn:Int))=true:=by simp;omega
     have HEND:Hid (Went w B rb O { s with uses:=s.uses++[⟨pl,(v:Int)⟩],vars:=s.vars.set v { s.vars[v] with cap:=true } } v6 (wq.setCell ⟨gv,v*6+5,none⟩ (.bool true))):=by
      refine Went.behind HBW.out (went_of HOO.out HPUT.out.1 (HUU.out.2.1.trans HPUT.out.2 (fun i hi q => ?_)) HUU.out.2.2)
      rcases HUU.out.2.2 i q with c | c
      ·exact c
      ·omega
     have HEND2:Hid (Went w B rb O { s with uses:=s.uses++[⟨pl,(v:Int)⟩],vars:=s.vars.set v { s.vars[v] with cap:=true } } v6 (wq.drew.setCell ⟨gv,v*6+5,none⟩ (.bool true))):=HEND.out.drew
     clear hx hfx HPUT hmod
     generalize ((s.vars[v]).fn:Int)=FN at *
     generalize (s.vars[v]).cap=CP at *
     go_wp2_with fail
     go_region
     all_goals
      go_wp2_with fail
      go_ret
      rw[HR.out]
      exact⟨rfl,by first | exact HEND2.out | exact HEND.out.drew⟩
end Go.Proofs.YtihmdcdifakepaaGreat.Rv
