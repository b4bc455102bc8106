/- CJ, CK, CL, CM -/
import Derived.Test.YtahhionlbfhinabGreatDoorB1
import Derived.Test.YtahhionlbfhinabGreatDoorB4
import Derived.Deep.RegionLaw
import Derived.Deep.Cut
import Derived.Deep.LoopGhost
set_option linter.unusedVariables false
set_option linter.unusedSimpArgs false
set_option maxRecDepth 100000
set_option maxHeartbeats 40000000
namespace Go.Proofs.YtahhionlbfhinabGreatDoor.Ce
open Go.RowKit Go.Proofs.YtahhionlbfhinabGreatDoor.Hp
def natC (z:Nat):List Value:=[.int .i64 (z:Int)]
def enC (e:En):List Value:=[.bool e.ok,.int .i64 e.top,.int .i64 e.bes]
theorem rtNat:RT natC 194 3 1 8:=⟨fun _=>rfl,Tryz.underlying194,rt_inf (z := .int .i64 0) (by kernel_rfl) rfl,by decide,fun y u h=>by simp[natC] at h;subst h;rfl⟩
theorem rtEn:RT enC 135 193 3 24:=⟨fun _=>rfl,Tryz.underlying135,rt_inf (z := .agg #[.bool false,.int .i64 0,.int .i64 0]) (by kernel_rfl) rfl,by decide,fun y u h=>by simp[enC] at h;rcases h with rfl | rfl | rfl <;> rfl⟩
def top:Nat:=8796093022208
structure CsAt (w:World)(B cb:Nat)(O:Nat→Prop)(E:List En)(v:Value):Prop where
 box:w.heap[cb]?=some (.cells #[v] 137 (0,0))
 own:OwnR enC 3 193 B w v E
 b1:B≤cb
 n2:v.ownBlock≠some cb
 os:∀b,O b↔(b=cb∨v.ownBlock=some b)
theorem CsAt.kept {w w':World}{B cb:Nat}{O S:Nat→Prop}{E:List En}{v:Value}(h:CsAt w B cb O E v)(hc:Chg S w w')(hs:∀b,O b→¬S b):CsAt w' B cb O E v:=by
 refine⟨?_,h.own.kept hc (fun b hb=>hs b ((h.os b).2 (Or.inr hb))),h.b1,h.n2,h.os⟩
 rw[hc.block cb (Array.getElem?_eq_some_iff.1 h.box).1 (hs cb ((h.os cb).2 (Or.inl rfl)))]
 exact h.box
theorem CsAt.below {w w':World}{B cb:Nat}{O:Nat→Prop}{E:List En}{v:Value}(h:CsAt w B cb O E v)(hb:Below w.heap.size w w'):CsAt w' B cb O E v:=h.kept (S:=fun _=>False) (Chg.of_below hb) (fun _ _ q=>q)
theorem CsAt.lt {w:World}{B cb:Nat}{O:Nat→Prop}{E:List En}{v:Value}(h:CsAt w B cb O E v):∀b,O b→B≤b∧b<w.heap.size:=by
 intro b hb
 rcases (h.os b).1 hb with rfl | hb
 ·exact⟨h.b1,(Array.getElem?_eq_some_iff.1 h.box).1⟩
 ·exact h.own.lt b hb
theorem CsAt.len {w:World}{B cb:Nat}{O:Nat→Prop}{E:List En}{v:Value}(h:CsAt w B cb O E v):∃ad cap,v = .slice ad E.length cap∧w.cell? ⟨cb,0,none⟩=some (.slice ad E.length cap)∧E.length≤cap∧cap≤maxLen:=by
 obtain⟨⟨ad,cap,xs⟩,h1,h2,h3,_⟩:=h.own.sl rtEn.len
 simp only at h2
 subst h2
 have h4:v = .slice ad xs.length cap:=h1
 refine⟨ad,cap,h4,?_,h3.len,h3.cap⟩
 rw[←h4,cell_of_row w cb 0 _ 137 (0,0) h.box]
 rfl
structure Row (w:World)(B cb g cap:Nat)(E:List En):Prop where
 c0:w.cell? ⟨cb,0,none⟩=some (.slice (some ⟨g,0,none⟩) E.length cap)
 lo:B≤g
 lt:g<w.heap.size
 ne:g≠cb
 len:E.length≤cap
 max:cap≤maxLen
 at':∀(i:Nat) (e:En),E[i]?=some e→w.cell? ⟨g,i*3,none⟩=some (.bool e.ok)∧w.cell? ⟨g,i*3+1,none⟩=some (.int .i64 e.top)∧w.cell? ⟨g,i*3+2,none⟩=some (.int .i64 e.bes)
 fr:∀n,n<E.length*3→w.frozen? ⟨g,n,none⟩=false
theorem CsAt.row {w:World}{B cb:Nat}{O:Nat→Prop}{E:List En}{v:Value}(h:CsAt w B cb O E v){j:Nat}(hj:j<E.length):∃g cap,v = .slice (some ⟨g,0,none⟩) E.length cap∧Row w B cb g cap E:=by
 rcases h.own.2 with⟨rfl,h0⟩ | ⟨g,cap,cur,rfl,hb,hg,hn,hc,hs,ht⟩
 ·omega
 ·refine⟨g,cap,rfl,?_,hb,(Array.getElem?_eq_some_iff.1 hg).1,?_,hn,hc,?_,?_⟩
  ·rw[cell_of_row w cb 0 _ 137 (0,0) h.box]
   rfl
  ·intro e
   subst e
   exact h.n2 rfl
  ·intro i e hi
   have key:∀(j:Nat) (u:Value),(enC e)[j]?=some u→w.cell? ⟨g,i*3+j,none⟩=some u:=by
    intro j u hu
    have hf:=flat_at rtEn.len E i e hi j u hu
    rw[cell_of_row w g _ cur 193 (0,0) hg]
    have hl:=(List.getElem?_eq_some_iff.1 hf).1
    rw[flat_len rtEn.len] at hl
    have e1:(cur.toList.take (E.length*3))[i*3+j]?=some u:=by rw[ht];exact hf
    rw[List.getElem?_take_of_lt hl] at e1
    simpa using e1
   exact⟨key 0 _ rfl,key 1 _ rfl,key 2 _ rfl⟩
  ·intro n hl
   exact frozen_of_row w g n cur 193 hg
theorem CsAt.put {w:World}{B cb g cap:Nat}{O:Nat→Prop}{E:List En}(h:CsAt w B cb O E (.slice (some ⟨g,0,none⟩) E.length cap)){i j:Nat}{e e':En}{u:Value}(hi:E[i]?=some e)(hj:j<3)(he:enC e'=(enC e).set j u):CsAt (w.setCell ⟨g,i*3+j,none⟩ u) B cb O (E.set i e') (.slice (some ⟨g,0,none⟩) E.length cap):=by
 have hil:=(List.getElem?_eq_some_iff.1 hi).1
 have hne:g≠cb:=fun q=>h.n2 (by rw[q];rfl)
 refine⟨?_,?_,h.b1,h.n2,h.os⟩
 ·rw[Below.heap_setCell w ⟨g,i*3+j,none⟩ u cb (fun q=>hne q.symm)]
  exact h.box
 ·rcases h.own.2 with⟨h1,h0⟩ | ⟨g',cap',cur,h1,hb,hg,hn,hc,hs,ht⟩
  ·cases h1
  ·cases h1
   have hfl:∀(E:List En) (i:Nat) (e:En),E[i]?=some e→(E.set i e').flatMap enC=(E.flatMap enC).set (i*3+j) u→True:=fun _ _ _ _ _=>trivial
   have key:∀(E:List En) (i:Nat),E[i]?=some e→(E.set i e').flatMap enC=(E.flatMap enC).set (i*3+j) u:=by
    intro E
    induction E with
    | nil=>intro i hi;simp at hi
    | cons x xs ih =>
      intro i hi
      cases i with
      | zero =>
        simp at hi
        subst hi
        rw[List.set_cons_zero,List.flatMap_cons,List.flatMap_cons,Nat.zero_mul,Nat.zero_add,List.set_append_left _ _ (by show j<3;exact hj),he]
      | succ i =>
        simp at hi
        rw[List.set_cons_succ,List.flatMap_cons,List.flatMap_cons,ih i hi,List.set_append_right _ _ (by show 3≤_;omega)]
        congr 2
        show i*3+j=(i+1)*3+j - 3
        omega
   refine⟨?_,Or.inr ⟨g,cap,cur.setIfInBounds (i*3+j) u,by rw[List.length_set],hb,heap_setCell_same w g (i*3+j) cur 193 u hg,by rw[List.length_set];exact hn,hc,by rw[Array.size_setIfInBounds];exact hs,?_⟩⟩
   ·rw[flat_len rtEn.len]
   ·rw[Array.toList_setIfInBounds,List.length_set,key E i hi,←ht,List.take_set]
def Cs (w:World)(B cb:Nat)(O:Nat→Prop)(l:List Cel):Prop:=∃E v,CsAt w B cb O E v∧Rl E l∧Inv l∧l.length≤top
theorem Cs.kept {w w':World}{B cb:Nat}{O S:Nat→Prop}{l:List Cel}(h:Cs w B cb O l)(hc:Chg S w w')(hs:∀b,O b→¬S b):Cs w' B cb O l:=by
 obtain⟨E,v,h1,h2⟩:=h
 exact⟨E,v,h1.kept hc hs,h2⟩
theorem Cs.below {w w':World}{B cb:Nat}{O:Nat→Prop}{l:List Cel}(h:Cs w B cb O l)(hb:Below w.heap.size w w'):Cs w' B cb O l:=h.kept (S:=fun _=>False) (Chg.of_below hb) (fun _ _ q=>q)
theorem Cs.lt {w:World}{B cb:Nat}{O:Nat→Prop}{l:List Cel}(h:Cs w B cb O l):∀b,O b→B≤b∧b<w.heap.size:=by
 obtain⟨E,v,h1,h2⟩:=h
 exact h1.lt
theorem count_at (w:World)(B cb:Nat)(O:Nat→Prop)(E:List En)(v:Value)(h:CsAt w B cb O E v) :
  Calls Tryz.prog 143 #[.pointer (some ⟨cb,0,none⟩)] w fun e w'=>e = .returned (.int .i64 (E.length:Int))∧w'=w:=by
 obtain⟨ad,cap,rfl,c0,h1,h2⟩:=h.len
 clear h
 go_enter Tryz.func143,Tryz.ntmps143
 go_wp2_with fail
 go_ret
 exact⟨rfl,rfl⟩
def vB (E:List En)(n:Int):Bool:=decide (0≤n) && enAt E n.toNat
theorem valid_at (w:World)(B cb:Nat)(O:Nat→Prop)(E:List En)(v:Value)(h:CsAt w B cb O E v)(n:Int) :
  Calls Tryz.prog 131 #[.pointer (some ⟨cb,0,none⟩),.int .i64 n] w fun e w'=>e = .returned (.bool (vB E n))∧w'=w:=by
 have kc:=count_at w B cb O E v h
 by_cases hn:0≤n
 ·by_cases hl:n<(E.length:Int)
  ·obtain⟨j,rfl⟩:∃j:Nat,n=j:=⟨n.toNat,by omega⟩
   have hj:j<E.length:=by omega
   have hex:∃e,E[j]?=some e:=⟨_,List.getElem?_eq_getElem hj⟩
   obtain⟨e,he⟩:=hex
   have hv:vB E (j:Int)=e.ok:=by
    unfold vB enAt
    rw[decide_eq_true hn,Int.toNat_natCast,he]
    rfl
   rw[hv]
   obtain⟨g,cap,rfl,hr⟩:=h.row hj
   have c0:=hr.c0
   have c1:=(hr.at' j e he).1
   have h1:=hr.len
   have h2:=hr.max
   have hlim:(E.length:Int)≤9223372036854775807:=by unfold maxLen at h2;omega
   clear h hr he hv h1 h2
   go_enter Tryz.func131,Tryz.ntmps131
   go_wp2_with fail
   refine kc.mono ?_
   rintro e w2 ⟨rfl,rfl⟩
   clear kc
   go_wp2_with fail
   go_ret
   exact⟨rfl,rfl⟩
  ·have hv:vB E n=false:=by
    unfold vB enAt
    rw[List.getElem?_eq_none (by omega)]
    simp
   rw[hv]
   clear h hv
   go_enter Tryz.func131,Tryz.ntmps131
   go_wp2_with fail
   refine kc.mono ?_
   rintro e w2 ⟨rfl,rfl⟩
   clear kc
   go_wp2_with fail
   go_ret
   exact⟨rfl,rfl⟩
 ·have hv:vB E n=false:=by
   unfold vB
   rw[decide_eq_false hn]
   rfl
  rw[hv]
  clear h hv kc
  go_enter Tryz.func131,Tryz.ntmps131
  go_wp2_with fail
  go_ret
  exact⟨rfl,rfl⟩
theorem lift_none (w:World)(B cb:Nat)(O:Nat→Prop)(E:List En)(v:Value)(h:CsAt w B cb O E v)(j:Nat)(e:En)(he:E[j]?=some e)(h0:e.top=0) :
  Calls Tryz.prog 132 #[.pointer (some ⟨cb,0,none⟩),.int .i64 (j:Int)] w fun ex w'=>ex = .returned (.int .i64 0)∧w'=w:=by
 have hj:j<E.length:=(List.getElem?_eq_some_iff.1 he).1
 obtain⟨g,cap,rfl,hr⟩:=h.row hj
 have c0:=hr.c0
 have c1:=(hr.at' j e he).2.1
 have h1:=hr.len
 have h2:=hr.max
 have hlim:(E.length:Int)≤9223372036854775807:=by unfold maxLen at h2;omega
 have hjl:(j:Int)<E.length:=by omega
 rw[h0] at c1
 clear h hr he h1 h2 h0 hj
 go_enter Tryz.func132,Tryz.ntmps132
 go_wp2_with fail
 go_ret
 exact⟨rfl,rfl⟩
theorem lift_some (w:World)(B cb:Nat)(O:Nat→Prop)(E:List En)(v:Value)(h:CsAt w B cb O E v)(j k:Nat)(e x:En)(he:E[j]?=some e)(ht:e.top=(k:Int))(hk:E[k]?=some x)(h0:0<k) :
  Calls Tryz.prog 132 #[.pointer (some ⟨cb,0,none⟩),.int .i64 (j:Int)] w fun ex w'=>ex = .returned (.int .i64 (k:Int))∧CsAt w' B cb O (E.set j ⟨e.ok,x.bes,e.bes⟩) v∧Chg O w w':=by
 have hj:j<E.length:=(List.getElem?_eq_some_iff.1 he).1
 have hkl:k<E.length:=(List.getElem?_eq_some_iff.1 hk).1
 obtain⟨g,cap,rfl,hr⟩:=h.row hj
 have c0:=hr.c0
 have c1:=(hr.at' j e he).2.1
 have c2:=(hr.at' k x hk).2.2
 have f1:=hr.fr (j*3+1) (by omega)
 have h1:=hr.len
 have h2:=hr.max
 have hlim:(E.length:Int)≤9223372036854775807:=by unfold maxLen at h2;omega
 have hjl:(j:Int)<E.length:=by omega
 have hkl2:(k:Int)<E.length:=by omega
 have HP:Hid (CsAt (w.setCell ⟨g,j*3+1,none⟩ (.int .i64 x.bes)) B cb O (E.set j ⟨e.ok,x.bes,e.bes⟩) (.slice (some ⟨g,0,none⟩) E.length cap)∧Chg O w (w.setCell ⟨g,j*3+1,none⟩ (.int .i64 x.bes))):=⟨h.put he (by omega) rfl,Chg.set w ⟨g,j*3+1,none⟩ _ ((h.os g).2 (Or.inr rfl))⟩
 rw[ht] at c1
 obtain⟨x1,x2,x3⟩:=x
 simp only at *
 have hk0:((k:Int) != 0)=true:=by simp;omega
 clear h hr he h1 h2 h0 hj ht hk hkl
 go_enter Tryz.func132,Tryz.ntmps132
 go_wp2_with fail
 go_region
 all_goals
  go_wp2_with fail
  go_ret
  exact⟨rfl,HP.out.1.below (Below.refl _ _).drew,HP.out.2.drew⟩
def Went (w:World)(B cb:Nat)(O:Nat→Prop)(l:List Cel)(w':World):Prop:=∃O',Cs w' B cb O' l∧Chg O w w'∧∀b,O' b→O b∨w.heap.size≤b
theorem Went.same {w w':World}{B cb:Nat}{O:Nat→Prop}{l:List Cel}(h:Cs w B cb O l)(hb:Below w.heap.size w w'):Went w B cb O l w' :=
 ⟨O,h.below hb,Chg.of_below hb,fun b q=>Or.inl q⟩
def liftE (E:List En)(j:Nat)(e:En):List En:=if e.top=0 then E else E.set j ⟨e.ok,((E[e.top.toNat]?).map En.bes).getD 0,e.bes⟩
theorem lift_any (w:World)(B cb:Nat)(O:Nat→Prop)(E:List En)(v:Value)(h:CsAt w B cb O E v)(l:List Cel)(D:Nat→Bool)(hb:Bk E l D)(j:Nat)(e:En)(he:E[j]?=some e) :
  Calls Tryz.prog 132 #[.pointer (some ⟨cb,0,none⟩),.int .i64 (j:Int)] w fun ex w'=>ex = .returned (.int .i64 e.top)∧CsAt w' B cb O (liftE E j e) v∧Chg O w w':=by
 by_cases h0:e.top=0
 ·refine(lift_none w B cb O E v h j e he h0).mono ?_
  rintro ex w' ⟨rfl,rfl⟩
  unfold liftE
  rw[if_pos h0,h0]
  exact⟨rfl,h,Chg.refl _ _⟩
 ·obtain⟨k,x,k1,k2,_⟩:=bk_lift hb j e he h0
  refine(lift_some w B cb O E v h j k e x he k1 k2 (by omega)).mono ?_
  rintro ex w' ⟨rfl,g1,g2⟩
  unfold liftE
  rw[if_neg h0,k1,Int.toNat_natCast,k2]
  exact⟨rfl,g1,g2⟩
theorem _root_.Go.Proofs.YtahhionlbfhinabGreatDoor.Hp.OwnR.cut {β:Type}{enc:β→List Value}{k:Nat}{e:TypeId}{B:Nat}{w:World}{g n cap:Nat}{xs ys:List β}(hk:∀y,(enc y).length=k)(h:OwnR enc k e B w (.slice (some ⟨g,0,none⟩) n cap) (xs++ys)):OwnR enc k e B w (.slice (some ⟨g,0,none⟩) xs.length cap) xs:=by
 rcases h.2 with⟨h1,h0⟩ | ⟨g',cap',cur,h1,hb,hg,hn,hc,hs,ht⟩
 ·cases h1
 ·cases h1
  rw[List.length_append] at hn ht
  refine⟨flat_len hk xs,Or.inr ⟨g,cap,cur,rfl,hb,hg,by omega,hc,hs,?_⟩⟩
  have h2:(cur.toList.take ((xs.length+ys.length)*k)).take (xs.length*k)=((xs++ys).flatMap enc).take (xs.length*k):=by rw[ht]
  have h3:(xs.flatMap enc).take (xs.length*k)=xs.flatMap enc:=List.take_of_length_le (by rw[flat_len hk];exact Nat.le_refl _)
  rw[List.take_take,List.flatMap_append,List.take_append_of_le_length (by rw[flat_len hk];exact Nat.le_refl _),h3] at h2
  rw[←h2]
  congr 1
  rw[Nat.add_mul]
  omega
theorem _root_.Go.Proofs.YtahhionlbfhinabGreatDoor.Hp.OwnR.last {B:Nat}{w:World}{v:Value}{S:List Nat}{j:Nat}(h:OwnR natC 1 3 B w v (S++[j])):∃g cap,v = .slice (some ⟨g,0,none⟩) (S.length+1) cap∧B≤g∧g<w.heap.size∧w.cell? ⟨g,S.length,none⟩=some (.int .i64 (j:Int))∧S.length+1≤cap∧cap≤maxLen:=by
 rcases h.2 with⟨h1,h0⟩ | ⟨g,cap,cur,rfl,hb,hg,hn,hc,hs,ht⟩
 ·rw[List.length_append] at h0
  simp at h0
 ·rw[List.length_append,List.length_singleton] at hn ht
  refine⟨g,cap,by rw[List.length_append,List.length_singleton],hb,(Array.getElem?_eq_some_iff.1 hg).1,?_,hn,hc⟩
  have hf:=flat_at rtNat.len (S++[j]) S.length j (by simp) 0 _ rfl
  rw[cell_of_row w g _ cur 3 (0,0) hg]
  have e1:(cur.toList.take ((S.length+1)*1))[S.length*1+0]?=some (.int .i64 (j:Int)):=by rw[ht];exact hf
  rw[List.getElem?_take_of_lt (by omega)] at e1
  simpa using e1
structure BrAt (w:World)(B cb:Nat)(O:Nat→Prop)(l:List Cel)(n:Nat)(v:Value)(wx:World)(E:List En)(D:Nat→Bool)(S:List Nat)(s6:Value):Prop where
 pile:Pile E l n D S
 cs:CsAt wx B cb O E v
 chg:Chg O w wx
 stk:OwnR natC 1 3 w.heap.size wx s6 S
structure BiAt (w:World)(B cb:Nat)(O:Nat→Prop)(l:List Cel)(n:Nat)(v:Value)(wx:World)(E:List En)(D:Nat→Bool)(S:List Nat)(j:Nat)(e:En)(s6:Value):Prop where
 pile:Pile E l n D (S++[j])
 ej:E[j]?=some e
 cs:CsAt wx B cb O (liftE E j e) v
 chg:Chg O w wx
 stk:OwnR natC 1 3 w.heap.size wx s6 (S++[j])
theorem BrAt.bound {w:World}{B cb:Nat}{O:Nat→Prop}{l:List Cel}{n:Nat}{v:Value}{wx:World}{E:List En}{D:Nat→Bool}{S:List Nat}{s6:Value}(h:BrAt w B cb O l n v wx E D S s6)(ht:l.length≤top):cntD D l.length≤8796093022208∧S.length≤cntD D l.length:=by
 have:=cntD_le D l.length
 unfold top at ht
 exact⟨by omega,h.pile.len⟩
theorem BrAt.entry {w:World}{B cb:Nat}{O:Nat→Prop}{l:List Cel}{n:Nat}{v:Value}{wx:World}{E:List En}{D:Nat→Bool}{S:List Nat}{j:Nat}{s6:Value}(h:BrAt w B cb O l n v wx E D (S++[j]) s6):∃e,E[j]?=some e:=by
 have h1:=h.pile.on j (by simp)
 have h2:=ok_lt (h.pile.done j h1).1
 exact⟨_,List.getElem?_eq_getElem (by rw[h.pile.bk.len];exact h2)⟩
theorem stk_kept {w wx wy:World}{O:Nat→Prop}{s6:Value}{S:List Nat}(hO:∀b,O b→b<w.heap.size)(h:OwnR natC 1 3 w.heap.size wx s6 S)(hc:Chg O wx wy):OwnR natC 1 3 w.heap.size wy s6 S :=
 h.kept hc (fun b hb q=>by have:=(h.lt b hb).1;have:=hO b q;omega)
theorem BrAt.lift {w:World}{B cb:Nat}{O:Nat→Prop}{l:List Cel}{n:Nat}{v:Value}{wx:World}{E:List En}{D:Nat→Bool}{S:List Nat}{j:Nat}{s6:Value}(hO:∀b,O b→b<w.heap.size)(h:BrAt w B cb O l n v wx E D (S++[j]) s6)(e:En)(he:E[j]?=some e) :
  Calls Tryz.prog 132 #[.pointer (some ⟨cb,0,none⟩),.int .i64 (j:Int)] wx fun ex w'=>ex = .returned (.int .i64 e.top)∧BiAt w B cb O l n v w' E D S j e s6:=by
 refine(lift_any wx B cb O E v h.cs l D h.pile.bk j e he).mono ?_
 rintro ex w' ⟨rfl,g1,g2⟩
 exact⟨rfl,h.pile,he,g1,h.chg.trans g2 (fun _ _ q=>q),stk_kept hO h.stk g2⟩
theorem BiAt.pop {w:World}{B cb:Nat}{O:Nat→Prop}{l:List Cel}{n:Nat}{v:Value}{wx:World}{E:List En}{D:Nat→Bool}{S:List Nat}{j:Nat}{e:En}{g cap:Nat}(h:BiAt w B cb O l n v wx E D S j e (.slice (some ⟨g,0,none⟩) (S.length+1) cap))(h0:e.top=0):BrAt w B cb O l n v wx E D S (.slice (some ⟨g,0,none⟩) S.length cap):=by
 have hc:=h.cs
 unfold liftE at hc
 rw[if_pos h0] at hc
 exact⟨h.pile.pop e h.ej h0,hc,h.chg,h.stk.cut rtNat.len⟩
theorem BiAt.took {w:World}{B cb:Nat}{O:Nat→Prop}{l:List Cel}{n:Nat}{v:Value}{wx:World}{E:List En}{D:Nat→Bool}{S:List Nat}{j:Nat}{e:En}{s6:Value}(h:BiAt w B cb O l n v wx E D S j e s6)(h0:e.top≠0) :
  ∃(k:Nat) (x:En),e.top=(k:Int)∧0<k∧x.bes<(k:Int)∧0≤x.bes∧(liftE E j e)[k]?=some x∧k<l.length ∧
   (x.ok=false→BrAt w B cb O l n v wx (liftE E j e) D (S++[j]) s6∧(liftE E j e)[j]?=some ⟨e.ok,x.bes,e.bes⟩) ∧
   (x.ok=true→D k=false∧okAt l k=true∧Pile ((liftE E j e).set k ⟨false,x.top,x.bes⟩) l n (put D k) (S++[j]++[k])∧cntD (put D k) l.length=cntD D l.length+1):=by
 obtain⟨k,x,k1,k2,k3,k4,k5,k6,k7,k8⟩:=bk_lift h.pile.bk j e h.ej h0
 have hj:=(List.getElem?_eq_some_iff.1 h.ej).1
 have hE:liftE E j e=E.set j ⟨e.ok,x.bes,e.bes⟩:=by
  unfold liftE
  rw[if_neg h0,k1,Int.toNat_natCast,k2]
  rfl
 have hcs:=h.cs
 rw[hE] at hcs
 rw[hE]
 refine⟨k,x,k1,by omega,k4,k5,by rw[List.getElem?_set_ne (fun q=>k6 q.symm)];exact k2,(child_lt k3).1,fun hf => ?_,fun ht => ?_⟩
 ·exact⟨⟨h.pile.skip (k7 hf),hcs,h.chg,h.stk⟩,List.getElem?_set_self hj⟩
 ·obtain⟨a1,a2,a3⟩:=k8 ht
  obtain⟨b1,b2⟩:=h.pile.push (j:=j) (by simp) k3 a1 a2 a3
  exact⟨a1,a2,b1,b2⟩
end Go.Proofs.YtahhionlbfhinabGreatDoor.Ce
