/- HB, HC, HV, PA -/
import Derived.Test.YtahhionlbfhinabGreatDoorProg
import Derived.Maps.OwnSet
import Derived.DeepKeys5
import Derived.Deep.RegionLaw
import Derived.Deep.Cut
import Derived.Deep.LoopGhost
import Derived.StringKeys
import Derived.WalkKit
import Derived.WalkSpells
import Derived.WalkLawsBesides
import Derived.BigQuiet
import Derived.Below
import Derived.Laws.Rows
import Derived.Laws.AppendOwn
import Derived.Deep.AppendLies
import Derived.Deep.DeepAppendWide
import Derived.Deep.RegionHeldLaw
import Derived.LaidMore
import Derived.Lib.RowBridge
import Derived.Maps.AppendAt
import Derived.Test.YtahhionlbfhinabGreatDoorRows
import Derived.ProofKit
import Derived.OpenShut
import Derived.Lib.LaidTab
import Derived.MakeChecks
import Derived.Lay
import Derived.Deep.Slices
import Derived.SizedLaws
set_option linter.unusedVariables false
set_option linter.unusedSimpArgs false
set_option maxRecDepth 100000
set_option maxHeartbeats 40000000
namespace Go.Proofs.YtahhionlbfhinabGreatDoor.Hp
open Go.RowKit
structure Chg (S:Nat→Prop)(w w':World):Prop where
 os:w'.os=w.os
 tape:w'.tape=w.tape
 output:w'.output=w.output
 size:w.heap.size≤w'.heap.size
 block:∀k,k<w.heap.size→¬S k→w'.heap[k]?=w.heap[k]?
theorem Chg.refl (S:Nat→Prop)(w:World):Chg S w w:=⟨rfl,rfl,rfl,Nat.le_refl _,fun _ _ _=>rfl⟩
theorem Chg.trans {S S':Nat→Prop}{a b c:World}(h:Chg S a b)(k:Chg S' b c)(hs:∀i,i<a.heap.size→S' i→S i):Chg S a c :=
 ⟨k.os.trans h.os,k.tape.trans h.tape,k.output.trans h.output,Nat.le_trans h.size k.size,fun i hi hn=>(k.block i (Nat.lt_of_lt_of_le hi h.size) (fun q=>hn (hs i hi q))).trans (h.block i hi hn)⟩
theorem Chg.of_below {S:Nat→Prop}{w w':World}(h:Below w.heap.size w w'):Chg S w w':=⟨h.os,h.tape,h.output,h.size,fun k hk _=>h.block k hk⟩
theorem Chg.of_grown {S:Nat→Prop}{w w':World}{row:Option Nat}(h:w.grownBy w' row)(hr:∀k,row=some k→S k):Chg S w w' :=
 ⟨h.os,h.tape,h.output,h.size,fun k hk hn=>h.block k hk (fun e=>hn (hr k e.symm))⟩
theorem Chg.set {S:Nat→Prop}(w:World)(p:Addr)(v:Value)(hs:S p.block):Chg S w (w.setCell p v) :=
 ⟨rfl,rfl,rfl,by simp,fun k hk hn=>Below.heap_setCell w p v k (fun e=>hn (e ▸ hs))⟩
theorem Chg.cell {S:Nat→Prop}{w w':World}(h:Chg S w w'){a:Addr}{u:Value}(hu:w.cell? a=some u)(hn:¬S a.block):w'.cell? a=some u:=by
 rw[World.cell?_of_block (w:=w) (h.block a.block (World.block_lt_of_cell? w _ hu) hn)]
 exact hu
theorem Chg.below {S:Nat→Prop}{B:Nat}{W w w':World}(h:Chg S w w')(hb:Below B W w)(hB:B≤w.heap.size)(hs:∀k,S k→B≤k):Below B W w' :=
 ⟨h.os.trans hb.os,h.tape.trans hb.tape,h.output.trans hb.output,Nat.le_trans hb.size h.size,fun k hk=>(h.block k (by omega) (fun q=>by have:=hs k q;omega)).trans (hb.block k hk)⟩
theorem Chg.mono {S S':Nat→Prop}{w w':World}(h:Chg S w w')(hs:∀k,S k→S' k):Chg S' w w':=⟨h.os,h.tape,h.output,h.size,fun k hk hn=>h.block k hk (fun q=>hn (hs k q))⟩
theorem Chg.drew {S:Nat→Prop}{w w':World}(h:Chg S w w'):Chg S w w'.drew:=⟨h.os,h.tape,h.output,h.size,h.block⟩
theorem below_new {B:Nat}{w w':World}(h:Below B w w')(hB:B≤w'.heap.size)(o:Obj):Below B w (w'.alloc o):=h.alloc hB o
theorem grown_undrew {w w':World}{row:Option Nat}(h:w.drew.grownBy w' row):w.grownBy w' row:=⟨h.1,h.2,h.3,h.4,h.5⟩
theorem below_grown {w w':World}(h:w.grownBy w' none):Below w.heap.size w w':=⟨h.os,h.tape,h.output,h.size,fun k hk=>h.block k hk (by simp)⟩
theorem cells_below {w w':World}(h:Below w.heap.size w w'):∀a u,w.cell? a=some u→w'.cell? a=some u:=by
 intro a u hu
 rw[h.cell (World.block_lt_of_cell? w _ hu)]
 exact hu
theorem size_new (w:World)(o:Obj):(w.alloc o).heap.size=w.heap.size+1:=by
 show(w.heap.push o).size=_
 exact Array.size_push _
theorem at_new (w:World)(o:Obj):(w.alloc o).heap[w.heap.size]?=some o:=by
 show(w.heap.push o)[w.heap.size]?=some o
 exact Array.getElem?_push_size
theorem at_old (w:World)(o:Obj)(b:Nat)(o':Obj)(h:w.heap[b]?=some o'):(w.alloc o).heap[b]?=some o':=by
 show(w.heap.push o)[b]?=some o'
 rw[Array.getElem?_push]
 have:=(Array.getElem?_eq_some_iff.1 h).1
 rw[if_neg (by omega)]
 exact h
theorem box_new (w:World)(cs:Array Value)(t:TypeId)(j:Nat)(u:Value)(h:cs[j]?=some u):(w.alloc (.cells cs t)).cell? ⟨w.heap.size,j,none⟩=some u:=by
 rw[cell_of_row _ w.heap.size j cs t (0,0) (at_new w _)]
 exact h
structure Sli (β:Type) where
 at':Option Addr
 cap:Nat
 xs:List β
def Sli.val {β:Type}(s:Sli β):Value := .slice s.at' s.xs.length s.cap
structure Sli.ok {β:Type}(enc:β→List Value)(k:Nat)(w:World)(s:Sli β):Prop where
 len:s.xs.length≤s.cap
 cap:s.cap≤maxLen
 cells:s.xs≠[]→∃b off,s.at'=some ⟨b,off,none⟩∧∀(i:Nat) (y:β),s.xs[i]?=some y→∀(j:Nat) (u:Value),(enc y)[j]?=some u→w.cell? ⟨b,off+i*k+j,none⟩=some u
theorem Sli.ok.kept {β:Type}{enc:β→List Value}{k:Nat}{w w':World}{s:Sli β}(h:s.ok enc k w)(hc:∀a u,w.cell? a=some u→w'.cell? a=some u):s.ok enc k w':=by
 refine⟨h.len,h.cap,fun h0 => ?_⟩
 obtain⟨b,off,h1,h2⟩:=h.cells h0
 exact⟨b,off,h1,fun i y hi j u hj=>hc _ _ (h2 i y hi j u hj)⟩
section
variable {β:Type}{enc:β→List Value}{k:Nat}
theorem flat_at (hk:∀y,(enc y).length=k):∀(xs:List β)(i:Nat)(g:β),xs[i]?=some g→∀(j:Nat)(u:Value),(enc g)[j]?=some u→(xs.flatMap enc)[i*k+j]?=some u
 | [],i,g,h,_,_,_=>by simp at h
 | x :: xs,0,g,h,j,u,hj=>by
   simp at h
   subst h
   have jl:j<(enc x).length:=(List.getElem?_eq_some_iff.1 hj).1
   rw[List.flatMap_cons,Nat.zero_mul,Nat.zero_add,List.getElem?_append_left jl]
   exact hj
 | x :: xs,i+1,g,h,j,u,hj=>by
   rw[List.flatMap_cons,List.getElem?_append_right (by rw[hk x,Nat.succ_mul];omega)]
   have:=flat_at hk xs i g (by simpa using h) j u hj
   rw[←this,hk x]
   congr 1
   rw[Nat.succ_mul]
   omega
theorem flat_len (hk:∀y,(enc y).length=k):∀xs:List β,(xs.flatMap enc).length=xs.length*k
 | []=>by simp
 | x :: xs=>by
   rw[List.flatMap_cons,List.length_append,flat_len hk xs,List.length_cons,hk x,Nat.succ_mul]
   omega
theorem flat_back (hk:∀y,(enc y).length=k):∀(xs:List β)(n:Nat)(u:Value),(xs.flatMap enc)[n]?=some u→∃(i j:Nat)(g:β),xs[i]?=some g∧(enc g)[j]?=some u∧n=i*k+j
 | [],n,u,h=>by simp at h
 | x :: xs,n,u,h=>by
   rw[List.flatMap_cons] at h
   rcases Nat.lt_or_ge n k with c | c
   ·rw[List.getElem?_append_left (by rw[hk x];exact c)] at h
    exact⟨0,n,x,rfl,h,by omega⟩
   ·rw[List.getElem?_append_right (by rw[hk x];exact c),hk x] at h
    obtain⟨i,j,g,h1,h2,h3⟩:=flat_back hk xs (n - k) u h
    exact⟨i+1,j,g,by simpa using h1,h2,by rw[Nat.succ_mul];omega⟩
def OwnR (enc:β→List Value)(k:Nat)(e:TypeId)(B:Nat)(w:World)(v:Value)(xs:List β):Prop:=w.ownsRow B e k v xs.length (xs.flatMap enc)
variable {e:TypeId}{B:Nat}{w w':World}{v:Value}{xs:List β}
theorem OwnR.nil (B:Nat)(w:World):OwnR enc k e B w (.slice none 0 0) []:=⟨by simp,Or.inl ⟨rfl,rfl⟩⟩
theorem OwnR.lt (h:OwnR enc k e B w v xs):∀b,v.ownBlock=some b→B≤b∧b<w.heap.size:=by
 intro b hk
 rcases h.2 with⟨rfl,_⟩ | ⟨g,cap,cur,rfl,hb,hg,_⟩
 ·simp[Value.ownBlock] at hk
 ·simp[Value.ownBlock] at hk
  subst hk
  exact⟨hb,(Array.getElem?_eq_some_iff.1 hg).1⟩
theorem OwnR.kept {S:Nat→Prop}(h:OwnR enc k e B w v xs)(hb:Chg S w w')(hs:∀b,v.ownBlock=some b→¬S b):OwnR enc k e B w' v xs:=by
 have hl:=h.lt
 rcases h.2 with⟨rfl,h0⟩ | ⟨g,cap,cur,rfl,hbg,hg,h3⟩
 ·exact⟨h.1,Or.inl ⟨rfl,h0⟩⟩
 ·exact⟨h.1,Or.inr ⟨g,cap,cur,rfl,hbg,by rw[hb.block g (hl g rfl).2 (hs g rfl)];exact hg,h3⟩⟩
theorem OwnR.below (h:OwnR enc k e B w v xs)(hb:Below w.heap.size w w'):OwnR enc k e B w' v xs:=h.kept (S:=fun _=>False) (Chg.of_below hb) (fun _ _ q=>q)
theorem OwnR.low {B':Nat}(h:OwnR enc k e B w v xs)(hB:B'≤B):OwnR enc k e B' w v xs:=by
 refine⟨h.1,?_⟩
 rcases h.2 with h0 | ⟨g,cap,cur,h1,hb,h2⟩
 ·exact Or.inl h0
 ·exact Or.inr ⟨g,cap,cur,h1,by omega,h2⟩
theorem OwnR.sl (hk:∀y,(enc y).length=k)(h:OwnR enc k e B w v xs):∃s:Sli β,v=s.val∧s.xs=xs∧s.ok enc k w∧(∀b off,s.at'=some ⟨b,off,none⟩→v.ownBlock=some b):=by
 rcases h.2 with⟨rfl,hn⟩ | ⟨g,cap,cur,rfl,hb,hg,hnc,hcm,hcs,ht⟩
 ·have:=List.length_eq_zero_iff.1 hn
  subst this
  exact⟨⟨none,0,[]⟩,rfl,rfl,⟨Nat.le_refl _,Nat.zero_le _,fun h=>absurd rfl h⟩,fun b off q=>by cases q⟩
 ·refine⟨⟨some ⟨g,0,none⟩,cap,xs⟩,rfl,rfl,⟨hnc,hcm,fun h0=>⟨g,0,rfl,?_⟩⟩,fun b off q=>by cases q;rfl⟩
  intro i y hi j u hj
  have hf:=flat_at hk xs i y hi j u hj
  rw[cell_of_row w g _ cur e (0,0) hg,Nat.zero_add]
  have hl:=(List.getElem?_eq_some_iff.1 hf).1
  rw[flat_len hk] at hl
  have e:(cur.toList.take (xs.length*k))[i*k+j]?=some u:=by rw[ht];exact hf
  rw[List.getElem?_take_of_lt hl] at e
  simpa using e
theorem OwnR.set (h:OwnR enc k e B w v xs){a:Addr}(ha:∀b,v.ownBlock=some b→b≠a.block)(u:Value):OwnR enc k e B (w.setCell a u) v xs :=
 h.kept (S:=fun b=>b=a.block) (Chg.set w a u rfl) ha
theorem info_parts {P:Program}{t:TypeId}{z:Value}{s b:Nat}(h:(P.info? t).map (fun i=>(i.zero,i.size,i.bytes))=some (some z,s,b)):∃i,P.info? t=some i∧i.zero=some z∧i.size=s∧i.bytes=b:=by
 obtain⟨i,hi,h2⟩:=Option.map_eq_some_iff.1 h
 simp only[Prod.mk.injEq] at h2
 exact⟨i,hi,h2.1,h2.2.1,h2.2.2⟩
theorem news_of {b off:Nat}{ys:List β}(hk:∀y,(enc y).length=k)(hg:∀(i:Nat)(y:β),ys[i]?=some y→∀(j:Nat)(u:Value),(enc y)[j]?=some u→w.cell? ⟨b,off+i*k+j,none⟩=some u) :
  ∀(j:Nat) (u:Value),(ys.flatMap enc)[j]?=some u→w.cell? ((⟨b,off,none⟩:Addr).add j)=some u:=by
 intro n u hn
 obtain⟨i,j,g,h1,h2,rfl⟩:=flat_back hk ys n u hn
 have:=hg i g h1 j u h2
 rw[Nat.add_assoc] at this
 generalize i*k+j=q at *
 by_cases c:q=0
 ·subst c;simpa [Addr.add] using this
 ·simpa [Addr.add,c] using this
end
theorem take_at {α:Type}(l:List α)(k:Nat)(y:α)(h:l[k]?=some y):l.take (k+1)=l.take k++[y]:=by
 rw[List.take_add_one,h]
 rfl
theorem B2 (w:World)(o1 o2:Obj):Below w.heap.size w ((w.alloc o1).alloc o2):=below_new (below_new (Below.refl _ _) (Nat.le_refl _) _) (by rw[size_new];omega) _
theorem at_two (w:World)(o1 o2:Obj):((w.alloc o1).alloc o2).heap[w.heap.size+1]?=some o2:=by
 have:=at_new (w.alloc o1) o2
 rw[size_new] at this
 exact this
structure RT {β:Type}(enc:β→List Value)(t e:TypeId)(k bytes:Nat):Prop where
 len:∀y,(enc y).length=k
 und:Tryz.prog.underlying t=some (.slice e)
 inf:∃i z,Tryz.prog.info? e=some i∧i.zero=some z∧i.size=k∧i.bytes=bytes∧z.cells.size=k
 pos:0<k
 one:∀y,∀u∈enc y,u.oneCell'=true
theorem rt_inf {t:TypeId}{z:Value}{s b:Nat}(h:(Tryz.prog.info? t).map (fun i=>(i.zero,i.size,i.bytes))=some (some z,s,b))(hz:z.cells.size=s):∃i z,Tryz.prog.info? t=some i∧i.zero=some z∧i.size=s∧i.bytes=b∧z.cells.size=s:=by
 obtain⟨i,h1,h2,h3,h4⟩:=info_parts h
 exact⟨i,z,h1,h2,h3,h4,hz⟩
section
variable {β:Type}{enc:β→List Value}{t e:TypeId}{k bytes:Nat}
theorem one_sli (R:RT enc t e k bytes){w:World}{cb:Nat}{y:β}{cs:Array Value}{t':TypeId}(h:w.heap[cb]?=some (.cells cs t' (0,0)))(hc:cs.toList=enc y):Sli.ok enc k w ⟨some ⟨cb,0,none⟩,1,[y]⟩:=by
 refine⟨Nat.le_refl _,by show(1:Nat)≤2 ^ 63 - 1;decide,fun _=>⟨cb,0,rfl,fun i z hi j u hj => ?_⟩⟩
 cases i with
 | zero =>
   simp at hi
   subst hi
   rw[cell_of_row w cb _ cs t' (0,0) h]
   rw[show 0+0*k+j=j by omega,←hj,←hc]
   simp
 | succ i=>simp at hi
theorem app_zero (R:RT enc t e k bytes){w:World}{B:Nat}{v:Value}{xs:List β}(h:OwnR enc k e B w v xs)(ka:Option Addr)(kc:Nat)(ty:TypeId):(Builtin.append_ #[t,t] ty #[v,.slice ka 0 kc]).run Tryz.prog w = .ok v w:=by
 obtain⟨i,z,hi,_⟩:=R.inf
 rcases h.2 with⟨rfl,h0⟩ | ⟨g,cap,cur,rfl,hb,hg,hn,hc,hs,ht⟩
 ·cases ka with
  | none=>simp[Builtin.append_,run_underlying R.und,sizeOf,typeInfo,hi,Builtin.lenOf,Builtin.firstCells]
  | some a=>simp[Builtin.append_,run_underlying R.und,sizeOf,typeInfo,hi,Builtin.lenOf,Builtin.firstCells,loadCells,loadCellsFrom]
 ·cases ka with
  | none=>simp[Builtin.append_,run_underlying R.und,sizeOf,typeInfo,hi,Builtin.lenOf,Builtin.firstCells,storeCells,hn]
  | some a=>simp[Builtin.append_,run_underlying R.und,sizeOf,typeInfo,hi,Builtin.lenOf,Builtin.firstCells,storeCells,loadCells,loadCellsFrom,hn]
theorem run_app (R:RT enc t e k bytes){w:World}{B:Nat}{v:Value}{xs:List β}(hown:OwnR enc k e B w v xs)(ad:Addr)(m c:Nat)(ty:TypeId)(news:List Value)(hl:news.length=m*k)(hnews:∀j u,news[j]?=some u→w.cell? (ad.add j)=some u)(h1:∀u∈news,u.oneCell'=true)(hm0:0<m)
  (hm:xs.length+m≤maxLen) (hb:((xs.length+m)+(xs.length+m) / 4+192)*bytes≤281474976710656) (hB:B≤w.heap.size) :
  ∃v' w',(Builtin.append_ #[t,t] ty #[v,.slice (some ad) m c]).run Tryz.prog w = .ok v' w'∧w'.ownsRow B e k v' (xs.length+m) (xs.flatMap enc++news)∧w.grownBy w' v.ownBlock∧(v'.ownBlock=v.ownBlock∨v'.ownBlock=some w.heap.size):=by
 obtain⟨i,z,hi,hz,e1,e2,e3⟩:=R.inf
 have hsmall:xs.length+m≤9223372036854775807:=by simp only[maxLen] at hm;omega
 obtain⟨v',w',hr,h2,h3,h4⟩:=run_append_own_wide (P:=Tryz.prog) w B t ty e i z k bytes R.und hi hz e1 e2 e3 R.pos v xs.length (xs.flatMap enc) hown ad m c news hl hnews h1 hm hb hB
 refine⟨v',w',hr,h2,h3,?_⟩
 subst e1
 subst e2
 rcases hown.2 with⟨rfl,h0⟩ | ⟨g,cap,cur,rfl,hbg,hg,hnc,hcm,hcs,htake⟩
 ·have hx:xs=[]:=List.eq_nil_of_length_eq_zero h0
  subst hx
  have hb':m*i.bytes≤281474976710656:=Nat.le_trans (Nat.mul_le_mul_right _ (by simp only[List.length_nil];omega)) hb
  have hr2:=run_append_nil (P:=Tryz.prog) w t ty e i z R.und hi hz ad m c news hl hnews (by omega) (by simp only[List.length_nil] at hsmall;omega) hb'
  rw[hr2] at hr
  injection hr with hr _
  exact Or.inr (by rw[←hr];rfl)
 ·by_cases hroom:xs.length+m≤cap
  ·have hfit:xs.length*i.size+news.length≤cur.size:=by rw[hl,hcs,←Nat.add_mul];exact Nat.mul_le_mul_right _ hroom
   have hr2:=run_append_room (P:=Tryz.prog) w t ty e i R.und hi g xs.length cap cur hg ad m c news hl hnews h1 hroom hfit
   rw[hr2] at hr
   injection hr with hr _
   exact Or.inl (by rw[←hr];rfl)
  ·have hr2:=run_append_grow (P:=Tryz.prog) w t ty e i z R.und hi hz ⟨g,0,none⟩ xs.length cap (xs.flatMap enc) hown.1 (World.ownsRow.cells hown (g:=g) rfl) ad m c news hl hnews (by omega) (by omega) (growslice_fits_wide (by omega) hb)
   rw[hr2] at hr
   injection hr with hr _
   exact Or.inr (by rw[←hr];rfl)
theorem app_row (R:RT enc t e k bytes){w:World}{ops:Array Oper}{rest:List Oper}{o:Oper}{a:Act}{Q:Exit→Act→World→Prop}(hgd:o.guard=none)(s x:Operand)
  (ho:o.op = .call { callee := .builtin .append,args:=#[s,x],argTypes:=#[t,t] })
  (B:Nat) (v:Value) (xs:List β) (hs:a.eval s=v) (hown:OwnR enc k e B w v xs) (sl:Sli β) (hx:a.eval x=sl.val) (hok:sl.ok enc k w)
  (hm:xs.length+sl.xs.length≤maxLen) (hb:((xs.length+sl.xs.length)+(xs.length+sl.xs.length) / 4+192)*bytes≤281474976710656) (hB:B≤w.heap.size)
  (h:∀v' w',OwnR enc k e B w' v' (xs++sl.xs)→w.grownBy w' v.ownBlock→(v'.ownBlock=v.ownBlock∨v'.ownBlock=some w.heap.size)→wpList Tryz.prog ops Q rest (a.put o.dst v') w'):wpList Tryz.prog ops Q (o :: rest) a w:=by
 by_cases c:sl.xs=[]
 ·have hr:=app_zero R hown sl.at' sl.cap o.type
  refine wpList_plain hgd fun K hK => ?_
  have hx2:a.eval x = .slice sl.at' 0 sl.cap:=by rw[hx];unfold Sli.val;rw[c];rfl
  unfold Oper.wp execOp
  simp only[ho,resolve,invoke,builtin,Sem.run_bind,Sem.run_pure,Result.andThen_ok,List.map_toArray,List.map_cons,List.map_nil,hs,hx2,hr]
  refine hK _ _ (h _ _ ?_ ⟨rfl,rfl,rfl,Nat.le_refl _,fun _ _ _=>rfl⟩ (Or.inl rfl))
  rw[c,List.append_nil]
  exact hown
 ·obtain⟨b,off,e1,hc⟩:=hok.cells c
  have hlp:0<sl.xs.length:=by
   rcases Nat.eq_zero_or_pos sl.xs.length with q | q
   ·exact absurd (List.eq_nil_of_length_eq_zero q) c
   ·exact q
  obtain⟨v',w',hr,g1,g2,g3⟩:=run_app R hown ⟨b,off,none⟩ sl.xs.length sl.cap o.type (sl.xs.flatMap enc) (flat_len R.len _) (news_of R.len hc) (fun u hu=>by obtain⟨g,g1,g2⟩:=List.mem_flatMap.1 hu;exact R.one g u g2) hlp hm hb hB
  refine wpList_plain hgd fun K hK => ?_
  have hx2:a.eval x = .slice (some ⟨b,off,none⟩) sl.xs.length sl.cap:=by rw[hx];unfold Sli.val;rw[e1]
  unfold Oper.wp execOp
  simp only[ho,resolve,invoke,builtin,Sem.run_bind,Sem.run_pure,Result.andThen_ok,List.map_toArray,List.map_cons,List.map_nil,hs,hx2,hr]
  refine hK _ _ (h v' w' ?_ g2 g3)
  unfold OwnR
  rw[List.length_append,List.flatMap_append]
  exact g1
theorem step_row (R:RT enc t e k bytes){W:World}{ops:Array Oper}{o:Oper}{a:Act}{K:Act→World→Prop}{Q:Exit→Act→World→Prop}{E:Prop}(hgd:o.guard=none)(s x:Operand)
  (ho:o.op = .call { callee := .builtin .append,args:=#[s,x],argTypes:=#[t,t] })
  (B:Nat) (v:Value) (xs:List β) (hs:a.eval s=v) (hown:OwnR enc k e B W v xs) (cb:Nat) (y:β) (cs:Array Value) (t':TypeId) (hx:a.eval x = .slice (some ⟨cb,0,none⟩) 1 1) (hcb:W.heap[cb]?=some (.cells cs t' (0,0))) (hcs:cs.toList=enc y)
  (hm:xs.length+1≤maxLen) (hb:((xs.length+1)+(xs.length+1) / 4+192)*bytes≤281474976710656) (hB:B≤W.heap.size)
  (h:∀g cap w',OwnR enc k e B w' (.slice (some ⟨g,0,none⟩) (xs.length+1) cap) (xs++[y])→W.grownBy w' v.ownBlock→(v.ownBlock=some g∨g=W.heap.size)→K (a.put o.dst (.slice (some ⟨g,0,none⟩) (xs.length+1) cap)) w') :
  if Region.wanted o (yielded ops a.tmps)=true then Oper.wp Tryz.prog o a W K Q else E:=by
 have hw:Region.wanted o (yielded ops a.tmps)=true:=by simp[Region.wanted,hgd]
 rw[if_pos hw]
 have hn:∀j u,(enc y)[j]?=some u→W.cell? ((⟨cb,0,none⟩:Addr).add j)=some u:=by
  rw[←hcs]
  exact World.news_of_block (cs:=cs) (t:=t') (fr:=(0,0)) hcb
 obtain⟨v',w',hr,g1,g2,g3⟩:=run_app R hown ⟨cb,0,none⟩ 1 1 o.type (enc y) (by rw[R.len,Nat.one_mul]) hn (R.one y) (by decide) hm hb hB
 obtain⟨g,cap,rfl,_,_⟩:=g1.form (by omega)
 unfold Oper.wp execOp
 simp only[ho,resolve,invoke,builtin,Sem.run_bind,Sem.run_pure,Result.andThen_ok,List.map_toArray,List.map_cons,List.map_nil,hs,hx,hr]
 refine h g cap w' ?_ g2 ?_
 ·unfold OwnR
  rw[List.length_append,List.flatMap_append]
  have:[y].flatMap enc=enc y:=by simp
  rw[this]
  exact g1
 ·rcases g3 with q | q
  ·exact Or.inl (by rw[←q];rfl)
  ·exact Or.inr (by simpa [Value.ownBlock] using q)
theorem empty_own {w:World}{B g:Nat}(hg:w.heap[g]?=some (.cells #[] e (0,0)))(hb:B≤g):OwnR enc k e B w (.slice (some ⟨g,0,none⟩) 0 0) []:=by
 refine⟨?_,Or.inr ⟨g,0,#[],rfl,hb,hg,Nat.le_refl _,Nat.zero_le _,?_,?_⟩⟩ <;> simp
end
end Go.Proofs.YtahhionlbfhinabGreatDoor.Hp
namespace Go.Proofs.YtahhionlbfhinabGreatDoor.Hp
open Go.RowKit Go.ChangeShapes Go.WideShapes
section
variable {H:Type}{enc:TypeId×Value→H}{w:World}{base:Nat}{spare:Nat→Bool}{held:Bool}
theorem open_str {fuel:Nat}{cs:List Value}{x:DataW H×List MemPlace}(h:DataW.trod enc Tryz.prog w base spare held fuel 9 cs=some x):∃y:ByteArray,cs=[.string y]∧y.size≤maxLen:=by
 obtain⟨z,e1,_,e3⟩:=DataW.trod_string Tryz.underlying9 h
 exact⟨z,e1,e3⟩
theorem open_int {fuel:Nat}{cs:List Value}{x:DataW H×List MemPlace}(h:DataW.trod enc Tryz.prog w base spare held fuel 3 cs=some x):∃y:Int,cs=[.int .i64 y]∧(-9223372036854775808≤y∧y≤9223372036854775807):=by
 obtain⟨z,e1,_,e3⟩:=DataW.trod_int Tryz.underlying3 h
 unfold Lit.wf at e3
 rw[Bool.and_eq_true] at e3
 exact⟨z,e1,of_decide_eq_true e3.1,of_decide_eq_true e3.2⟩
theorem open_word {fuel:Nat}{cs:List Value}{x:DataW H×List MemPlace}(h:DataW.trod enc Tryz.prog w base spare held fuel 24 cs=some x):∃y:Int,cs=[.int .u64 y]∧(0≤y∧y<18446744073709551616):=by
 obtain⟨z,e1,_,e3⟩:=DataW.trod_int Tryz.underlying24 h
 unfold Lit.wf at e3
 rw[Bool.and_eq_true] at e3
 have h1:(0:Int)≤z:=of_decide_eq_true e3.1
 have h2:z≤18446744073709551615:=of_decide_eq_true e3.2
 exact⟨z,e1,h1,by omega⟩
end
end Go.Proofs.YtahhionlbfhinabGreatDoor.Hp
namespace Go.Proofs.YtahhionlbfhinabGreatDoor.Sp
structure Sh where
 pr:Int
 ks:List ByteArray
 fs:List Int
 st:List (Bool×ByteArray×Int)
structure Ly where
 kd:Nat
 pr:Int
 fr:Nat
 ke:ByteArray
 fl:Int
 sl:Nat
 sz:Nat
def hit (L:List Sh)(s:Sh):Option Nat:=L.findIdx? (fun x=>decide (x.pr=s.pr∧x.st=s.st))
def layD (most:Int)(L:List Sh)(s:Sh):List Sh×Int×Bool :=
 match hit L s with
 | some i=>(L,(i:Int),true)
 | none=>if most≤L.length then (L,0,false) else (L++[s],(L.length:Int),true)
def shOf (L:List Sh)(n:Int):Option Sh:=if 0≤n then L[n.toNat]? else none
def idx (ks:List ByteArray)(k:ByteArray):Option Nat:=ks.findIdx? (fun x=>decide (x=k))
def grow (s:Sh)(k:ByteArray)(f:Int):Sh:=⟨s.pr,s.ks++[k],s.fs++[f],s.st++[(false,k,f)]⟩
def chg (s:Sh)(i:Nat)(k:ByteArray)(f:Int):Sh:=⟨s.pr,s.ks,s.fs.set i f,s.st++[(true,k,f)]⟩
def rootD (most:Int)(L:List Sh)(p:Int):List Sh×Int×Bool:=layD most L ⟨p,[],[],[]⟩
def addD (most:Int)(L:List Sh)(n:Int)(k:ByteArray)(f:Int):List Sh×Int×Bool :=
 match shOf L n with
 | none=>(L,0,false)
 | some s=>match idx s.ks k with
   | some _=>(L,0,false)
   | none=>layD most L (grow s k f)
def changeD (most:Int)(L:List Sh)(n:Int)(k:ByteArray)(f:Int):List Sh×Int×Bool :=
 match shOf L n with
 | none=>(L,0,false)
 | some s=>match idx s.ks k with
   | none=>(L,0,false)
   | some i=>if s.fs[i]?=some f then (L,n,true) else layD most L (chg s i k f)
def movD (most:Int):List (ByteArray×Int)→List Sh×Int×Bool→List Sh×Int×Bool
 | [],r=>r
 | x :: l,r=>if r.2.2 then movD most l (addD most r.1 r.2.1 x.1 x.2) else r
def moveD (most:Int)(L:List Sh)(n:Int)(p:Int):List Sh×Int×Bool :=
 match shOf L n with
 | none=>(L,0,false)
 | some s=>movD most (s.ks.zip s.fs) (rootD most L p)
def Pair (L:List Sh)(n:Nat)(l:Ly)(s:Sh):Prop :=
 (l=⟨0,s.pr,0,ByteArray.empty,0,0,0⟩∧s=⟨s.pr,[],[],[]⟩) ∨
 (∃q,l.fr<n∧L[l.fr]?=some q∧l.kd=1∧l.pr=q.pr∧l.sl=q.ks.length∧l.sz=q.ks.length+1∧idx q.ks l.ke=none∧s=grow q l.ke l.fl) ∨
 (∃q,l.fr<n∧L[l.fr]?=some q∧l.kd=2∧l.pr=q.pr∧idx q.ks l.ke=some l.sl∧l.sz=q.ks.length∧s=chg q l.sl l.ke l.fl)
structure Rel (T:List Ly)(L:List Sh):Prop where
 len:T.length=L.length
 pair:∀(i:Nat) (l:Ly) (s:Sh),T[i]?=some l→L[i]?=some s→Pair L i l s
 once:∀(i j:Nat) (a b:Sh),L[i]?=some a→L[j]?=some b→a.pr=b.pr→a.st=b.st→i=j
theorem idx_some {ks:List ByteArray}{k:ByteArray}{i:Nat}(h:idx ks k=some i):ks[i]?=some k∧∀j,j<i→ks[j]?≠some k:=by
 unfold idx at h
 rw[List.findIdx?_eq_some_iff_getElem] at h
 obtain⟨h1,h2,h3⟩:=h
 refine⟨by rw[List.getElem?_eq_getElem h1];simpa using h2,fun j hj e => ?_⟩
 have:=h3 j hj
 rw[List.getElem?_eq_getElem (by omega)] at e
 simp at this
 exact this (Option.some.inj e)
theorem idx_none {ks:List ByteArray}{k:ByteArray}(h:idx ks k=none):∀j:Nat,ks[j]?≠some k:=by
 intro j e
 unfold idx at h
 rw[List.findIdx?_eq_none_iff] at h
 have:=h k (List.mem_of_getElem? e)
 simp at this
theorem idx_of {ks:List ByteArray}{k:ByteArray}{i:Nat}(h1:ks[i]?=some k)(h2:∀j,j<i→ks[j]?≠some k):idx ks k=some i:=by
 cases h:idx ks k with
 | none=>exact absurd h1 (idx_none h i)
 | some j =>
   obtain⟨a,b⟩:=idx_some h
   rcases Nat.lt_trichotomy i j with c | c | c
   ·exact absurd h1 (b i c)
   ·rw[c]
   ·exact absurd a (h2 j c)
theorem idx_no {ks:List ByteArray}{k:ByteArray}(h:∀j:Nat,ks[j]?≠some k):idx ks k=none:=by
 cases e:idx ks k with
 | none=>rfl
 | some j=>exact absurd (idx_some e).1 (h j)
theorem idx_lt {ks:List ByteArray}{k:ByteArray}{i:Nat}(h:idx ks k=some i):i<ks.length:=by
 have:=(idx_some h).1
 exact(List.getElem?_eq_some_iff.1 this).1
theorem idx_push (ks:List ByteArray)(x k:ByteArray):idx (ks++[x]) k=match idx ks k with
  | some i=>some i
  | none=>if x=k then some ks.length else none:=by
 cases h:idx ks k with
 | some i =>
   obtain⟨a,b⟩:=idx_some h
   have hl:=idx_lt h
   refine idx_of (by rw[List.getElem?_append_left hl];exact a) (fun j hj=>by rw[List.getElem?_append_left (by omega)];exact b j hj)
 | none =>
   have hn:=idx_none h
   simp only
   split
   ·rename_i e
    subst e
    refine idx_of (by rw[List.getElem?_append_right (Nat.le_refl _)];simp) (fun j hj=>by rw[List.getElem?_append_left hj];exact hn j)
   ·rename_i e
    refine idx_no (fun j hj => ?_)
    rcases Nat.lt_or_ge j ks.length with c | c
    ·rw[List.getElem?_append_left c] at hj
     exact hn j hj
    ·rw[List.getElem?_append_right c,List.getElem?_singleton] at hj
     split at hj
     ·exact e (Option.some.inj hj)
     ·cases hj
structure Fine (s:Sh)(n:Nat):Prop where
 fl:s.fs.length=s.ks.length
 kl:s.ks.length≤n
 sl:s.st.length≤n
 own:∀(j:Nat) (k:ByteArray),s.ks[j]?=some k→idx s.ks k=some j
theorem pair_fine {L:List Sh}{n:Nat}{l:Ly}{s:Sh}(h:Pair L n l s)(ih:∀j q,j<n→L[j]?=some q→Fine q j):Fine s n∧l.sz=s.ks.length:=by
 rcases h with⟨rfl,h2⟩ | ⟨q,h1,h2,_,_,_,hz,h5,rfl⟩ | ⟨q,h1,h2,_,_,h5,hz,rfl⟩
 ·rw[h2]
  exact⟨⟨rfl,Nat.zero_le _,Nat.zero_le _,fun j k h=>by simp at h⟩,rfl⟩
 ·obtain⟨a,b,c,d⟩:=ih _ _ h1 h2
  refine⟨⟨by simp[grow,a],by simp[grow];omega,by simp[grow];omega,?_⟩,by simp[grow,hz]⟩
  intro j k h
  unfold grow at h ⊢
  simp only at h ⊢
  rw[idx_push]
  rcases Nat.lt_or_ge j q.ks.length with e | e
  ·rw[List.getElem?_append_left e] at h
   rw[d j k h]
  ·rw[List.getElem?_append_right e,List.getElem?_singleton] at h
   split at h
   ·have:l.ke=k:=Option.some.inj h
    subst this
    rw[h5]
    simp
    omega
   ·cases h
 ·obtain⟨a,b,c,d⟩:=ih _ _ h1 h2
  refine⟨⟨by simp[chg,a],by simp only[chg];omega,by simp[chg];omega,d⟩,by simp[chg,hz]⟩
theorem Rel.fine {T:List Ly}{L:List Sh}(h:Rel T L):∀n j s,j<n→L[j]?=some s→Fine s j
 | 0,j,s,hj,_=>by omega
 | n+1,j,s,hj,hs=>by
   have hl:j<T.length:=by rw[h.len];exact(List.getElem?_eq_some_iff.1 hs).1
   have hp:=h.pair j _ s (List.getElem?_eq_getElem hl) hs
   exact(pair_fine hp (fun i q hi hq=>Rel.fine h n i q (by omega) hq)).1
theorem Rel.fin {T:List Ly}{L:List Sh}(h:Rel T L){j:Nat}{s:Sh}(hs:L[j]?=some s):Fine s j:=h.fine (j+1) j s (by omega) hs
theorem Rel.at' {T:List Ly}{L:List Sh}(h:Rel T L){j:Nat}{s:Sh}(hs:L[j]?=some s):∃l,T[j]?=some l∧Pair L j l s∧l.sz=s.ks.length∧j<T.length:=by
 have hl:j<T.length:=by rw[h.len];exact(List.getElem?_eq_some_iff.1 hs).1
 have hp:=h.pair j _ s (List.getElem?_eq_getElem hl) hs
 exact⟨_,List.getElem?_eq_getElem hl,hp,(pair_fine hp (fun i q _ hq=>h.fin hq)).2,hl⟩
def sameStep (x l:Ly):Prop:=x.kd=l.kd∧x.pr=l.pr∧x.fr=l.fr∧x.ke=l.ke∧x.fl=l.fl
theorem step_iff {T:List Ly}{L:List Sh}(h:Rel T L){l:Ly}{s:Sh}{n:Nat}(hn:n≤L.length)(hp:Pair L n l s){i:Nat}{x:Ly}{y:Sh}(hx:T[i]?=some x)(hy:L[i]?=some y) :
  (sameStep x l↔(y.pr=s.pr∧y.st=s.st))∧(sameStep x l→y=s):=by
 have hq:=h.pair i x y hx hy
 rcases hq with⟨rfl,e2⟩ | ⟨q',a1,a2,a3,a4,a5,a6,a7,a8⟩ | ⟨q',a1,a2,a3,a4,a5,a6,a8⟩ <;>
  rcases hp with⟨rfl,g2⟩ | ⟨q,b1,b2,b3,b4,b5,b6,b7,b8⟩ | ⟨q,b1,b2,b3,b4,b5,b6,b8⟩
 ·rw[e2,g2]
  refine⟨⟨fun e=>⟨e.2.1,rfl⟩,fun e=>⟨rfl,e.1,rfl,rfl,rfl⟩⟩,fun e => ?_⟩
  have:=e.2.1
  simp only at this
  rw[this]
 ·refine⟨⟨fun e => ?_,fun e => ?_⟩,fun e => ?_⟩
  ·have:=e.1;simp only at this;omega
  ·have:=e.2;rw[e2,b8] at this;simp[grow] at this
  ·have:=e.1;simp only at this;omega
 ·refine⟨⟨fun e => ?_,fun e => ?_⟩,fun e => ?_⟩
  ·have:=e.1;simp only at this;omega
  ·have:=e.2;rw[e2,b8] at this;simp[chg] at this
  ·have:=e.1;simp only at this;omega
 ·refine⟨⟨fun e => ?_,fun e => ?_⟩,fun e => ?_⟩
  ·have:=e.1;simp only at this;omega
  ·have:=e.2;rw[g2,a8] at this;simp[grow] at this
  ·have:=e.1;simp only at this;omega
 ·have key:sameStep x l→y=s:=fun ⟨e1,e2,e3,e4,e5⟩=>by
   rw[e3,b2] at a2
   cases a2
   rw[a8,b8,e4,e5]
  refine⟨⟨fun e=>by rw[key e];exact⟨rfl,rfl⟩,fun e => ?_⟩,key⟩
  obtain⟨f1,f2⟩:=e
  rw[a8,b8] at f1 f2
  simp only[grow] at f1 f2
  obtain⟨c1,c2⟩:=List.append_inj' f2 rfl
  have c3:=h.once _ _ _ _ a2 b2 f1 c1
  simp at c2
  exact⟨by omega,by rw[a4,b4,f1],c3,c2.1,c2.2⟩
 ·refine⟨⟨fun e => ?_,fun e => ?_⟩,fun e => ?_⟩
  ·have:=e.1;omega
  ·have:=e.2;rw[a8,b8] at this
   simp only[grow,chg] at this
   have:=(List.append_inj' this rfl).2
   simp at this
  ·have:=e.1;omega
 ·refine⟨⟨fun e => ?_,fun e => ?_⟩,fun e => ?_⟩
  ·have:=e.1;simp only at this;omega
  ·have:=e.2;rw[g2,a8] at this;simp[chg] at this
  ·have:=e.1;simp only at this;omega
 ·refine⟨⟨fun e => ?_,fun e => ?_⟩,fun e => ?_⟩
  ·have:=e.1;omega
  ·have:=e.2;rw[a8,b8] at this
   simp only[grow,chg] at this
   have:=(List.append_inj' this rfl).2
   simp at this
  ·have:=e.1;omega
 ·have key:sameStep x l→y=s:=fun ⟨e1,e2,e3,e4,e5⟩=>by
   rw[e3,b2] at a2
   cases a2
   rw[e4,b5] at a5
   rw[a8,b8,e4,e5,Option.some.inj a5]
  refine⟨⟨fun e=>by rw[key e];exact⟨rfl,rfl⟩,fun e => ?_⟩,key⟩
  obtain⟨f1,f2⟩:=e
  rw[a8,b8] at f1 f2
  simp only[chg] at f1 f2
  obtain⟨c1,c2⟩:=List.append_inj' f2 rfl
  have c3:=h.once _ _ _ _ a2 b2 f1 c1
  simp at c2
  exact⟨by omega,by rw[a4,b4,f1],c3,c2.1,c2.2⟩
theorem hit_some {L:List Sh}{s:Sh}{i:Nat}(h:hit L s=some i):∃y,L[i]?=some y∧y.pr=s.pr∧y.st=s.st∧∀j z,j<i→L[j]?=some z→¬(z.pr=s.pr∧z.st=s.st):=by
 unfold hit at h
 rw[List.findIdx?_eq_some_iff_getElem] at h
 obtain⟨h1,h2,h3⟩:=h
 have h2':=of_decide_eq_true h2
 refine⟨_,List.getElem?_eq_getElem h1,h2'.1,h2'.2,fun j z hj hz => ?_⟩
 have h4:=h3 j hj
 have hz':=(List.getElem?_eq_some_iff.1 hz)
 obtain⟨k1,k2⟩:=hz'
 rw[k2] at h4
 intro e
 exact h4 (decide_eq_true e)
theorem hit_none {L:List Sh}{s:Sh}(h:hit L s=none):∀(j:Nat)(z:Sh),L[j]?=some z→¬(z.pr=s.pr∧z.st=s.st):=by
 intro j z hz e
 unfold hit at h
 rw[List.findIdx?_eq_none_iff] at h
 have:=h z (List.mem_of_getElem? hz)
 exact absurd e (of_decide_eq_false this)
theorem pair_mono {L:List Sh}{n:Nat}{l:Ly}{s:Sh}(h:Pair L n l s)(R:List Sh)(hn:n≤L.length):Pair (L++R) n l s:=by
 rcases h with h | ⟨q,h1,h2,h3⟩ | ⟨q,h1,h2,h3⟩
 ·exact Or.inl h
 ·exact Or.inr (Or.inl ⟨q,h1,by rw[List.getElem?_append_left (by omega)];exact h2,h3⟩)
 ·exact Or.inr (Or.inr ⟨q,h1,by rw[List.getElem?_append_left (by omega)];exact h2,h3⟩)
theorem rel_push {T:List Ly}{L:List Sh}(h:Rel T L){l:Ly}{s:Sh}(hp:Pair L L.length l s)(hh:hit L s=none):Rel (T++[l]) (L++[s]):=by
 have hl:=h.len
 have hn:=hit_none hh
 refine⟨by simp[hl],fun i x y hx hy => ?_,fun i j a b ha hb e1 e2 => ?_⟩
 ·rcases Nat.lt_or_ge i L.length with c | c
  ·rw[List.getElem?_append_left (by omega)] at hx hy
   exact pair_mono (h.pair i x y hx hy) _ (by omega)
  ·rw[List.getElem?_append_right (by omega),List.getElem?_singleton] at hx hy
   split at hy
   ·rw[if_pos (by omega)] at hx
    cases hx
    cases hy
    have:i=L.length:=by omega
    subst this
    exact pair_mono hp _ (Nat.le_refl _)
   ·cases hy
 ·rcases Nat.lt_or_ge i L.length with c | c <;> rcases Nat.lt_or_ge j L.length with d | d
  ·rw[List.getElem?_append_left (by omega)] at ha hb
   exact h.once i j a b ha hb e1 e2
  ·rw[List.getElem?_append_left (by omega)] at ha
   rw[List.getElem?_append_right (by omega),List.getElem?_singleton] at hb
   split at hb
   ·cases hb
    exact absurd ⟨e1,e2⟩ (hn i a ha)
   ·cases hb
  ·rw[List.getElem?_append_left (by omega)] at hb
   rw[List.getElem?_append_right (by omega),List.getElem?_singleton] at ha
   split at ha
   ·cases ha
    exact absurd ⟨e1.symm,e2.symm⟩ (hn j b hb)
   ·cases ha
  ·rw[List.getElem?_append_right (by omega),List.getElem?_singleton] at ha hb
   split at ha
   ·split at hb
    ·omega
    ·cases hb
   ·cases ha
theorem find_step {T:List Ly}{L:List Sh}(h:Rel T L){j:Nat}{x:Ly}{y:Sh}(hx:T[j]?=some x)(hy:L[j]?=some y)(k:ByteArray) :
  (x.kd=0∧idx y.ks k=none)∨(x.kd≠0∧x.ke=k∧idx y.ks k=some x.sl∧y.fs[x.sl]?=some x.fl) ∨
  (x.kd≠0∧x.ke≠k∧∃q,x.fr<j∧L[x.fr]?=some q∧idx y.ks k=idx q.ks k∧∀i,idx y.ks k=some i→y.fs[i]?=q.fs[i]?):=by
 rcases h.pair j x y hx hy with⟨rfl,e2⟩ | ⟨q',a1,a2,a3,a4,a5,a6,a7,a8⟩ | ⟨q',a1,a2,a3,a4,a5,a6,a8⟩
 ·refine Or.inl ⟨rfl,?_⟩
  rw[e2]
  rfl
 ·have fq:=h.fin a2
  refine Or.inr ?_
  by_cases c:x.ke=k
  ·refine Or.inl ⟨by omega,c,?_,?_⟩
   ·rw[a8]
    simp only[grow]
    rw[idx_push,←c,a7,a5]
    simp
   ·rw[a8,a5]
    simp only[grow]
    rw[List.getElem?_append_right (by rw[fq.fl];exact Nat.le_refl _),fq.fl]
    simp
  ·refine Or.inr ⟨by omega,c,q',a1,a2,?_,?_⟩
   ·rw[a8]
    simp only[grow]
    rw[idx_push]
    cases idx q'.ks k <;> simp[c]
   ·intro i hi
    rw[a8] at hi ⊢
    simp only[grow] at hi ⊢
    rw[idx_push] at hi
    cases e:idx q'.ks k with
    | none=>rw[e] at hi;simp[c] at hi
    | some m =>
      rw[e] at hi
      simp at hi
      subst hi
      rw[List.getElem?_append_left (by rw[fq.fl];exact idx_lt e)]
 ·have fq:=h.fin a2
  have hlt:=idx_lt a5
  refine Or.inr ?_
  by_cases c:x.ke=k
  ·refine Or.inl ⟨by omega,c,?_,?_⟩
   ·rw[a8,←c]
    exact a5
   ·rw[a8]
    simp only[chg]
    rw[List.getElem?_set_self (by rw[fq.fl];exact hlt)]
  ·refine Or.inr ⟨by omega,c,q',a1,a2,by rw[a8];rfl,?_⟩
   intro i hi
   rw[a8] at hi ⊢
   simp only[chg] at hi ⊢
   rw[List.getElem?_set_ne]
   intro e
   subst e
   have h1:=(idx_some hi).1
   have h2:=(idx_some a5).1
   rw[h1] at h2
   exact c (Option.some.inj h2).symm
theorem prop_step {T:List Ly}{L:List Sh}(h:Rel T L){j:Nat}{x:Ly}{y:Sh}(hx:T[j]?=some x)(hy:L[j]?=some y) :
  (x.kd=0∧y.ks=[])∨(x.kd≠0∧x.sl<y.ks.length∧y.ks[x.sl]?=some x.ke∧y.fs[x.sl]?=some x.fl∧∃q,x.fr<j∧L[x.fr]?=some q∧q.ks.length≤y.ks.length ∧
   ∀i,i≠x.sl→y.ks[i]?=q.ks[i]?∧y.fs[i]?=q.fs[i]?):=by
 rcases h.pair j x y hx hy with⟨rfl,e2⟩ | ⟨q',a1,a2,a3,a4,a5,a6,a7,a8⟩ | ⟨q',a1,a2,a3,a4,a5,a6,a8⟩
 ·exact Or.inl ⟨rfl,by rw[e2]⟩
 ·have fq:=h.fin a2
  refine Or.inr ⟨by omega,?_,?_,?_,q',a1,a2,?_,?_⟩
  ·rw[a8,a5];simp[grow]
  ·rw[a8,a5];simp[grow]
  ·rw[a8,a5];simp only[grow];rw[←fq.fl];simp
  ·rw[a8];simp[grow]
  ·intro i hi
   rw[a8]
   simp only[grow]
   rcases Nat.lt_or_ge i q'.ks.length with c | c
   ·rw[List.getElem?_append_left c,List.getElem?_append_left (by rw[fq.fl];exact c)]
    exact⟨rfl,rfl⟩
   ·rw[List.getElem?_eq_none (by simp;omega),List.getElem?_eq_none (by omega),List.getElem?_eq_none (by simp;have:=fq.fl;omega),List.getElem?_eq_none (by have:=fq.fl;omega)]
    exact⟨rfl,rfl⟩
 ·have fq:=h.fin a2
  have hlt:=idx_lt a5
  refine Or.inr ⟨by omega,?_,?_,?_,q',a1,a2,?_,?_⟩
  ·rw[a8];exact hlt
  ·rw[a8];exact(idx_some a5).1
  ·rw[a8];simp only[chg];rw[List.getElem?_set_self (by rw[fq.fl];exact hlt)]
  ·rw[a8];exact Nat.le_refl _
  ·intro i hi
   rw[a8]
   simp only[chg]
   rw[List.getElem?_set_ne (fun e=>hi e.symm)]
   first | exact⟨rfl,rfl⟩ | simp
end Go.Proofs.YtahhionlbfhinabGreatDoor.Sp
