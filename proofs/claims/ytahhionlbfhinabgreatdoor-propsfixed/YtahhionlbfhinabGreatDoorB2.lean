/- PB, PD, PE, PF -/
import Derived.Test.YtahhionlbfhinabGreatDoorB1
import Derived.WalkKit
import Derived.WalkSpells
import Derived.WalkLawsBesides
import Derived.BigQuiet
import Derived.Below
import Derived.Laws.Rows
import Derived.Laws.AppendOwn
import Derived.Maps.OwnSet
import Derived.DeepKeys5
import Derived.Deep.AppendLies
import Derived.Deep.RegionHeldLaw
import Derived.Deep.RegionLaw
import Derived.Lib.Bytealg
set_option linter.unusedVariables false
set_option linter.unusedSimpArgs false
set_option maxRecDepth 100000
set_option maxHeartbeats 40000000
namespace Go.Proofs.YtahhionlbfhinabGreatDoor.Sp
open Go.RowKit Go.Proofs.YtahhionlbfhinabGreatDoor.Hp
theorem laidOut:laidOutB Tryz.prog=true:=by kernel_rfl
theorem key_law:WideMaps.KeyLaw Tryz.prog 140:=deep_law_gate laidOut (by decide +kernel) (by decide +kernel) (by kernel_rfl) (by kernel_rfl)
structure Ly.wf (l:Ly):Prop where
 kd:l.kd≤2
 pr1:0≤l.pr
 pr2:l.pr≤18446744073709551615
 fr:l.fr≤1700000000000
 ke:l.ke.size≤maxLen
 fl1 : -9223372036854775808≤l.fl
 fl2:l.fl≤9223372036854775807
 sl:l.sl≤1700000000000
 sz:l.sz≤1700000000000
def stV (l:Ly):Value := .agg #[.int .i64 l.kd,.int .u64 l.pr,.int .i64 l.fr,.string l.ke,.int .i64 l.fl]
theorem keyType66:Tryz.prog.keyType 140=true:=by kernel_rfl
theorem wf_i {k:Int}(h1 : -9223372036854775808≤k)(h2:k≤9223372036854775807):(Lit.int .i64 k).wf=true:=by
 unfold Lit.wf
 rw[Bool.and_eq_true]
 exact⟨decide_eq_true h1,decide_eq_true h2⟩
theorem wf_u {k:Int}(h1:0≤k)(h2:k≤18446744073709551615):(Lit.int .u64 k).wf=true:=by
 unfold Lit.wf
 rw[Bool.and_eq_true]
 exact⟨decide_eq_true h1,decide_eq_true h2⟩
theorem types_some:∃m,Tryz.prog.types.size=m+1:=⟨Tryz.prog.types.size - 1,by decide +kernel⟩
theorem key_lits (m:Nat)(l:Ly)(h:l.wf):∃ls,Tryz.prog.keyLits (m+2) 140 [.int .i64 l.kd,.int .u64 l.pr,.int .i64 l.fr,.string l.ke,.int .i64 l.fl]=some ls:=by
 have c3:Tryz.prog.cellsOf 3=1:=by kernel_rfl
 have c31:Tryz.prog.cellsOf 23=1:=by kernel_rfl
 have c9:Tryz.prog.cellsOf 9=1:=by kernel_rfl
 have c66:Tryz.prog.cellsOf 140=5:=by kernel_rfl
 have w0:(Lit.int .i64 (l.kd:Int)).wf=true:=wf_i (by omega) (by have:=h.kd;omega)
 have w1:=wf_u h.pr1 h.pr2
 have w2:(Lit.int .i64 (l.fr:Int)).wf=true:=wf_i (by omega) (by have:=h.fr;omega)
 have w3:=h.ke
 have w4:=wf_i h.fl1 h.fl2
 unfold Program.keyLits
 simp[Tryz.underlying140,Program.keyLits,Tryz.underlying3,Tryz.underlying23,Tryz.underlying9,c3,c31,c9,c66,w0,w1,w2,w3,w4]
theorem key_of (l:Ly)(h:l.wf):∃z,keyOf Tryz.prog 140 (stV l)=some z:=by
 obtain⟨m,hm⟩:=types_some
 obtain⟨ls,hls⟩:=key_lits m l h
 have c66:Tryz.prog.cellsOf 140=5:=by kernel_rfl
 unfold keyOf
 rw[Tryz.underlying140]
 simp only[keyType66,hm]
 unfold stV
 simp[Value.formed,Tryz.underlying140,c66,Value.cells,hls]
theorem stV_inj {x l:Ly}:stV x=stV l↔sameStep x l:=by
 unfold stV sameStep
 simp only[Value.agg.injEq,Array.mk.injEq,List.cons.injEq,Value.int.injEq,Value.string.injEq,true_and,and_true]
 constructor <;> rintro⟨a,b,c,d,e⟩ <;> exact⟨by omega,b,by omega,d,e⟩
def MapAt (w:World)(mb:Nat)(T:List Ly):Prop :=
 ∃es clock,w.heap[mb]?=some (.map es clock)∧es.toList.map (fun e=>(e.key,e.val))=T.zipIdx.map (fun p=>(stV p.1,Value.int .i64 (p.2:Int)))
theorem MapAt.at' {T:List Ly}{es:List MapEntry}(h:es.map (fun e=>(e.key,e.val))=T.zipIdx.map (fun p=>(stV p.1,Value.int .i64 (p.2:Int))))(j:Nat)(e:MapEntry)(he:es[j]?=some e) :
  ∃x,T[j]?=some x∧e.key=stV x∧e.val = .int .i64 (j:Int):=by
 have h1:=congrArg (·[j]?) h
 simp only[List.getElem?_map,he,Option.map_some,List.getElem?_zipIdx] at h1
 cases hx:T[j]? with
 | none=>rw[hx] at h1;simp at h1
 | some x =>
   rw[hx] at h1
   simp at h1
   exact⟨x,rfl,h1.1,h1.2⟩
theorem MapAt.keys {T:List Ly}{es:List MapEntry}(h:es.map (fun e=>(e.key,e.val))=T.zipIdx.map (fun p=>(stV p.1,Value.int .i64 (p.2:Int))))(hw:∀x∈T,x.wf):∀e∈es,∃l,keyOf Tryz.prog 140 e.key=some l:=by
 intro e he
 obtain⟨j,hj⟩:=List.mem_iff_getElem?.1 he
 obtain⟨x,h1,h2,_⟩:=MapAt.at' h j e hj
 rw[h2]
 exact key_of x (hw x (List.mem_of_getElem? h1))
theorem MapAt.look {w:World}{mb:Nat}{T:List Ly}(h:MapAt w mb T)(hw:∀x∈T,x.wf)(l:Ly)(hl:l.wf) :
  (((Instr.lookup 162 (.map (some mb)) (stV l) true).run Tryz.prog w = .ok (.tuple #[.int .i64 0,.bool false]) w)∧∀x∈T,¬sameStep x l) ∨
  ∃j x,(Instr.lookup 162 (.map (some mb)) (stV l) true).run Tryz.prog w = .ok (.tuple #[.int .i64 (j:Nat),.bool true]) w∧T[j]?=some x∧sameStep x l:=by
 obtain⟨es,clock,hb,he⟩:=h
 obtain⟨z,hz⟩:=key_of l hl
 rcases key_law.find w hz es.toList (MapAt.keys he hw) with⟨f1,f2⟩ | ⟨j,e,f1,f2,f3⟩
 ·refine Or.inl ⟨?_,fun x hx hs => ?_⟩
  ·simp[Instr.lookup,run_underlying Tryz.underlying162,MapKept.run_getObj_map hb,key_law.check w _ hz,f1,Result.andThen]
  ·obtain⟨j,hj⟩:=List.mem_iff_getElem?.1 hx
   have h1:=congrArg (·[j]?) he
   simp only[List.getElem?_map,hj,Option.map_some,List.getElem?_zipIdx] at h1
   cases hq:es.toList[j]? with
   | none=>rw[hq] at h1;simp at h1
   | some e =>
     rw[hq] at h1
     simp at h1
     exact f2 e (List.mem_of_getElem? hq) (by rw[h1.1];exact stV_inj.2 hs)
 ·obtain⟨x,h1,h2,h3⟩:=MapAt.at' he j e f2
  refine Or.inr ⟨j,x,?_,h1,stV_inj.1 (by rw[←h2,f3])⟩
  simp[Instr.lookup,run_underlying Tryz.underlying162,MapKept.run_getObj_map hb,key_law.check w _ hz,f1,h3,Result.andThen]
theorem MapAt.put {w:World}{mb:Nat}{T:List Ly}(h:MapAt w mb T)(hw:∀x∈T,x.wf)(l:Ly)(hl:l.wf)(hn:∀x∈T,¬sameStep x l) :
  ∃w',(Instr.mapUpdate 162 (.map (some mb)) (stV l) (.int .i64 (T.length:Int))).run Tryz.prog w = .ok () w'∧MapAt w' mb (T++[l])∧w.grownBy w' (some mb)∧w'.heap.size=w.heap.size:=by
 obtain⟨es,clock,hb,he⟩:=h
 obtain⟨z,hz⟩:=key_of l hl
 rcases key_law.find w hz es.toList (MapAt.keys he hw) with⟨f1,f2⟩ | ⟨j,e,f1,f2,f3⟩
 ·have hlen:es.toList.length=T.length:=by
   have:=congrArg List.length he
   simpa using this
  refine⟨ChangeMaps.setBlock w mb (.map (es.push ⟨stV l,.int .i64 (T.length:Int),clock⟩) (clock+1)),?_,⟨_,_,ChangeMaps.heap_setBlock_same hb _,?_⟩,⟨rfl,rfl,rfl,by simp[ChangeMaps.setBlock],fun i _ hi=>ChangeMaps.heap_setBlock_other hb _ (fun e=>hi (by rw[e]))⟩,by simp[ChangeMaps.setBlock]⟩
  ·simp[Instr.mapUpdate,run_underlying Tryz.underlying162,MapKept.run_getObj_map hb,key_law.check w _ hz,f1,MapKept.run_setObj_map _ hb,Result.andThen,ChangeMaps.setBlock]
  ·simp[he,List.zipIdx_append]
 ·obtain⟨x,h1,h2,h3⟩:=MapAt.at' he j e f2
  exact absurd (stV_inj.1 (by rw[←h2,f3])) (hn x (List.mem_of_getElem? h1))
def lyC (l:Ly):List Value:=[.int .i64 l.kd,.int .u64 l.pr,.int .i64 l.fr,.string l.ke,.int .i64 l.fl,.int .i64 l.sl,.int .i64 l.sz]
theorem lyC_len (l:Ly):(lyC l).length=7:=rfl
def top:Nat:=1700000000000
structure TreeAt (w:World)(B tb:Nat)(O:Nat→Prop)(most:Int)(L:List Sh)(T:List Ly)(v:Value)(mb:Nat):Prop where
 box:w.heap[tb]?=some (.cells #[.int .i64 most,v,.map (some mb)] 165 (0,0))
 own:OwnR lyC 7 142 B w v T
 map:MapAt w mb T
 rel:Rel T L
 wf:∀x∈T,x.wf
 cap:L.length≤top
 b1:B≤tb
 b2:B≤mb
 n1:tb≠mb
 n2:v.ownBlock≠some tb
 n3:v.ownBlock≠some mb
 os:∀b,O b↔(b=tb∨b=mb∨v.ownBlock=some b)
def Tree (w:World)(B tb:Nat)(O:Nat→Prop)(most:Int)(L:List Sh):Prop:=∃T v mb,TreeAt w B tb O most L T v mb
theorem TreeAt.kept {w w':World}{B tb:Nat}{O S:Nat→Prop}{most:Int}{L:List Sh}{T:List Ly}{v:Value}{mb:Nat}(h:TreeAt w B tb O most L T v mb)(hc:Chg S w w')(hs:∀b,O b→¬S b):TreeAt w' B tb O most L T v mb:=by
 refine⟨?_,h.own.kept hc (fun b hb=>hs b ((h.os b).2 (Or.inr (Or.inr hb)))),?_,h.rel,h.wf,h.cap,h.b1,h.b2,h.n1,h.n2,h.n3,h.os⟩
 ·rw[hc.block tb (Array.getElem?_eq_some_iff.1 h.box).1 (hs tb ((h.os tb).2 (Or.inl rfl)))]
  exact h.box
 ·obtain⟨es,clock,hb,he⟩:=h.map
  exact⟨es,clock,by rw[hc.block mb (Array.getElem?_eq_some_iff.1 hb).1 (hs mb ((h.os mb).2 (Or.inr (Or.inl rfl))))];exact hb,he⟩
theorem TreeAt.lt {w:World}{B tb:Nat}{O:Nat→Prop}{most:Int}{L:List Sh}{T:List Ly}{v:Value}{mb:Nat}(h:TreeAt w B tb O most L T v mb):∀b,O b→B≤b∧b<w.heap.size:=by
 intro b hb
 rcases (h.os b).1 hb with rfl | rfl | hb
 ·exact⟨h.b1,(Array.getElem?_eq_some_iff.1 h.box).1⟩
 ·obtain⟨es,clock,hm,he⟩:=h.map
  exact⟨h.b2,(Array.getElem?_eq_some_iff.1 hm).1⟩
 ·exact h.own.lt b hb
theorem Tree.kept {w w':World}{B tb:Nat}{O S:Nat→Prop}{most:Int}{L:List Sh}(h:Tree w B tb O most L)(hc:Chg S w w')(hs:∀b,O b→¬S b):Tree w' B tb O most L:=by
 obtain⟨T,v,mb,h⟩:=h
 exact⟨T,v,mb,h.kept hc hs⟩
theorem Tree.below {w w':World}{B tb:Nat}{O:Nat→Prop}{most:Int}{L:List Sh}(h:Tree w B tb O most L)(hc:Below w.heap.size w w'):Tree w' B tb O most L:=h.kept (S:=fun _=>False) (Chg.of_below hc) (fun _ _ q=>q)
theorem Tree.lt {w:World}{B tb:Nat}{O:Nat→Prop}{most:Int}{L:List Sh}(h:Tree w B tb O most L):∀b,O b→B≤b∧b<w.heap.size:=by
 obtain⟨T,v,mb,h⟩:=h
 exact h.lt
theorem TreeAt.open {w:World}{B tb:Nat}{O:Nat→Prop}{most:Int}{L:List Sh}{T:List Ly}{v:Value}{mb:Nat}(h:TreeAt w B tb O most L T v mb) :
  ∃s:Sli Ly,v=s.val∧s.xs=T∧s.ok lyC 7 w∧w.cell? ⟨tb,0,none⟩=some (.int .i64 most)∧w.cell? ⟨tb,1,none⟩=some (.slice s.at' s.xs.length s.cap)∧w.cell? ⟨tb,2,none⟩=some (.map (some mb)):=by
 obtain⟨s,h1,h2,h3,_⟩:=h.own.sl lyC_len
 have hb:=h.box
 rw[h1] at hb
 unfold Sli.val at hb
 refine⟨s,h1,h2,h3,?_,?_,?_⟩
 ·rw[cell_of_row w tb 0 _ 165 (0,0) hb];rfl
 ·rw[cell_of_row w tb 1 _ 165 (0,0) hb];rfl
 ·rw[cell_of_row w tb 2 _ 165 (0,0) hb];rfl
theorem count_any (w:World)(B tb:Nat)(O:Nat→Prop)(most:Int)(L:List Sh)(h:Tree w B tb O most L) :
  Calls Tryz.prog 133 #[.pointer (some ⟨tb,0,none⟩)] w fun e w'=>e = .returned (.int .i64 (L.length:Int))∧w'=w:=by
 obtain⟨T,v,mb,h⟩:=h
 obtain⟨⟨ad,cap,xs⟩,rfl,h2,h3,c0,c1,c2⟩:=h.open
 have hl:=h.rel.len
 simp only at h2
 subst h2
 simp only at c1
 rw[hl] at c1
 clear h h3
 go_enter Tryz.func133,Tryz.ntmps133
 go_wp2_with fail
 go_ret
 exact⟨rfl,rfl⟩
def thereB (L:List Sh)(n:Int):Bool:=decide (0≤n) && decide (n<(L.length:Int))
theorem there_any (w:World)(B tb:Nat)(O:Nat→Prop)(most:Int)(L:List Sh)(h:Tree w B tb O most L)(n:Int) :
  Calls Tryz.prog 116 #[.pointer (some ⟨tb,0,none⟩),.int .i64 n] w fun e w'=>e = .returned (.bool (thereB L n))∧w'=w:=by
 have kc:=count_any w B tb O most L h
 unfold thereB
 clear h
 go_enter Tryz.func116,Tryz.ntmps116
 by_cases c:0≤n
 ·have hc:decide (0≤n)=true:=decide_eq_true c
  rw[hc,Bool.true_and]
  go_wp2_with fail
  refine kc.mono ?_
  rintro e w2 ⟨rfl,rfl⟩
  clear kc
  go_wp2_with fail
  go_ret
  exact⟨rfl,rfl⟩
 ·have hc:decide (0≤n)=false:=decide_eq_false c
  rw[hc,Bool.false_and]
  go_wp2_with fail
  go_ret
  exact⟨rfl,rfl⟩
theorem there_of {L:List Sh}{n:Int}(h:thereB L n=true):∃(j:Nat)(s:Sh),n=(j:Int)∧L[j]?=some s∧shOf L n=some s∧j<L.length:=by
 unfold thereB at h
 rw[Bool.and_eq_true] at h
 have h1:=of_decide_eq_true h.1
 have h2:=of_decide_eq_true h.2
 obtain⟨j,rfl⟩:∃j:Nat,n=j:=⟨n.toNat,by omega⟩
 have hj:j<L.length:=by omega
 refine⟨j,L[j],rfl,List.getElem?_eq_getElem hj,?_,hj⟩
 unfold shOf
 rw[if_pos h1,Int.toNat_natCast]
 exact List.getElem?_eq_getElem hj
theorem there_not {L:List Sh}{n:Int}(h:thereB L n=false):shOf L n=none:=by
 unfold thereB at h
 unfold shOf
 split
 ·rename_i c
  rw[decide_eq_true c,Bool.true_and] at h
  have h2:=of_decide_eq_false h
  exact List.getElem?_eq_none (by omega)
 ·rfl
theorem bytes_eq (a b:ByteArray)(h:a.toList=b.toList):a=b:=by
 rw[Lib.toList_data,Lib.toList_data] at h
 cases a with | mk x=>cases b with | mk y=>simp only at h;rw[show x=y from Array.toList_inj.1 h]
theorem bytes_yes (a:ByteArray):(a.toList == a.toList)=true:=by simp
theorem bytes_no {a b:ByteArray}(h:a≠b):(a.toList == b.toList)=false:=by
 cases c:(a.toList == b.toList) with
 | false=>rfl
 | true=>exact absurd (bytes_eq a b (by simpa using c)) h
def offOf:Value→Nat
 | .pointer (some a)=>a.off
 | _=>0
def findR (L:List Sh)(n:Int)(k:ByteArray):Option (Nat×Int):=(shOf L n).bind fun s=>(idx s.ks k).bind fun i=>(s.fs[i]?).map fun f=>(i,f)
def findQ (s:Sh)(k:ByteArray):Option (Nat×Int):=(idx s.ks k).bind fun i=>(s.fs[i]?).map fun f=>(i,f)
def slotI (r:Option (Nat×Int)):Int:=match r with | some x=>(x.1:Int) | none=>0
def flagI (r:Option (Nat×Int)):Int:=match r with | some x=>x.2 | none=>0
structure FdAt (w wr:World)(L:List Sh)(R:Option (Nat×Int))(k:ByteArray)(j:Nat):Prop where
 at':∃y,L[j]?=some y∧findQ y k=R
 bel:Below w.heap.size w wr
theorem find_q {T:List Ly}{L:List Sh}(h:Rel T L){j:Nat}{x:Ly}{y:Sh}(hx:T[j]?=some x)(hy:L[j]?=some y)(k:ByteArray) :
  (x.kd=0∧findQ y k=none)∨(x.kd≠0∧x.ke=k∧findQ y k=some (x.sl,x.fl)) ∨
  (x.kd≠0∧x.ke≠k∧∃q,x.fr<j∧L[x.fr]?=some q∧findQ y k=findQ q k):=by
 unfold findQ
 rcases find_step h hx hy k with⟨h1,h2⟩ | ⟨h1,h2,h3,h4⟩ | ⟨h1,h2,q,h3,h4,h5,h6⟩
 ·exact Or.inl ⟨h1,by rw[h2];rfl⟩
 ·exact Or.inr (Or.inl ⟨h1,h2,by rw[h3];simp[h4]⟩)
 ·refine Or.inr (Or.inr ⟨h1,h2,q,h3,h4,?_⟩)
  rw[←h5]
  cases e:idx y.ks k with
  | none=>rfl
  | some i =>
    simp only[Option.bind_some]
    rw[h6 i e]
theorem find_any (w:World)(B tb:Nat)(O:Nat→Prop)(most:Int)(L:List Sh)(h:Tree w B tb O most L)(n:Int)(k:ByteArray) :
  Calls Tryz.prog 141 #[.pointer (some ⟨tb,0,none⟩),.int .i64 n,.string k] w fun e w'=>e = .returned (.tuple #[.int .i64 (slotI (findR L n k)),.int .i64 (flagI (findR L n k)),.bool (findR L n k).isSome])∧Below w.heap.size w w':=by
 have kc:=there_any w B tb O most L h n
 have HH:Hid (Tree w B tb O most L):=h
 cases ht:thereB L n with
 | false =>
   rw[ht] at kc
   have e0:findR L n k=none:=by unfold findR;rw[there_not ht];rfl
   rw[e0]
   unfold slotI flagI
   simp only[Option.isSome_none]
   clear h
   go_enter Tryz.func141,Tryz.ntmps141
   go_wp2_with fail
   refine kc.mono ?_
   rintro e w2 ⟨rfl,rfl⟩
   clear kc
   go_wp2_with fail
   refine bodyPost_ret (v := .tuple #[.int .i64 0,.int .i64 0,.bool false]) (by simp[results,Tryz.results141,go_sem]) rfl ?_
   exact⟨rfl,Below.refl _ _⟩
 | true =>
   rw[ht] at kc
   obtain⟨j,s,rfl,hs,hs2,hj⟩:=there_of ht
   have e0:findR L j k=findQ s k:=by unfold findR;rw[hs2];rfl
   obtain⟨T,v,mb,h⟩:=h
   obtain⟨⟨ad,cap,xs⟩,rfl,h2,h3,c0,c1,c2⟩:=h.open
   simp only at h2
   subst h2
   have hl:=h.rel.len
   have hjx:j<xs.length:=by omega
   obtain⟨b,off,e1,hc⟩:=h3.cells (by intro e;simp only at e;rw[e] at hjx;simp at hjx)
   have hcap:=h3.cap
   have hlen:=h3.len
   simp only at e1 hcap hlen c1
   subst e1
   have hlim:(xs.length:Int)≤9223372036854775807:=by unfold maxLen at hcap;omega
   have hjj:(j:Int)<xs.length:=by omega
   have HR:Hid (Rel xs L∧(∀x∈xs,x.wf)):=⟨h.rel,h.wf⟩
   have HC:Hid (∀(i:Nat) (y:Ly),xs[i]?=some y→∀(j:Nat) (u:Value),(lyC y)[j]?=some u→w.cell? ⟨b,off+i*7+j,none⟩=some u):=hc
   have HI:Hid (FdAt w w L (findR L j k) k j):=⟨⟨s,hs,e0.symm⟩,Below.refl _ _⟩
   have HT:Hid (w.cell? ⟨tb,1,none⟩=some (.slice (some ⟨b,off,none⟩) xs.length cap)):=c1
   generalize findR L j k=R at *
   clear h h3 hc hs hs2 ht hcap hlen e0
   go_enter Tryz.func141,Tryz.ntmps141
   go_wp2_with fail
   refine kc.mono ?_
   rintro e w2 ⟨rfl,rfl⟩
   clear kc
   go_wp2_with fail
   go_loopw [9] (fun p wr=>∃i:Nat,FdAt w2 wr L R k i∧p = .pointer (some ⟨b,off+i*7,none⟩)) (fun p wr=>offOf p)
   case atStart=>exact⟨j,HI.out,rfl⟩
   case round =>
    clear HI c1 hj hjx hjj c0 c2
    obtain⟨i,hr,rfl⟩:=hrel
    have HB:Hid (Below w2.heap.size w2 wr):=hr.bel
    obtain⟨y,hy,hq⟩:=hr.at'
    have HQ:Hid (findQ y k=R):=hq
    have hix:i<xs.length:=by rw[HR.out.1.len];exact(List.getElem?_eq_some_iff.1 hy).1
    have hex:∃x,xs[i]?=some x:=⟨_,List.getElem?_eq_getElem hix⟩
    obtain⟨x,hx⟩:=hex
    have hcc:=HC.out i x hx
    have d0:=cells_below HB.out _ _ (hcc 0 _ rfl)
    have d2:=cells_below HB.out _ _ (hcc 2 _ rfl)
    have d3:=cells_below HB.out _ _ (hcc 3 _ rfl)
    have d4:=cells_below HB.out _ _ (hcc 4 _ rfl)
    have d5:=cells_below HB.out _ _ (hcc 5 _ rfl)
    have c1:=cells_below HB.out _ _ HT.out
    rw[Nat.add_zero] at d0
    have hw:=HR.out.2 x (List.mem_of_getElem? hx)
    have hfq:=find_q HR.out.1 hx hy k
    have hf:=hw.fr
    clear hr hcc hq hw hx
    obtain⟨xk,xp,xf,xe,xl,xs',xz⟩:=x
    simp only at *
    rcases hfq with⟨h1,h2⟩ | ⟨h1,h2,h3⟩ | ⟨h1,h2,q,h3,h4,h5⟩
    ·subst h1
     rw[HQ.out] at h2
     subst h2
     clear HR HC HQ hy HT
     go_wp2_with fail
     refine bodyPost_ret (v := .tuple #[.int .i64 0,.int .i64 0,.bool false]) (by simp[results,Tryz.results141,go_sem]) rfl ?_
     exact⟨rfl,HB.out⟩
    ·subst h2
     rw[HQ.out] at h3
     subst h3
     have hk0:((xk:Int) == 0)=false:=by simp;omega
     have hk1:¬(xk:Int)=0:=by omega
     have hee:=bytes_yes xe
     clear HR HC HQ hy HT
     go_wp2_with fail
     go_region
     all_goals
      go_wp2_with fail
      refine bodyPost_ret (v := .tuple #[.int .i64 (xs':Nat),.int .i64 xl,.bool true]) (by simp[results,Tryz.results141,go_sem]) rfl ?_
      exact⟨rfl,HB.out.drew⟩
    ·have hk0:((xk:Int) == 0)=false:=by simp;omega
     have hk1:¬(xk:Int)=0:=by omega
     have hee:=bytes_no h2
     have hfx:(xf:Int)<xs.length:=by have:=HR.out.1.len;omega
     have HN:Hid (∀w5,Below w2.heap.size w2 w5→FdAt w2 w5 L R k xf):=fun w5 hb=>⟨⟨q,h4,by rw[←h5,HQ.out]⟩,hb⟩
     clear HR HC HQ hy HT h4 h5 h2
     go_wp2_with fail
     go_region
     all_goals
      go_wp2_with fail
      refine⟨⟨xf,HN.out _ HB.out.drew,rfl⟩,?_⟩
      simp[offOf]
      omega
theorem lay_hit {T:List Ly}{L:List Sh}(h:Rel T L){l:Ly}{s:Sh}(hp:Pair L L.length l s){j:Nat}{x:Ly}(hx:T[j]?=some x)(hs:sameStep x l)(most:Int):layD most L s=(L,(j:Int),true):=by
 have hj:j<L.length:=by rw[←h.len];exact(List.getElem?_eq_some_iff.1 hx).1
 have hy:=List.getElem?_eq_getElem hj
 have h1:=(step_iff h (Nat.le_refl _) hp hx hy).1.1 hs
 unfold layD
 cases e:hit L s with
 | none=>exact absurd h1 (hit_none e j _ hy)
 | some i =>
   obtain⟨z,g1,g2,g3,_⟩:=hit_some e
   have:=h.once i j z _ g1 hy (by rw[g2,h1.1]) (by rw[g3,h1.2])
   rw[this]
theorem lay_new {T:List Ly}{L:List Sh}(h:Rel T L){l:Ly}{s:Sh}(hp:Pair L L.length l s)(hn:∀x∈T,¬sameStep x l):hit L s=none:=by
 cases e:hit L s with
 | none=>rfl
 | some i =>
   obtain⟨z,g1,g2,g3,_⟩:=hit_some e
   obtain⟨x,k1,k2,k3,k4⟩:=h.at' g1
   exact absurd ((step_iff h (Nat.le_refl _) hp k1 g1).1.2 ⟨g2,g3⟩) (hn x (List.mem_of_getElem? k1))
def Went (w:World)(B tb:Nat)(O:Nat→Prop)(most:Int)(L:List Sh)(w':World):Prop:=∃O',Tree w' B tb O' most L∧Chg O w w'∧∀b,O' b→O b∨w.heap.size≤b
theorem Went.same {w w':World}{B tb:Nat}{O:Nat→Prop}{most:Int}{L:List Sh}(h:Tree w B tb O most L)(hb:Below w.heap.size w w'):Went w B tb O most L w' :=
 ⟨O,h.below hb,Chg.of_below hb,fun b q=>Or.inl q⟩
theorem Went.trans {w w1 w2:World}{B tb:Nat}{O:Nat→Prop}{most:Int}{L L':List Sh}(h:Went w B tb O most L w1)(k:∀O',Tree w1 B tb O' most L→Went w1 B tb O' most L' w2):Went w B tb O most L' w2:=by
 obtain⟨O1,h1,h2,h3⟩:=h
 obtain⟨O2,k1,k2,k3⟩:=k O1 h1
 refine⟨O2,k1,h2.trans k2 (fun i hi q => ?_),fun b q => ?_⟩
 ·rcases h3 i q with c | c
  ·exact c
  ·omega
 ·rcases k3 b q with c | c
  ·exact h3 b c
  ·exact Or.inr (Nat.le_trans h2.size c)
def lyV (l:Ly):Value := .agg #[.int .i64 l.kd,.int .u64 l.pr,.int .i64 l.fr,.string l.ke,.int .i64 l.fl,.int .i64 l.sl,.int .i64 l.sz]
theorem info142:(Tryz.prog.info? 142).map (fun i=>(i.zero,i.size,i.bytes))=some (some (.agg #[.int .i64 0,.int .u64 0,.int .i64 0,.string ⟨#[]⟩,.int .i64 0,.int .i64 0,.int .i64 0]),7,64):=by kernel_rfl
theorem tree_push {w w5:World}{B tb:Nat}{O:Nat→Prop}{most:Int}{L:List Sh}{T:List Ly}{v:Value}{mb:Nat}(h:TreeAt w B tb O most L T v mb){l:Ly}{s:Sh}(hl:l.wf)(hp:Pair L L.length l s)(hh:hit L s=none)(hn:∀x∈T,¬sameStep x l)(hcap:L.length+1≤top)
  {v5:Value} (ho:OwnR lyC 7 142 B w5 v5 (T++[l])) (hc:Chg (fun b=>v.ownBlock=some b) w w5) (hv5:∀b,v5.ownBlock=some b→v.ownBlock=some b∨w.heap.size≤b) :
  ∃w7,(Instr.mapUpdate 162 (.map (some mb)) (stV l) (.int .i64 (T.length:Int))).run Tryz.prog (w5.setCell ⟨tb,1,none⟩ v5).drew = .ok () w7∧Went w B tb O most (L++[s]) w7:=by
 have htb:tb<w.heap.size:=(Array.getElem?_eq_some_iff.1 h.box).1
 have n2:=h.n2
 have n3:=h.n3
 have hmb:mb<w.heap.size:=(h.lt mb ((h.os mb).2 (Or.inr (Or.inl rfl)))).2
 have hbox5:w5.heap[tb]?=some (.cells #[.int .i64 most,v,.map (some mb)] 165 (0,0)):=by rw[hc.block tb htb (fun q=>n2 q)];exact h.box
 have hset:=heap_setCell_same w5 tb 1 _ 165 v5 hbox5
 have hne1:∀b,v5.ownBlock=some b→b≠tb:=fun b hb e=>by
  subst e
  rcases hv5 b hb with q | q
  ·exact n2 q
  ·omega
 have hne2:∀b,v5.ownBlock=some b→b≠mb:=fun b hb e=>by
  subst e
  rcases hv5 b hb with q | q
  ·exact n3 q
  ·omega
 have c6:Chg (fun b=>b=tb∨v.ownBlock=some b) w (w5.setCell ⟨tb,1,none⟩ v5):=(hc.mono (fun k q=>Or.inr q)).trans (Chg.set (S:=fun b=>b=tb) w5 ⟨tb,1,none⟩ v5 rfl) (fun i _ q=>Or.inl q)
 have hmap:MapAt (w5.setCell ⟨tb,1,none⟩ v5) mb T:=by
  obtain⟨es,clock,hm,he⟩:=h.map
  refine⟨es,clock,?_,he⟩
  rw[c6.block mb hmb (by rintro(q | q);exact h.n1 q.symm;exact n3 q)]
  exact hm
 obtain⟨w7,r1,r2,r3,r4⟩:=(show MapAt (w5.setCell ⟨tb,1,none⟩ v5).drew mb T from hmap).put h.wf l hl hn
 have ho6:OwnR lyC 7 142 B (w5.setCell ⟨tb,1,none⟩ v5) v5 (T++[l]):=ho.set (a:=⟨tb,1,none⟩) hne1 v5
 have c7:Chg (fun b=>b=mb) (w5.setCell ⟨tb,1,none⟩ v5) w7:=Chg.of_grown (grown_undrew r3) (fun k q=>by cases q;rfl)
 refine⟨w7,r1,fun b=>b=tb∨b=mb∨v5.ownBlock=some b,⟨T++[l],v5,mb,?_,ho6.kept c7 hne2,r2,rel_push h.rel hp hh,?_,?_,h.b1,h.b2,h.n1,fun q=>hne1 tb q rfl,fun q=>hne2 mb q rfl,fun b=>Iff.rfl⟩,?_,?_⟩
 ·rw[c7.block tb (by have:=c6.size;omega) (fun q=>h.n1 q)]
  exact hset
 ·intro x hx
  rcases List.mem_append.1 hx with q | q
  ·exact h.wf x q
  ·rw[List.mem_singleton.1 q];exact hl
 ·rw[List.length_append];exact hcap
 ·refine(c6.mono (S':=O) (fun k q => ?_)).trans c7 (fun i _ q => ?_)
  ·rcases q with q | q
   ·exact(h.os k).2 (Or.inl q)
   ·exact(h.os k).2 (Or.inr (Or.inr q))
  ·exact(h.os i).2 (Or.inr (Or.inl q))
 ·intro b q
  rcases q with q | q | q
  ·exact Or.inl ((h.os b).2 (Or.inl q))
  ·exact Or.inl ((h.os b).2 (Or.inr (Or.inl q)))
  ·rcases hv5 b q with c | c
   ·exact Or.inl ((h.os b).2 (Or.inr (Or.inr c)))
   ·exact Or.inr c
end Go.Proofs.YtahhionlbfhinabGreatDoor.Sp
