/- WG, MA, MB, MC -/
import Derived.Test.YtihmdcdifakepaaGreatWF
import Derived.Test.YtihmdcdifakepaaGreatProg
import Derived.Test.YtihmdcdifakepaaGreatB3
import Derived.Deep.Cut
import Derived.Deep.CutBlock
import Derived.Deep.RegionLaw
import Derived.Deep.LoopGhost
import Derived.Maps.OwnSet
import Derived.DeepKeys5
import Derived.WalkKit
import Derived.WalkSpells
import Derived.WalkLawsBesides
import Derived.BigQuiet
import Derived.Below
import Derived.Laws.Rows
import Derived.Laws.AppendOwn
import Derived.Deep.AppendLies
import Derived.Deep.DeepAppendWide
import Derived.Deep.RegionHeldLaw
import Derived.LaidMore
import Derived.Lib.RowBridge
import Derived.Maps.AppendAt
import Derived.StringKeys
set_option linter.unusedVariables false
set_option linter.unusedSimpArgs false
set_option maxRecDepth 100000
set_option maxHeartbeats 40000000
namespace Go.Proofs.YtihmdcdifakepaaGreat.Sc
open Go.RowKit
def szT:(n:Nat)→Tr n→Nat
 | 0,t=>nomatch (t:Empty)
 | n+1,(_,s)=>1+(s.xs.map (szT n)).sum
def szL {n:Nat}(xs:List (Tr n)):Nat:=(xs.map (szT n)).sum
theorem sz_pos (n:Nat)(t:Tr n):1≤szT n t:=by
 cases n with
 | zero=>exact nomatch (t:Empty)
 | succ n=>obtain⟨x,s⟩:=t;rw[szT];omega
theorem szL_cons {n:Nat}(k:Tr n)(ks:List (Tr n)):szL (k :: ks)=szT n k+szL ks:=by unfold szL;simp
theorem szL_nil {n:Nat}:szL ([]:List (Tr n))=0:=rfl
def RC (B pb:Nat)(W0:World)(F:Nat)(args:Array Value)(f:RS→RS)(sz:Nat):Prop :=
 ∀(w:World) (vU vV:Value) (st:RS) (m:Nat),Below B W0 w→PlAt B pb w st m vU vV→m+sz≤1000000 →
  Calls Tryz.prog F args w fun e w'=>e = .returned (.tuple #[])∧∃vU' vV',PlAt B pb w' (f st) (m+sz) vU' vV'∧Stp pb w vU vV w' vU' vV'∧Below B W0 w'
theorem declared_rc (B pb:Nat)(W0:World)(x:Int):RC B pb W0 30 #[.pointer (some ⟨pb,0,none⟩),.int .i64 x] (decR x) 1:=by
 intro w vU vV st m hb hp hm
 refine(declared_any B pb x w vU vV st m hp hm).mono ?_
 rintro e w' ⟨he,vU',vV',h1,h2⟩
 exact⟨he,vU',vV',h1,h2,hp.below h2 hb⟩
theorem used_rc (B pb:Nat)(W0:World)(x:Int):RC B pb W0 57 #[.pointer (some ⟨pb,0,none⟩),.int .i64 x] (useR x) 1:=by
 intro w vU vV st m hb hp hm
 refine(used_any B pb x w vU vV st m hp hm).mono ?_
 rintro e w' ⟨he,vU',vV',h1,h2⟩
 exact⟨he,vU',vV',h1,h2,hp.below h2 hb⟩
structure Fr (B pb:Nat)(W0 w0:World)(vU0 vV0:Value)(bk:Nat)(box:Array Value)(w:World)(vU vV:Value)(st:RS)(m:Nat):Prop where
 bel:Below B W0 w
 pl:PlAt B pb w st m vU vV
 stp:Stp pb w0 vU0 vV0 w vU vV
 box:∀i v,box[i]?=some v→w.cell? ⟨bk,i,none⟩=some v
 lt:bk<w.heap.size
 sep:¬Own pb vU vV bk
theorem six {w:World}{bk:Nat}{a b c d e f:Value}(h:∀i v,#[a,b,c,d,e,f][i]?=some v→w.cell? ⟨bk,i,none⟩=some v):w.cell? ⟨bk,0,none⟩=some a∧w.cell? ⟨bk,1,none⟩=some b∧w.cell? ⟨bk,2,none⟩=some c∧w.cell? ⟨bk,3,none⟩=some d∧w.cell? ⟨bk,4,none⟩=some e∧w.cell? ⟨bk,5,none⟩=some f :=
 ⟨h 0 _ rfl,h 1 _ rfl,h 2 _ rfl,h 3 _ rfl,h 4 _ rfl,h 5 _ rfl⟩
theorem six_new {w w':World}{a b c d e f:Value}{ty:TypeId}(h:w'=w.alloc (.cells #[a,b,c,d,e,f] ty)):w'.cell? ⟨w.heap.size,0,none⟩=some a∧w'.cell? ⟨w.heap.size,1,none⟩=some b∧w'.cell? ⟨w.heap.size,2,none⟩=some c∧w'.cell? ⟨w.heap.size,3,none⟩=some d∧w'.cell? ⟨w.heap.size,4,none⟩=some e∧w'.cell? ⟨w.heap.size,5,none⟩=some f:=by
 rw[h]
 exact⟨box_new w _ _ 0 _ rfl,box_new w _ _ 1 _ rfl,box_new w _ _ 2 _ rfl,box_new w _ _ 3 _ rfl,box_new w _ _ 4 _ rfl,box_new w _ _ 5 _ rfl⟩
theorem Fr.start {B pb:Nat}{W0 w:World}{vU vV:Value}{st:RS}{m:Nat}(hb:Below B W0 w)(hp:PlAt B pb w st m vU vV)(box:Array Value)(ty:TypeId):Fr B pb W0 w vU vV w.heap.size box (w.alloc (.cells box ty)) vU vV st m :=
 have h:Below w.heap.size w (w.alloc (.cells box ty)):=(Below.refl _ _).alloc (Nat.le_refl _) _
 ⟨hb.alloc hp.size _,hp.new h,Stp.new _ _ h,box_new w box ty,by simp,fun q=>by have:=hp.lt _ q;omega⟩
theorem Fr.call {B pb:Nat}{W0 w0:World}{vU0 vV0:Value}{bk:Nat}{box:Array Value}{w:World}{vU vV:Value}{st:RS}{m:Nat}(h:Fr B pb W0 w0 vU0 vV0 bk box w vU vV st m)
  {w':World} {vU' vV':Value} {st':RS} {m':Nat} (hp:PlAt B pb w' st' m' vU' vV') (hs:Stp pb w vU vV w' vU' vV') (hb:Below B W0 w'):Fr B pb W0 w0 vU0 vV0 bk box w' vU' vV' st' m' :=
 ⟨hb,hp,h.stp.trans hs,fun i v q=>hs.chg.cell (h.box i v q) h.sep,Nat.lt_of_lt_of_le h.lt hs.chg.size,fun q=>h.sep (hs.own _ q h.lt)⟩
theorem Fr.new {B pb:Nat}{W0 w0:World}{vU0 vV0:Value}{bk:Nat}{box:Array Value}{w w':World}{vU vV:Value}{st:RS}{m:Nat}(h:Fr B pb W0 w0 vU0 vV0 bk box w vU vV st m)(hb:Below w.heap.size w w'):Fr B pb W0 w0 vU0 vV0 bk box w' vU vV st m :=
 h.call (h.pl.new hb) (Stp.new _ _ hb) (h.bel.trans (hb.mono h.pl.size))
theorem Fr.spoil {B pb:Nat}{W0 w0:World}{vU0 vV0:Value}{bk:Nat}{box:Array Value}{w:World}{vU vV:Value}{st:RS}{m:Nat}(h:Fr B pb W0 w0 vU0 vV0 bk box w vU vV st m):Fr B pb W0 w0 vU0 vV0 bk box (w.setCell ⟨pb,2,none⟩ (.bool true)) vU vV none m:=by
 obtain⟨h1,h2⟩:=h.pl.spoil
 exact h.call h1 h2 (h.pl.below h2 h.bel)
theorem Fr.atOnce {B pb:Nat}{W0 w:World}{vU vV:Value}{st:RS}{m:Nat}(hb:Below B W0 w)(hp:PlAt B pb w st m vU vV)(box:Array Value)(ty:TypeId)(m':Nat)(hm:m≤m') :
  ∃vU' vV',PlAt B pb ((w.setCell ⟨pb,2,none⟩ (.bool true)).alloc (.cells box ty)) none m' vU' vV'∧Stp pb w vU vV ((w.setCell ⟨pb,2,none⟩ (.bool true)).alloc (.cells box ty)) vU' vV'∧Below B W0 ((w.setCell ⟨pb,2,none⟩ (.bool true)).alloc (.cells box ty)):=by
 obtain⟨h1,h2⟩:=hp.spoil
 have hb1:=hp.below h2 hb
 have h:Below (w.setCell ⟨pb,2,none⟩ (.bool true)).heap.size (w.setCell ⟨pb,2,none⟩ (.bool true)) ((w.setCell ⟨pb,2,none⟩ (.bool true)).alloc (.cells box ty)):=(Below.refl _ _).alloc (Nat.le_refl _) _
 exact⟨vU,vV,(h1.new h).more hm,h2.trans (Stp.new _ _ h),hb1.alloc h1.size _⟩
theorem Fr.stays {B pb:Nat}{W0 w:World}{vU vV:Value}{st:RS}{m:Nat}(hb:Below B W0 w)(hp:PlAt B pb w st m vU vV)(box:Array Value)(ty:TypeId)(m':Nat)(hm:m≤m')(u:Value)(hu:u = .bool st.isNone) :
  ∃vU' vV',PlAt B pb ((w.setCell ⟨pb,2,none⟩ u).alloc (.cells box ty)) st m' vU' vV'∧Stp pb w vU vV ((w.setCell ⟨pb,2,none⟩ u).alloc (.cells box ty)) vU' vV'∧Below B W0 ((w.setCell ⟨pb,2,none⟩ u).alloc (.cells box ty)):=by
 subst hu
 obtain⟨U,V,h1,h2,h3,h4⟩:=hp.mem
 have hc:Chg (fun k=>k=pb) w (w.setCell ⟨pb,2,none⟩ (.bool st.isNone)):=Chg.set w _ _ rfl
 have hq:PlAt B pb (w.setCell ⟨pb,2,none⟩ (.bool st.isNone)) st m vU vV:=by
  refine⟨U,V,⟨?_,?_,?_,?_,?_,?_,h1.oU.kept hc (fun k e q=>h1.sU (q ▸ e)),h1.oV.kept hc (fun k e q=>h1.sV (q ▸ e)),h1.sU,h1.sV,h1.sUV,h1.pB⟩,h2,h3,h4⟩
  ·rw[World.cell?_setCell_other _ _ _ _ (by simp)];exact h1.c0
  ·rw[World.cell?_setCell_other _ _ _ _ (by simp)];exact h1.c1
  ·exact World.cell?_setCell_same _ _ _ h1.c2
  ·rw[World.frozen?_setCell];exact h1.f0
  ·rw[World.frozen?_setCell];exact h1.f1
  ·rw[World.frozen?_setCell];exact h1.f2
 have hs:Stp pb w vU vV (w.setCell ⟨pb,2,none⟩ (.bool st.isNone)) vU vV:=⟨Chg.set w _ _ (Or.inl rfl),fun _ q _=>q⟩
 have h:Below (w.setCell ⟨pb,2,none⟩ (.bool st.isNone)).heap.size (w.setCell ⟨pb,2,none⟩ (.bool st.isNone)) ((w.setCell ⟨pb,2,none⟩ (.bool st.isNone)).alloc (.cells box ty)):=(Below.refl _ _).alloc (Nat.le_refl _) _
 exact⟨vU,vV,(hq.new h).more hm,hs.trans (Stp.new _ _ h),(hp.below hs hb).alloc hq.size _⟩
theorem Fr.done {B pb:Nat}{W0 w0:World}{vU0 vV0:Value}{bk:Nat}{box:Array Value}{w:World}{vU vV:Value}{st st':RS}{m m':Nat}(h:Fr B pb W0 w0 vU0 vV0 bk box w vU vV st m)(hs:st'=st)(hm:m≤m') :
  ∃vU' vV',PlAt B pb w st' m' vU' vV'∧Stp pb w0 vU0 vV0 w vU' vV'∧Below B W0 w:=⟨vU,vV,hs ▸ h.pl.more hm,h.stp,h.bel⟩
def Six (w:World)(b off:Nat)(x:Nd)(v:Value):Prop :=
 w.cell? ⟨b,off,none⟩=some (.int .i64 x.kind)∧w.cell? ⟨b,off+1,none⟩=some (.int .i64 x.pl)∧w.cell? ⟨b,off+2,none⟩=some (.string x.name) ∧
  w.cell? ⟨b,off+3,none⟩=some (.int .u64 x.num)∧w.cell? ⟨b,off+4,none⟩=some (.string x.op)∧w.cell? ⟨b,off+5,none⟩=some v
theorem empty_rc (B pb:Nat)(W0:World)(x:Nd)(ad:Option Addr)(len cap:Nat)(hl:len≤maxLen) :
  RC B pb W0 52 #[.pointer (some ⟨pb,0,none⟩),.agg #[.int .i64 x.kind,.int .i64 x.pl,.string x.name,.int .u64 x.num,.string x.op,.slice ad len cap]] (fun st=>if 0<len then none else st) 0:=by
 intro w vU vV st m hb hp hm
 obtain⟨kind,pl,name,num,op⟩:=x
 simp only
 unfold maxLen at hl
 have HB:Hid (Below B W0 w∧PlAt B pb w st m vU vV):=⟨hb,hp⟩
 obtain⟨c2,f2⟩:=hp.bad
 have pbl:pb<w.heap.size:=hp.lt pb (Or.inl rfl)
 clear hb hp
 obtain⟨R,hR⟩:∃R:RS,R=if 0<len then none else st:=⟨_,rfl⟩
 rw[←hR]
 have HR:Hid (R=if 0<len then none else st):=hR
 clear hR
 cases st with
 | none =>
   simp only[Option.isNone_none] at c2
   go_enter Tryz.func52,Tryz.ntmps52
   go_wp2_with fail
   go_end0
   refine⟨rfl,?_⟩
   have e:R=none:=by rw[HR.out];split <;> rfl
   rw[e]
   exact Fr.atOnce HB.out.1 HB.out.2 _ _ _ (by omega)
 | some s =>
   simp only[Option.isNone_some] at c2
   rcases Nat.eq_zero_or_pos len with c | c
   ·subst c
    have e:R=some s:=by rw[HR.out];rfl
    rw[e]
    clear HR e
    go_enter Tryz.func52,Tryz.ntmps52
    go_wp2_with fail
    go_end0
    exact⟨rfl,Fr.stays HB.out.1 HB.out.2 _ _ _ (by omega) _ rfl⟩
   ·have e:R=none:=by rw[HR.out,if_pos c]
    rw[e]
    clear HR e
    go_enter Tryz.func52,Tryz.ntmps52
    go_wp2_with fail
    go_end0
    exact⟨rfl,Fr.atOnce HB.out.1 HB.out.2 _ _ _ (by omega)⟩
end Go.Proofs.YtihmdcdifakepaaGreat.Sc
namespace Go.Proofs.YtihmdcdifakepaaGreat.Rv
open Go.RowKit Go.Proofs.YtihmdcdifakepaaGreat.Sc
structure Chg (S:Nat→Prop)(w w':World):Prop where
 os:w'.os=w.os
 tape:w'.tape=w.tape
 output:w'.output=w.output
 size:w.heap.size≤w'.heap.size
 block:∀k,k<w.heap.size→¬S k→w'.heap[k]?=w.heap[k]?
theorem Chg.refl (S:Nat→Prop)(w:World):Chg S w w:=⟨rfl,rfl,rfl,Nat.le_refl _,fun _ _ _=>rfl⟩
theorem Chg.trans {S S':Nat→Prop}{a b c:World}(h:Chg S a b)(k:Chg S' b c)(hs:∀i,i<a.heap.size→S' i→S i):Chg S a c :=
 ⟨k.os.trans h.os,k.tape.trans h.tape,k.output.trans h.output,Nat.le_trans h.size k.size,fun i hi hn=>(k.block i (Nat.lt_of_lt_of_le hi h.size) (fun q=>hn (hs i hi q))).trans (h.block i hi hn)⟩
theorem Chg.of_below {S:Nat→Prop}{w w':World}(h:Below w.heap.size w w'):Chg S w w':=⟨h.os,h.tape,h.output,h.size,fun k hk _=>h.block k hk⟩
theorem Chg.of_grown {S:Nat→Prop}{w w':World}{row:Option Nat}(h:w.grownBy w' row)(hr:∀k,row=some k→S k):Chg S w w' :=
 ⟨h.os,h.tape,h.output,h.size,fun k hk hn=>h.block k hk (fun e=>hn (hr k e.symm))⟩
theorem Chg.set {S:Nat→Prop}(w:World)(p:Addr)(v:Value)(hs:S p.block):Chg S w (w.setCell p v) :=
 ⟨rfl,rfl,rfl,by simp,fun k hk hn=>Below.heap_setCell w p v k (fun e=>hn (e ▸ hs))⟩
theorem Chg.cell {S:Nat→Prop}{w w':World}(h:Chg S w w'){a:Addr}{u:Value}(hu:w.cell? a=some u)(hn:¬S a.block):w'.cell? a=some u:=by
 rw[World.cell?_of_block (w:=w) (h.block a.block (World.block_lt_of_cell? w _ hu) hn)]
 exact hu
theorem Chg.below {S:Nat→Prop}{B:Nat}{W w w':World}(h:Chg S w w')(hb:Below B W w)(hB:B≤w.heap.size)(hs:∀k,S k→B≤k):Below B W w' :=
 ⟨h.os.trans hb.os,h.tape.trans hb.tape,h.output.trans hb.output,Nat.le_trans hb.size h.size,fun k hk=>(h.block k (by omega) (fun q=>by have:=hs k q;omega)).trans (hb.block k hk)⟩
theorem Chg.mono {S S':Nat→Prop}{w w':World}(h:Chg S w w')(hs:∀k,S k→S' k):Chg S' w w':=⟨h.os,h.tape,h.output,h.size,fun k hk hn=>h.block k hk (fun q=>hn (hs k q))⟩
theorem Chg.drew {S:Nat→Prop}{w w':World}(h:Chg S w w'):Chg S w w'.drew:=⟨h.os,h.tape,h.output,h.size,h.block⟩
theorem Chg.new {S:Nat→Prop}{w w':World}(h:Chg S w w')(o:Obj):Chg S w (w'.alloc o):=h.trans (Chg.of_below (S:=fun _=>False) ((Below.refl _ _).alloc (Nat.le_refl _) _)) (fun _ _ q=>q.elim)
theorem below_new {B:Nat}{w w':World}(h:Below B w w')(hB:B≤w'.heap.size)(o:Obj):Below B w (w'.alloc o):=h.alloc hB o
theorem grown_of_below {w w':World}(h:Below w.heap.size w w'):w.grownBy w' none:=⟨h.os,h.tape,h.output,h.size,fun k hk _=>h.block k hk⟩
theorem below_grown {w w':World}(h:w.grownBy w' none):Below w.heap.size w w':=⟨h.os,h.tape,h.output,h.size,fun k hk=>h.block k hk (by simp)⟩
theorem size_new (w:World)(o:Obj):(w.alloc o).heap.size=w.heap.size+1:=by
 show(w.heap.push o).size=_
 exact Array.size_push _
theorem at_new (w:World)(o:Obj):(w.alloc o).heap[w.heap.size]?=some o:=by
 show(w.heap.push o)[w.heap.size]?=some o
 exact Array.getElem?_push_size
theorem at_old (w:World)(o:Obj)(b:Nat)(o':Obj)(h:w.heap[b]?=some o'):(w.alloc o).heap[b]?=some o':=by
 show(w.heap.push o)[b]?=some o'
 rw[Array.getElem?_push]
 have:=(Array.getElem?_eq_some_iff.1 h).1
 rw[if_neg (by omega)]
 exact h
theorem box_new (w:World)(cs:Array Value)(t:TypeId)(j:Nat)(u:Value)(h:cs[j]?=some u):(w.alloc (.cells cs t)).cell? ⟨w.heap.size,j,none⟩=some u:=by
 rw[cell_of_row _ w.heap.size j cs t (0,0) (at_new w _)]
 exact h
section
variable {β:Type}{enc:β→List Value}{k:Nat}
theorem flat_at (hk:∀y,(enc y).length=k):∀(xs:List β)(i:Nat)(g:β),xs[i]?=some g→∀(j:Nat)(u:Value),(enc g)[j]?=some u→(xs.flatMap enc)[i*k+j]?=some u
 | [],i,g,h,_,_,_=>by simp at h
 | x :: xs,0,g,h,j,u,hj=>by
   simp at h
   subst h
   have jl:j<(enc x).length:=(List.getElem?_eq_some_iff.1 hj).1
   rw[List.flatMap_cons,Nat.zero_mul,Nat.zero_add,List.getElem?_append_left jl]
   exact hj
 | x :: xs,i+1,g,h,j,u,hj=>by
   rw[List.flatMap_cons,List.getElem?_append_right (by rw[hk x,Nat.succ_mul];omega)]
   have:=flat_at hk xs i g (by simpa using h) j u hj
   rw[←this,hk x]
   congr 1
   rw[Nat.succ_mul]
   omega
theorem flat_len (hk:∀y,(enc y).length=k):∀xs:List β,(xs.flatMap enc).length=xs.length*k
 | []=>by simp
 | x :: xs=>by
   rw[List.flatMap_cons,List.length_append,flat_len hk xs,List.length_cons,hk x,Nat.succ_mul]
   omega
theorem flat_back (hk:∀y,(enc y).length=k):∀(xs:List β)(n:Nat)(u:Value),(xs.flatMap enc)[n]?=some u→∃(i j:Nat)(g:β),xs[i]?=some g∧(enc g)[j]?=some u∧n=i*k+j
 | [],n,u,h=>by simp at h
 | x :: xs,n,u,h=>by
   rw[List.flatMap_cons] at h
   rcases Nat.lt_or_ge n k with c | c
   ·rw[List.getElem?_append_left (by rw[hk x];exact c)] at h
    exact⟨0,n,x,rfl,h,by omega⟩
   ·rw[List.getElem?_append_right (by rw[hk x];exact c),hk x] at h
    obtain⟨i,j,g,h1,h2,h3⟩:=flat_back hk xs (n - k) u h
    exact⟨i+1,j,g,by simpa using h1,h2,by rw[Nat.succ_mul];omega⟩
def OwnR (enc:β→List Value)(k:Nat)(e:TypeId)(B:Nat)(w:World)(v:Value)(xs:List β):Prop:=w.ownsRow B e k v xs.length (xs.flatMap enc)
variable {e:TypeId}{B:Nat}{w w':World}{v:Value}{xs:List β}
theorem OwnR.nil (B:Nat)(w:World):OwnR enc k e B w (.slice none 0 0) []:=⟨by simp,Or.inl ⟨rfl,rfl⟩⟩
theorem OwnR.lt (h:OwnR enc k e B w v xs):∀b,v.ownBlock=some b→B≤b∧b<w.heap.size:=by
 intro b hk
 rcases h.2 with⟨rfl,_⟩ | ⟨g,cap,cur,rfl,hb,hg,_⟩
 ·simp[Value.ownBlock] at hk
 ·simp[Value.ownBlock] at hk
  subst hk
  exact⟨hb,(Array.getElem?_eq_some_iff.1 hg).1⟩
theorem OwnR.kept {S:Nat→Prop}(h:OwnR enc k e B w v xs)(hb:Chg S w w')(hs:∀b,v.ownBlock=some b→¬S b):OwnR enc k e B w' v xs:=by
 have hl:=h.lt
 rcases h.2 with⟨rfl,h0⟩ | ⟨g,cap,cur,rfl,hbg,hg,h3⟩
 ·exact⟨h.1,Or.inl ⟨rfl,h0⟩⟩
 ·exact⟨h.1,Or.inr ⟨g,cap,cur,rfl,hbg,by rw[hb.block g (hl g rfl).2 (hs g rfl)];exact hg,h3⟩⟩
theorem OwnR.below (h:OwnR enc k e B w v xs)(hb:Below w.heap.size w w'):OwnR enc k e B w' v xs:=h.kept (S:=fun _=>False) (Chg.of_below hb) (fun _ _ q=>q)
theorem OwnR.low {B':Nat}(h:OwnR enc k e B w v xs)(hB:B'≤B):OwnR enc k e B' w v xs:=by
 refine⟨h.1,?_⟩
 rcases h.2 with h0 | ⟨g,cap,cur,h1,hb,h2⟩
 ·exact Or.inl h0
 ·exact Or.inr ⟨g,cap,cur,h1,by omega,h2⟩
theorem OwnR.sl (hk:∀y,(enc y).length=k)(h:OwnR enc k e B w v xs):∃s:Sli β,v=s.val∧s.xs=xs∧s.ok enc k w∧(∀b off,s.at'=some ⟨b,off,none⟩→v.ownBlock=some b):=by
 rcases h.2 with⟨rfl,hn⟩ | ⟨g,cap,cur,rfl,hb,hg,hnc,hcm,hcs,ht⟩
 ·have:=List.length_eq_zero_iff.1 hn
  subst this
  exact⟨⟨none,0,[]⟩,rfl,rfl,⟨Nat.le_refl _,Nat.zero_le _,fun h=>absurd rfl h⟩,fun b off q=>by cases q⟩
 ·refine⟨⟨some ⟨g,0,none⟩,cap,xs⟩,rfl,rfl,⟨hnc,hcm,fun h0=>⟨g,0,rfl,?_⟩⟩,fun b off q=>by cases q;rfl⟩
  intro i y hi j u hj
  have hf:=flat_at hk xs i y hi j u hj
  rw[cell_of_row w g _ cur e (0,0) hg,Nat.zero_add]
  have hl:=(List.getElem?_eq_some_iff.1 hf).1
  rw[flat_len hk] at hl
  have e:(cur.toList.take (xs.length*k))[i*k+j]?=some u:=by rw[ht];exact hf
  rw[List.getElem?_take_of_lt hl] at e
  simpa using e
theorem OwnR.set (h:OwnR enc k e B w v xs){a:Addr}(ha:∀b,v.ownBlock=some b→b≠a.block)(u:Value):OwnR enc k e B (w.setCell a u) v xs :=
 h.kept (S:=fun b=>b=a.block) (Chg.set w a u rfl) ha
theorem info_parts {P:Program}{t:TypeId}{z:Value}{s b:Nat}(h:(P.info? t).map (fun i=>(i.zero,i.size,i.bytes))=some (some z,s,b)):∃i,P.info? t=some i∧i.zero=some z∧i.size=s∧i.bytes=b:=by
 obtain⟨i,hi,h2⟩:=Option.map_eq_some_iff.1 h
 simp only[Prod.mk.injEq] at h2
 exact⟨i,hi,h2.1,h2.2.1,h2.2.2⟩
theorem news_of {b off:Nat}{ys:List β}(hk:∀y,(enc y).length=k)(hg:∀(i:Nat)(y:β),ys[i]?=some y→∀(j:Nat)(u:Value),(enc y)[j]?=some u→w.cell? ⟨b,off+i*k+j,none⟩=some u) :
  ∀(j:Nat) (u:Value),(ys.flatMap enc)[j]?=some u→w.cell? ((⟨b,off,none⟩:Addr).add j)=some u:=by
 intro n u hn
 obtain⟨i,j,g,h1,h2,rfl⟩:=flat_back hk ys n u hn
 have:=hg i g h1 j u h2
 rw[Nat.add_assoc] at this
 generalize i*k+j=q at *
 by_cases c:q=0
 ·subst c;simpa [Addr.add] using this
 ·simpa [Addr.add,c] using this
end
structure RT {β:Type}(enc:β→List Value)(t e:TypeId)(k bytes:Nat):Prop where
 len:∀y,(enc y).length=k
 und:Tryz.prog.underlying t=some (.slice e)
 inf:∃i z,Tryz.prog.info? e=some i∧i.zero=some z∧i.size=k∧i.bytes=bytes∧z.cells.size=k
 pos:0<k
 one:∀y,∀u∈enc y,u.oneCell'=true
theorem rt_inf {t:TypeId}{z:Value}{s b:Nat}(h:(Tryz.prog.info? t).map (fun i=>(i.zero,i.size,i.bytes))=some (some z,s,b))(hz:z.cells.size=s):∃i z,Tryz.prog.info? t=some i∧i.zero=some z∧i.size=s∧i.bytes=b∧z.cells.size=s:=by
 obtain⟨i,h1,h2,h3,h4⟩:=info_parts h
 exact⟨i,z,h1,h2,h3,h4,hz⟩
def scpC (s:Rz.Scp):List Value:=[.int .i64 s.pl,.int .i64 s.parent,.int .i64 (s.params:Int),.int .i64 (s.vars:Int)]
def vrC (v:Rz.Vr):List Value:=[.string v.name,.int .i64 v.pl,.int .i64 v.kind,.int .i64 (v.fn:Int),.int .i64 (v.slot:Int),.bool v.cap]
def usC (u:Rz.Us):List Value:=[.int .i64 u.pl,.int .i64 u.var]
def mpC (m:Option Nat):List Value:=[.map m]
def lbC (l:ByteArray×Bool):List Value:=[.string l.1,.bool l.2]
theorem rtScp:RT scpC 26 53 4 32:=⟨fun _=>rfl,Tryz.underlying26,rt_inf (z := .agg #[.int .i64 0,.int .i64 0,.int .i64 0,.int .i64 0]) (by kernel_rfl) rfl,by decide,fun y u h=>by simp[scpC] at h;rcases h with rfl | rfl | rfl | rfl <;> rfl⟩
theorem rtVr:RT vrC 27 61 6 56:=⟨fun _=>rfl,Tryz.underlying27,rt_inf (z := .agg #[.string ⟨#[]⟩,.int .i64 0,.int .i64 0,.int .i64 0,.int .i64 0,.bool false]) (by kernel_rfl) rfl,by decide,fun y u h=>by simp[vrC] at h;rcases h with rfl | rfl | rfl | rfl | rfl | rfl <;> rfl⟩
theorem rtUs:RT usC 28 57 2 16:=⟨fun _=>rfl,Tryz.underlying28,rt_inf (z := .agg #[.int .i64 0,.int .i64 0]) (by kernel_rfl) rfl,by decide,fun y u h=>by simp[usC] at h;rcases h with rfl | rfl <;> rfl⟩
theorem rtMp:RT mpC 40 124 1 8:=⟨fun _=>rfl,Tryz.underlying40,rt_inf (z := .map none) (by kernel_rfl) rfl,by decide,fun y u h=>by simp[mpC] at h;subst h;rfl⟩
theorem rtLb:RT lbC 41 142 2 24:=⟨fun _=>rfl,Tryz.underlying41,rt_inf (z := .agg #[.string ⟨#[]⟩,.bool false]) (by kernel_rfl) rfl,by decide,fun y u h=>by simp[lbC] at h;rcases h with rfl | rfl <;> rfl⟩
section
variable {β:Type}{enc:β→List Value}{t e:TypeId}{k bytes:Nat}
theorem one_sli (R:RT enc t e k bytes){w:World}{cb:Nat}{y:β}{cs:Array Value}{t':TypeId}(h:w.heap[cb]?=some (.cells cs t' (0,0)))(hc:cs.toList=enc y):Sli.ok enc k w ⟨some ⟨cb,0,none⟩,1,[y]⟩:=by
 refine⟨Nat.le_refl _,by show(1:Nat)≤2 ^ 63 - 1;decide,fun _=>⟨cb,0,rfl,fun i z hi j u hj => ?_⟩⟩
 cases i with
 | zero =>
   simp at hi
   subst hi
   rw[cell_of_row w cb _ cs t' (0,0) h]
   rw[show 0+0*k+j=j by omega,←hj,←hc]
   simp
 | succ i=>simp at hi
theorem app_zero (R:RT enc t e k bytes){w:World}{B:Nat}{v:Value}{xs:List β}(h:OwnR enc k e B w v xs)(ka:Option Addr)(kc:Nat)(ty:TypeId):(Builtin.append_ #[t,t] ty #[v,.slice ka 0 kc]).run Tryz.prog w = .ok v w:=by
 obtain⟨i,z,hi,_⟩:=R.inf
 rcases h.2 with⟨rfl,h0⟩ | ⟨g,cap,cur,rfl,hb,hg,hn,hc,hs,ht⟩
 ·cases ka with
  | none=>simp[Builtin.append_,run_underlying R.und,sizeOf,typeInfo,hi,Builtin.lenOf,Builtin.firstCells]
  | some a=>simp[Builtin.append_,run_underlying R.und,sizeOf,typeInfo,hi,Builtin.lenOf,Builtin.firstCells,loadCells,loadCellsFrom]
 ·cases ka with
  | none=>simp[Builtin.append_,run_underlying R.und,sizeOf,typeInfo,hi,Builtin.lenOf,Builtin.firstCells,storeCells,hn]
  | some a=>simp[Builtin.append_,run_underlying R.und,sizeOf,typeInfo,hi,Builtin.lenOf,Builtin.firstCells,storeCells,loadCells,loadCellsFrom,hn]
theorem run_app (R:RT enc t e k bytes){w:World}{B:Nat}{v:Value}{xs:List β}(hown:OwnR enc k e B w v xs)(ad:Addr)(m c:Nat)(ty:TypeId)(news:List Value)(hl:news.length=m*k)(hnews:∀j u,news[j]?=some u→w.cell? (ad.add j)=some u)(h1:∀u∈news,u.oneCell'=true)(hm0:0<m)
  (hm:xs.length+m≤maxLen) (hb:((xs.length+m)+(xs.length+m) / 4+192)*bytes≤281474976710656) (hB:B≤w.heap.size) :
  ∃v' w',(Builtin.append_ #[t,t] ty #[v,.slice (some ad) m c]).run Tryz.prog w = .ok v' w'∧w'.ownsRow B e k v' (xs.length+m) (xs.flatMap enc++news)∧w.grownBy w' v.ownBlock∧(v'.ownBlock=v.ownBlock∨v'.ownBlock=some w.heap.size):=by
 obtain⟨i,z,hi,hz,e1,e2,e3⟩:=R.inf
 have hsmall:xs.length+m≤9223372036854775807:=by simp only[maxLen] at hm;omega
 obtain⟨v',w',hr,h2,h3,h4⟩:=run_append_own_wide (P:=Tryz.prog) w B t ty e i z k bytes R.und hi hz e1 e2 e3 R.pos v xs.length (xs.flatMap enc) hown ad m c news hl hnews h1 hm hb hB
 refine⟨v',w',hr,h2,h3,?_⟩
 subst e1
 subst e2
 rcases hown.2 with⟨rfl,h0⟩ | ⟨g,cap,cur,rfl,hbg,hg,hnc,hcm,hcs,htake⟩
 ·have hx:xs=[]:=List.eq_nil_of_length_eq_zero h0
  subst hx
  have hb':m*i.bytes≤281474976710656:=Nat.le_trans (Nat.mul_le_mul_right _ (by simp only[List.length_nil];omega)) hb
  have hr2:=run_append_nil (P:=Tryz.prog) w t ty e i z R.und hi hz ad m c news hl hnews (by omega) (by simp only[List.length_nil] at hsmall;omega) hb'
  rw[hr2] at hr
  injection hr with hr _
  exact Or.inr (by rw[←hr];rfl)
 ·by_cases hroom:xs.length+m≤cap
  ·have hfit:xs.length*i.size+news.length≤cur.size:=by rw[hl,hcs,←Nat.add_mul];exact Nat.mul_le_mul_right _ hroom
   have hr2:=run_append_room (P:=Tryz.prog) w t ty e i R.und hi g xs.length cap cur hg ad m c news hl hnews h1 hroom hfit
   rw[hr2] at hr
   injection hr with hr _
   exact Or.inl (by rw[←hr];rfl)
  ·have hr2:=run_append_grow (P:=Tryz.prog) w t ty e i z R.und hi hz ⟨g,0,none⟩ xs.length cap (xs.flatMap enc) hown.1 (World.ownsRow.cells hown (g:=g) rfl) ad m c news hl hnews (by omega) (by omega) (growslice_fits_wide (by omega) hb)
   rw[hr2] at hr
   injection hr with hr _
   exact Or.inr (by rw[←hr];rfl)
theorem app_row (R:RT enc t e k bytes){w:World}{ops:Array Oper}{rest:List Oper}{o:Oper}{a:Act}{Q:Exit→Act→World→Prop}(hgd:o.guard=none)(s x:Operand)
  (ho:o.op = .call { callee := .builtin .append,args:=#[s,x],argTypes:=#[t,t] })
  (B:Nat) (v:Value) (xs:List β) (hs:a.eval s=v) (hown:OwnR enc k e B w v xs) (sl:Sli β) (hx:a.eval x=sl.val) (hok:sl.ok enc k w)
  (hm:xs.length+sl.xs.length≤maxLen) (hb:((xs.length+sl.xs.length)+(xs.length+sl.xs.length) / 4+192)*bytes≤281474976710656) (hB:B≤w.heap.size)
  (h:∀v' w',OwnR enc k e B w' v' (xs++sl.xs)→w.grownBy w' v.ownBlock→(v'.ownBlock=v.ownBlock∨v'.ownBlock=some w.heap.size)→wpList Tryz.prog ops Q rest (a.put o.dst v') w'):wpList Tryz.prog ops Q (o :: rest) a w:=by
 by_cases c:sl.xs=[]
 ·have hr:=app_zero R hown sl.at' sl.cap o.type
  refine wpList_plain hgd fun K hK => ?_
  have hx2:a.eval x = .slice sl.at' 0 sl.cap:=by rw[hx];unfold Sli.val;rw[c];rfl
  unfold Oper.wp execOp
  simp only[ho,resolve,invoke,builtin,Sem.run_bind,Sem.run_pure,Result.andThen_ok,List.map_toArray,List.map_cons,List.map_nil,hs,hx2,hr]
  refine hK _ _ (h _ _ ?_ ⟨rfl,rfl,rfl,Nat.le_refl _,fun _ _ _=>rfl⟩ (Or.inl rfl))
  rw[c,List.append_nil]
  exact hown
 ·obtain⟨b,off,e1,hc⟩:=hok.cells c
  have hlp:0<sl.xs.length:=by
   rcases Nat.eq_zero_or_pos sl.xs.length with q | q
   ·exact absurd (List.eq_nil_of_length_eq_zero q) c
   ·exact q
  obtain⟨v',w',hr,g1,g2,g3⟩:=run_app R hown ⟨b,off,none⟩ sl.xs.length sl.cap o.type (sl.xs.flatMap enc) (flat_len R.len _) (news_of R.len hc) (fun u hu=>by obtain⟨g,g1,g2⟩:=List.mem_flatMap.1 hu;exact R.one g u g2) hlp hm hb hB
  refine wpList_plain hgd fun K hK => ?_
  have hx2:a.eval x = .slice (some ⟨b,off,none⟩) sl.xs.length sl.cap:=by rw[hx];unfold Sli.val;rw[e1]
  unfold Oper.wp execOp
  simp only[ho,resolve,invoke,builtin,Sem.run_bind,Sem.run_pure,Result.andThen_ok,List.map_toArray,List.map_cons,List.map_nil,hs,hx2,hr]
  refine hK _ _ (h v' w' ?_ g2 g3)
  unfold OwnR
  rw[List.length_append,List.flatMap_append]
  exact g1
theorem step_row (R:RT enc t e k bytes){W:World}{ops:Array Oper}{o:Oper}{a:Act}{K:Act→World→Prop}{Q:Exit→Act→World→Prop}{E:Prop}(hgd:o.guard=none)(s x:Operand)
  (ho:o.op = .call { callee := .builtin .append,args:=#[s,x],argTypes:=#[t,t] })
  (B:Nat) (v:Value) (xs:List β) (hs:a.eval s=v) (hown:OwnR enc k e B W v xs) (cb:Nat) (y:β) (cs:Array Value) (t':TypeId) (hx:a.eval x = .slice (some ⟨cb,0,none⟩) 1 1) (hcb:W.heap[cb]?=some (.cells cs t' (0,0))) (hcs:cs.toList=enc y)
  (hm:xs.length+1≤maxLen) (hb:((xs.length+1)+(xs.length+1) / 4+192)*bytes≤281474976710656) (hB:B≤W.heap.size)
  (h:∀g cap w',OwnR enc k e B w' (.slice (some ⟨g,0,none⟩) (xs.length+1) cap) (xs++[y])→W.grownBy w' v.ownBlock→(v.ownBlock=some g∨g=W.heap.size)→K (a.put o.dst (.slice (some ⟨g,0,none⟩) (xs.length+1) cap)) w') :
  if Region.wanted o (yielded ops a.tmps)=true then Oper.wp Tryz.prog o a W K Q else E:=by
 have hw:Region.wanted o (yielded ops a.tmps)=true:=by simp[Region.wanted,hgd]
 rw[if_pos hw]
 have hn:∀j u,(enc y)[j]?=some u→W.cell? ((⟨cb,0,none⟩:Addr).add j)=some u:=by
  rw[←hcs]
  exact World.news_of_block (cs:=cs) (t:=t') (fr:=(0,0)) hcb
 obtain⟨v',w',hr,g1,g2,g3⟩:=run_app R hown ⟨cb,0,none⟩ 1 1 o.type (enc y) (by rw[R.len,Nat.one_mul]) hn (R.one y) (by decide) hm hb hB
 obtain⟨g,cap,rfl,_,_⟩:=g1.form (by omega)
 unfold Oper.wp execOp
 simp only[ho,resolve,invoke,builtin,Sem.run_bind,Sem.run_pure,Result.andThen_ok,List.map_toArray,List.map_cons,List.map_nil,hs,hx,hr]
 refine h g cap w' ?_ g2 ?_
 ·unfold OwnR
  rw[List.length_append,List.flatMap_append]
  have:[y].flatMap enc=enc y:=by simp
  rw[this]
  exact g1
 ·rcases g3 with q | q
  ·exact Or.inl (by rw[←q];rfl)
  ·exact Or.inr (by simpa [Value.ownBlock] using q)
end
section
variable {β:Type}{enc:β→List Value}{k:Nat}{e:TypeId}{B:Nat}
theorem OwnR.read {w:World}{g n cap:Nat}{xs:List β}(hk:∀y,(enc y).length=k)(h:OwnR enc k e B w (.slice (some ⟨g,0,none⟩) n cap) xs) :
  n=xs.length∧B≤g∧g<w.heap.size∧xs.length≤cap∧cap≤maxLen∧(∀(i:Nat) (y:β),xs[i]?=some y→∀(j:Nat) (u:Value),(enc y)[j]?=some u→w.cell? ⟨g,i*k+j,none⟩=some u)∧(∀m,w.frozen? ⟨g,m,none⟩=false):=by
 rcases h.2 with⟨h1,h0⟩ | ⟨g',cap',cur,h1,hb,hg,hn,hc,hs,ht⟩
 ·cases h1
 ·cases h1
  refine⟨rfl,hb,(Array.getElem?_eq_some_iff.1 hg).1,hn,hc,fun i y hi j u hu => ?_,fun m=>frozen_of_row w g m cur e hg⟩
  have hf:=flat_at hk xs i y hi j u hu
  rw[cell_of_row w g _ cur e (0,0) hg]
  have hl:=(List.getElem?_eq_some_iff.1 hf).1
  rw[flat_len hk] at hl
  have e1:(cur.toList.take (xs.length*k))[i*k+j]?=some u:=by rw[ht];exact hf
  rw[List.getElem?_take_of_lt hl] at e1
  simpa using e1
theorem flat_set (hk:∀y,(enc y).length=k){y y':β}{j:Nat}{u:Value}(hj:j<k)(he:enc y'=(enc y).set j u):∀(xs:List β)(i:Nat),xs[i]?=some y→(xs.set i y').flatMap enc=(xs.flatMap enc).set (i*k+j) u:=by
 intro xs
 induction xs with
 | nil=>intro i hi;simp at hi
 | cons x xs ih =>
   intro i hi
   cases i with
   | zero =>
     simp at hi
     subst hi
     rw[List.set_cons_zero,List.flatMap_cons,List.flatMap_cons,Nat.zero_mul,Nat.zero_add,List.set_append_left _ _ (by rw[hk];exact hj),he]
   | succ i =>
     simp at hi
     rw[List.set_cons_succ,List.flatMap_cons,List.flatMap_cons,ih i hi,List.set_append_right _ _ (by rw[hk,Nat.succ_mul];omega)]
     congr 2
     rw[hk,Nat.succ_mul]
     omega
theorem OwnR.put {w:World}{g n cap:Nat}{xs:List β}(hk:∀y,(enc y).length=k)(h:OwnR enc k e B w (.slice (some ⟨g,0,none⟩) n cap) xs){i j:Nat}{y y':β}{u:Value}(hi:xs[i]?=some y)(hj:j<k)(he:enc y'=(enc y).set j u):OwnR enc k e B (w.setCell ⟨g,i*k+j,none⟩ u) (.slice (some ⟨g,0,none⟩) n cap) (xs.set i y'):=by
 rcases h.2 with⟨h1,h0⟩ | ⟨g',cap',cur,h1,hb,hg,hn,hc,hs,ht⟩
 ·cases h1
 ·cases h1
  refine⟨flat_len hk _,Or.inr ⟨g,cap,cur.setIfInBounds (i*k+j) u,by rw[List.length_set],hb,heap_setCell_same w g (i*k+j) cur e u hg,by rw[List.length_set];exact hn,hc,by rw[Array.size_setIfInBounds];exact hs,?_⟩⟩
  rw[Array.toList_setIfInBounds,List.length_set,flat_set hk hj he xs i hi,←ht,List.take_set]
end
theorem OwnR.cut {β:Type}{enc:β→List Value}{k:Nat}{e:TypeId}{B:Nat}{w:World}{g n cap:Nat}{xs ys:List β}(hk:∀y,(enc y).length=k)(h:OwnR enc k e B w (.slice (some ⟨g,0,none⟩) n cap) (xs++ys)):OwnR enc k e B w (.slice (some ⟨g,0,none⟩) xs.length cap) xs:=by
 rcases h.2 with⟨h1,h0⟩ | ⟨g',cap',cur,h1,hb,hg,hn,hc,hs,ht⟩
 ·cases h1
 ·cases h1
  rw[List.length_append] at hn ht
  refine⟨flat_len hk xs,Or.inr ⟨g,cap,cur,rfl,hb,hg,by omega,hc,hs,?_⟩⟩
  have h2:(cur.toList.take ((xs.length+ys.length)*k)).take (xs.length*k)=((xs++ys).flatMap enc).take (xs.length*k):=by rw[ht]
  have h3:(xs.flatMap enc).take (xs.length*k)=xs.flatMap enc:=List.take_of_length_le (by rw[flat_len hk];exact Nat.le_refl _)
  rw[List.take_take,List.flatMap_append,List.take_append_of_le_length (by rw[flat_len hk];exact Nat.le_refl _),h3] at h2
  rw[←h2]
  congr 1
  rw[Nat.add_mul]
  omega
theorem laidOut:laidOutB Tryz.prog=true:=by kernel_rfl
theorem key_law:WideMaps.KeyLaw Tryz.prog 9:=Go.WideMaps.string_law Tryz.underlying9
theorem key_of {s:ByteArray}(hs:s.size≤maxLen):keyOf Tryz.prog 9 (.string s)=some (.string s.data.toList):=by simp[keyOf,mapKey,Tryz.underlying9,hs]
theorem zero3 (w:World):(zeroValue 3).run Tryz.prog w = .ok (.int .i64 0) w:=by
 kernel_rfl
theorem look_none (s:ByteArray)(hs:s.size≤maxLen)(w:World):(Instr.lookup 124 (.map none) (.string s) true).run Tryz.prog w = .ok (.tuple #[.int .i64 0,.bool false]) w :=
 Maps.look_nil (k:=9) true (Maps.string_keyed Tryz.underlying9) Tryz.underlying124 (zero3 w) (kl := .string s.data.toList) (key_of hs)
abbrev Blk:=List (ByteArray×Nat)
structure Blk.wf (b:Blk):Prop where
 nd:(b.map Prod.fst).Nodup
 sz:∀e∈b,e.1.size≤maxLen
def enM (e:ByteArray×Nat):Value×Value:=(.string e.1,.int .i64 (e.2:Int))
def MpAt (w:World)(m:Option Nat)(b:Blk):Prop :=
 (m=none∧b=[])∨∃mb es clock,m=some mb∧w.heap[mb]?=some (.map es clock)∧es.toList.map (fun e=>(e.key,e.val))=b.reverse.map enM
theorem MpAt.kept {w w':World}{m:Option Nat}{b:Blk}(h:MpAt w m b)(hk:∀mb,m=some mb→w'.heap[mb]?=w.heap[mb]?):MpAt w' m b:=by
 rcases h with h | ⟨mb,es,clock,h1,h2,h3⟩
 ·exact Or.inl h
 ·exact Or.inr ⟨mb,es,clock,h1,by rw[hk mb h1];exact h2,h3⟩
theorem enM_at {b:Blk}{es:List MapEntry}(h:es.map (fun e=>(e.key,e.val))=b.reverse.map enM)(j:Nat)(e:MapEntry)(he:es[j]?=some e):∃x,x∈b∧e.key = .string x.1∧e.val = .int .i64 (x.2:Int):=by
 have h1:=congrArg (·[j]?) h
 simp only[List.getElem?_map,he,Option.map_some] at h1
 cases hx:b.reverse[j]? with
 | none=>rw[hx] at h1;simp at h1
 | some x =>
   rw[hx] at h1
   simp[enM] at h1
   exact⟨x,List.mem_reverse.1 (List.mem_of_getElem? hx),h1.1,h1.2⟩
theorem enM_keys {b:Blk}(hw:Blk.wf b){es:List MapEntry}(h:es.map (fun e=>(e.key,e.val))=b.reverse.map enM):∀e∈es,∃l,keyOf Tryz.prog 9 e.key=some l:=by
 intro e he
 obtain⟨j,hj⟩:=List.mem_iff_getElem?.1 he
 obtain⟨x,h1,h2,_⟩:=enM_at h j e hj
 rw[h2]
 exact⟨_,key_of (hw.sz x h1)⟩
def fnd (nm:ByteArray)(b:Blk):Option (ByteArray×Nat):=b.find? (fun e=>decide (e.1=nm))
theorem fnd_none {nm:ByteArray}{b:Blk}(h:∀x∈b,x.1≠nm):fnd nm b=none:=by
 unfold fnd
 rw[List.find?_eq_none]
 intro x hx
 simpa using h x hx
theorem fnd_some {nm:ByteArray}:∀ {b:Blk},(b.map Prod.fst).Nodup→∀x,x∈b→x.1=nm→fnd nm b=some x
 | [],_,x,h,_=>by cases h
 | y :: b,hn,x,h,hx=>by
   unfold fnd
   rw[List.map_cons,List.nodup_cons] at hn
   by_cases c:y.1=nm
   ·rw[List.find?_cons_of_pos (by simpa using c)]
    rcases List.mem_cons.1 h with q | q
    ·rw[q]
    ·exact absurd (List.mem_map.2 ⟨x,q,by rw[hx,c]⟩) hn.1
   ·rw[List.find?_cons_of_neg (by simpa using c)]
    rcases List.mem_cons.1 h with q | q
    ·rw[q] at hx
     exact absurd hx c
    ·exact fnd_some hn.2 x q hx
def lookV (nm:ByteArray)(b:Blk):Value := .tuple #[.int .i64 (((fnd nm b).map (fun e=>(e.2:Int))).getD 0),.bool (fnd nm b).isSome]
theorem MpAt.look {w:World}{m:Option Nat}{b:Blk}(h:MpAt w m b)(hw:Blk.wf b){nm:ByteArray}(hn:nm.size≤maxLen):(Instr.lookup 124 (.map m) (.string nm) true).run Tryz.prog w = .ok (lookV nm b) w:=by
 rcases h with⟨rfl,rfl⟩ | ⟨mb,es,clock,rfl,hb,he⟩
 ·exact look_none nm hn w
 ·have hz:=key_of hn
  rcases key_law.find w hz es.toList (enM_keys hw he) with⟨f1,f2⟩ | ⟨j,e,f1,f2,f3⟩
  ·have hno:fnd nm b=none:=fnd_none (fun x hx hs=>by
    have hx2:=List.mem_reverse.2 hx
    obtain⟨j,hj⟩:=List.mem_iff_getElem?.1 hx2
    have h1:=congrArg (·[j]?) he
    simp only[List.getElem?_map,hj,Option.map_some] at h1
    cases hq:es.toList[j]? with
    | none=>rw[hq] at h1;simp at h1
    | some e =>
      rw[hq] at h1
      simp[enM] at h1
      exact f2 e (List.mem_of_getElem? hq) (by rw[h1.1,hs]))
   unfold lookV
   rw[hno]
   simp[Instr.lookup,run_underlying Tryz.underlying124,MapKept.run_getObj_map hb,key_law.check w _ hz,f1,Result.andThen]
  ·obtain⟨x,h1,h2,h3⟩:=enM_at he j e f2
   have hs:fnd nm b=some x:=fnd_some hw.nd x h1 (by
    rw[h2] at f3
    simpa using f3)
   unfold lookV
   rw[hs]
   simp[Instr.lookup,run_underlying Tryz.underlying124,MapKept.run_getObj_map hb,key_law.check w _ hz,f1,h3,Result.andThen]
theorem MpAt.put {w:World}{mb:Nat}{b:Blk}(h:MpAt w (some mb) b)(hw:Blk.wf b){nm:ByteArray}(hn:nm.size≤maxLen)(hno:∀x∈b,x.1≠nm)(v:Nat) :
  ∃w',(Instr.mapUpdate 124 (.map (some mb)) (.string nm) (.int .i64 (v:Int))).run Tryz.prog w = .ok () w'∧MpAt w' (some mb) ((nm,v) :: b)∧w.grownBy w' (some mb)∧w'.heap.size=w.heap.size:=by
 rcases h with⟨h,_⟩ | ⟨mb',es,clock,e1,hb,he⟩
 ·cases h
 ·cases e1
  have hz:=key_of hn
  rcases key_law.find w hz es.toList (enM_keys hw he) with⟨f1,f2⟩ | ⟨j,e,f1,f2,f3⟩
  ·refine⟨ChangeMaps.setBlock w mb (.map (es.push ⟨.string nm,.int .i64 (v:Int),clock⟩) (clock+1)),?_,Or.inr ⟨mb,_,_,rfl,ChangeMaps.heap_setBlock_same hb _,?_⟩,⟨rfl,rfl,rfl,by simp[ChangeMaps.setBlock],fun i _ hi=>ChangeMaps.heap_setBlock_other hb _ (fun e=>hi (by rw[e]))⟩,by simp[ChangeMaps.setBlock]⟩
   ·simp[Instr.mapUpdate,run_underlying Tryz.underlying124,MapKept.run_getObj_map hb,key_law.check w _ hz,f1,MapKept.run_setObj_map _ hb,Result.andThen,ChangeMaps.setBlock]
   ·simp[he,enM]
  ·obtain⟨x,h1,h2,h3⟩:=enM_at he j e f2
   exact absurd (by rw[h2] at f3;simpa using f3) (hno x h1)
end Go.Proofs.YtihmdcdifakepaaGreat.Rv
