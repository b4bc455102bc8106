/- WA, WB, WC -/
import Derived.Test.YtihmdcdifakepaaGreatProg
import Derived.Test.YtihmdcdifakepaaGreatB2
import Derived.WalkKit
import Derived.WalkSpells
import Derived.WalkLawsBesides
import Derived.BigQuiet
import Derived.Below
import Derived.Laws.Rows
import Derived.Laws.AppendOwn
import Derived.Maps.AppendAt
set_option linter.unusedVariables false
set_option linter.unusedSimpArgs false
set_option maxRecDepth 100000
set_option maxHeartbeats 40000000
namespace Go.Proofs.YtihmdcdifakepaaGreat.Sc
open Go.RowKit
def Sli.val {β:Type}(s:Sli β):Value := .slice s.at' s.xs.length s.cap
structure Sli.ok {β:Type}(enc:β→List Value)(k:Nat)(w:World)(s:Sli β):Prop where
 len:s.xs.length≤s.cap
 cap:s.cap≤maxLen
 cells:s.xs≠[]→∃b off,s.at'=some ⟨b,off,none⟩∧∀i y,s.xs[i]?=some y→∀j u,(enc y)[j]?=some u→w.cell? ⟨b,off+i*k+j,none⟩=some u
theorem Sli.ok.kept {β:Type}{enc:β→List Value}{k:Nat}{w w':World}{s:Sli β}(h:s.ok enc k w)(hc:∀a u,w.cell? a=some u→w'.cell? a=some u):s.ok enc k w':=by
 refine⟨h.len,h.cap,fun h0 => ?_⟩
 obtain⟨b,off,h1,h2⟩:=h.cells h0
 exact⟨b,off,h1,fun i y hi j u hj=>hc _ _ (h2 i y hi j u hj)⟩
theorem cells_below {w w':World}(h:Below w.heap.size w w'):∀a u,w.cell? a=some u→w'.cell? a=some u:=by
 intro a u hu
 rw[h.cell (World.block_lt_of_cell? w _ hu)]
 exact hu
def ndT:(n:Nat)→Tr n→Nd
 | 0,t=>nomatch (t:Empty)
 | _+1,(x,_)=>x
def atT:(n:Nat)→Tr n→Option Addr
 | 0,t=>nomatch (t:Empty)
 | _+1,(_,s)=>s.at'
def capT:(n:Nat)→Tr n→Nat
 | 0,t=>nomatch (t:Empty)
 | _+1,(_,s)=>s.cap
theorem kd_nd (n:Nat)(t:Tr n):kdT n t=(ndT n t).kind:=by
 cases n with
 | zero=>exact nomatch (t:Empty)
 | succ n=>rfl
theorem pl_nd (n:Nat)(t:Tr n):plT n t=(ndT n t).pl:=by
 cases n with
 | zero=>exact nomatch (t:Empty)
 | succ n=>rfl
structure Nd.wf (x:Nd):Prop where
 pl:(Lit.int .i64 x.pl).wf=true
 name:x.name.size≤maxLen
 op:x.op.size≤maxLen
def encT (n:Nat)(t:Tr n):List Value:=[.int .i64 (ndT n t).kind,.int .i64 (ndT n t).pl,.string (ndT n t).name,.int .u64 (ndT n t).num,.string (ndT n t).op,.slice (atT n t) (nkT n t) (capT n t)]
def valT (n:Nat)(t:Tr n):Value := .agg #[.int .i64 (ndT n t).kind,.int .i64 (ndT n t).pl,.string (ndT n t).name,.int .u64 (ndT n t).num,.string (ndT n t).op,.slice (atT n t) (nkT n t) (capT n t)]
def okT:(n:Nat)→World→Tr n→Prop
 | 0,_,t=>nomatch (t:Empty)
 | n+1,w,(x,s)=>x.wf∧s.ok (encT n) 6 w∧∀y∈s.xs,okT n w y
theorem okT_kept {n:Nat}{w w':World}{t:Tr n}(h:okT n w t)(hc:∀a u,w.cell? a=some u→w'.cell? a=some u):okT n w' t:=by
 induction n with
 | zero=>exact nomatch (t:Empty)
 | succ n ih =>
   obtain⟨x,s⟩:=t
   exact⟨h.1,h.2.1.kept hc,fun y hy=>ih (h.2.2 y hy)⟩
theorem val_succ (n:Nat)(x:Nd)(s:Sli (Tr n)):valT (n+1) ((x,s):Nd×Sli (Tr n)) = .agg #[.int .i64 x.kind,.int .i64 x.pl,.string x.name,.int .u64 x.num,.string x.op,.slice s.at' s.xs.length s.cap]:=rfl
theorem kid_at {n:Nat}{w:World}{s:Sli (Tr n)}(h:s.ok (encT n) 6 w){k:Nat}(hk:k<s.xs.length) :
  ∃(y:Tr n) (b off:Nat),s.at'=some ⟨b,off,none⟩∧s.xs[k]?=some y ∧
   w.cell? ⟨b,off+k*6,none⟩=some (.int .i64 (ndT n y).kind)∧w.cell? ⟨b,off+k*6+1,none⟩=some (.int .i64 (ndT n y).pl)∧w.cell? ⟨b,off+k*6+2,none⟩=some (.string (ndT n y).name) ∧
   w.cell? ⟨b,off+k*6+3,none⟩=some (.int .u64 (ndT n y).num)∧w.cell? ⟨b,off+k*6+4,none⟩=some (.string (ndT n y).op)∧w.cell? ⟨b,off+k*6+5,none⟩=some (.slice (atT n y) (nkT n y) (capT n y)):=by
 obtain⟨b,off,h1,h2⟩:=h.cells (by intro e;rw[e] at hk;simp at hk)
 have hy:=List.getElem?_eq_getElem hk
 have g:=h2 k _ hy
 exact⟨s.xs[k],b,off,h1,hy,g 0 _ rfl,g 1 _ rfl,g 2 _ rfl,g 3 _ rfl,g 4 _ rfl,g 5 _ rfl⟩
theorem loopC_range {α:Type}(f:α→Int→Int)(hf:∀k r,0≤r → -1≤f k r∧f k r≤r)(xs:List α)(r:Int)(h : -1≤r) : -1≤loopC f xs r∧loopC f xs r≤r:=by
 induction xs generalizing r with
 | nil=>exact⟨h,Int.le_refl _⟩
 | cons k ks ih =>
   rw[loopC]
   by_cases c:0≤r
   ·rw[if_pos c]
    have h1:=hf k r c
    have h2:=ih (f k r) h1.1
    omega
   ·rw[if_neg c]
    omega
theorem count_range (n lv:Nat)(t:Tr n)(r:Int)(h:0≤r) : -1≤countT n lv t r∧countT n lv t r≤r:=by
 induction n generalizing lv r with
 | zero=>exact nomatch (t:Empty)
 | succ n ih =>
   obtain⟨x,s⟩:=t
   rw[countT]
   by_cases c:lv=0
   ·rw[if_pos c];omega
   ·rw[if_neg c]
    have:=loopC_range (countT n (lv - 1)) (fun k r hr=>ih (lv - 1) k r hr) s.xs (r - 1) (by omega)
    omega
theorem box_new (w:World)(cs:Array Value)(ty:TypeId):∀i v,cs[i]?=some v→(w.alloc (.cells cs ty)).cell? ⟨w.heap.size,i,none⟩=some v:=by
 intro i v h
 rw[cell_of_row _ w.heap.size _ cs ty (0,0) (by show(w.heap.push _)[w.heap.size]?=_;rw[Array.getElem?_push_size])]
 exact h
structure CntAt {n:Nat}(lv:Nat)(xs:List (Tr n))(r0:Int)(w1 wr:World)(k:Nat)(r:Int):Prop where
 le:k≤xs.length
 val:loopC (countT n lv) xs r0=loopC (countT n lv) (xs.drop k) r
 lo : -1≤r
 hi:r≤r0
 bel:Below w1.heap.size w1 wr
theorem count_any (n:Nat):∀(t:Tr n)(lv:Nat)(r:Int)(w:World),okT n w t→0≤r→r≤1000000→lv≤300 →
  Calls Tryz.prog 17 #[valT n t,.int .i64 lv,.int .i64 r] w fun e w'=>e = .returned (.int .i64 (countT n lv t r))∧Below w.heap.size w w':=by
 induction n with
 | zero=>intro t;exact nomatch (t:Empty)
 | succ n ih =>
   rintro⟨x,s⟩ lv r w ⟨_,hs,hk⟩ hr0 hr1 hlv
   rw[val_succ]
   obtain⟨kind,pl,name,num,op⟩:=x
   obtain⟨ad,cap,xs⟩:=s
   have h1:=hs.len
   have h2:=hs.cap
   simp only at h1 h2 hk ⊢
   have hlen:xs.length≤maxLen:=by omega
   unfold maxLen at hlen
   clear h1 h2
   have HS:Hid (Sli.ok (encT n) 6 w ⟨ad,cap,xs⟩):=hs
   have HK:Hid (∀y∈xs,okT n w y):=hk
   have HIH:Hid (∀(t:Tr n) (lv:Nat) (r:Int) (w:World),okT n w t→0≤r→r≤1000000→lv≤300 →
    Calls Tryz.prog 17 #[valT n t,.int .i64 lv,.int .i64 r] w fun e w'=>e = .returned (.int .i64 (countT n lv t r))∧Below w.heap.size w w'):=ih
   clear hs hk ih
   cases lv with
   | zero =>
     go_enter Tryz.func17,Tryz.ntmps17
     go_wp2_with fail
     go_ret
     exact⟨rfl,(Below.refl _ _).alloc (Nat.le_refl _) _⟩
   | succ lv =>
     have HV:Hid (countT (n+1) (lv+1) ((⟨kind,pl,name,num,op⟩,⟨ad,cap,xs⟩):Nd×Sli (Tr n)) r=loopC (countT n lv) xs (r - 1)):=by
      show(if _ then _ else _)=_
      rw[if_neg (by omega)]
      rfl
     have HI:Hid (CntAt lv xs (r - 1) (w.alloc (.cells #[.int .i64 kind,.int .i64 pl,.string name,.int .u64 num,.string op,.slice ad xs.length cap] 25)) (w.alloc (.cells #[.int .i64 kind,.int .i64 pl,.string name,.int .u64 num,.string op,.slice ad xs.length cap] 25)) 0 (r - 1)) :=
      ⟨Nat.zero_le _,rfl,by omega,Int.le_refl _,Below.refl _ _⟩
     have h11:(((lv:Int)+1) == 0)=false:=by simp;omega
     rw[show(((lv+1:Nat)):Int)=(lv:Int)+1 by omega]
     go_enter Tryz.func17,Tryz.ntmps17
     go_wp2_with fail
     go_loopw [2,7] (fun lf i wr=>∃(k:Nat) (q:Int),CntAt lv xs (r - 1) (w.alloc (.cells #[.int .i64 kind,.int .i64 pl,.string name,.int .u64 num,.string op,.slice ad xs.length cap] 25)) wr k q∧lf = .int .i64 q∧i = .int .i64 k) (fun lf i wr=>xs.length - (intOf i).toNat)
     case atStart=>exact⟨0,r - 1,HI.out,rfl,rfl⟩
     case round =>
      obtain⟨k,q,hr,rfl,rfl⟩:=hrel
      have ple:=hr.le
      have qlo:=hr.lo
      have qhi:=hr.hi
      have HR:Hid (CntAt lv xs (r - 1) (w.alloc (.cells #[.int .i64 kind,.int .i64 pl,.string name,.int .u64 num,.string op,.slice ad xs.length cap] 25)) wr k q):=hr
      have bx5:=cells_below hr.bel _ _ (box_new w #[.int .i64 kind,.int .i64 pl,.string name,.int .u64 num,.string op,.slice ad xs.length cap] 25 5 _ rfl)
      have HBW:Hid (Below w.heap.size w wr):=((Below.refl w.heap.size w).alloc (Nat.le_refl _) _).trans (hr.bel.mono (by simp))
      clear hr HI
      by_cases c0:0≤q
      ·rcases Nat.lt_or_ge k xs.length with c | c
       ·obtain⟨y,b,off,e1,hy,y0,y1,y2,y3,y4,y5⟩:=kid_at (HS.out.kept (cells_below HBW.out)) (k:=k) c
        simp only at e1 hy
        subst e1
        have hd:xs.drop k=y :: xs.drop (k+1):=by
         rw[List.drop_eq_getElem_cons c]
         rw[List.getElem?_eq_getElem c] at hy
         rw[Option.some.inj hy]
        have HC:Hid (CntAt lv xs (r - 1) (w.alloc (.cells #[.int .i64 kind,.int .i64 pl,.string name,.int .u64 num,.string op,.slice (some ⟨b,off,none⟩) xs.length cap] 25)) wr k q∧xs.drop k=y :: xs.drop (k+1)):=⟨HR.out,hd⟩
        have hok:okT n wr y:=okT_kept (HK.out y (List.mem_of_getElem? hy)) (cells_below HBW.out)
        have hcall:=HIH.out y lv q wr hok c0 (by omega) (by omega)
        have rng:=count_range n lv y q c0
        have HRG:Hid (-1≤countT n lv y q∧countT n lv y q≤q):=rng
        clear hy hd hok rng HR
        go_wp2_with (go_at_call 17;refine hcall.mono ?_;rintro e w2 ⟨rfl,hb2⟩)
        have HN:Hid (CntAt lv xs (r - 1) (w.alloc (.cells #[.int .i64 kind,.int .i64 pl,.string name,.int .u64 num,.string op,.slice (some ⟨b,off,none⟩) xs.length cap] 25)) w2 (k+1) (countT n lv y q)):=by
         refine⟨c,?_,HRG.out.1,by have:=HRG.out.2;omega,HC.out.1.bel.trans (hb2.mono HC.out.1.bel.size)⟩
         rw[HC.out.1.val,HC.out.2,loopC,if_pos c0]
        refine⟨⟨k+1,_,HN.out,rfl,by go_num⟩,?_⟩
        simp[intOf]
        omega
       ·have HE:Hid (loopC (countT n lv) xs (r - 1)=q):=by
         show _=_
         rw[HR.out.val,List.drop_of_length_le c]
         rfl
        go_wp2_with fail
        go_ret
        rw[HV.out,HE.out]
        exact⟨rfl,HBW.out⟩
      ·have HE:Hid (loopC (countT n lv) xs (r - 1)=q):=by
        show _=_
        rw[HR.out.val]
        cases xs.drop k with
        | nil=>rfl
        | cons z zs=>rw[loopC,if_neg c0]
       have hq:decide (0≤q)=false:=by simpa using c0
       rcases Nat.lt_or_ge k xs.length with c | c
       all_goals
        go_wp2_with fail
        go_ret
        rw[HV.out,HE.out]
        exact⟨rfl,HBW.out⟩
structure Chg (S:Nat→Prop)(w w':World):Prop where
 os:w'.os=w.os
 tape:w'.tape=w.tape
 output:w'.output=w.output
 size:w.heap.size≤w'.heap.size
 block:∀k,k<w.heap.size→¬S k→w'.heap[k]?=w.heap[k]?
theorem Chg.refl (S:Nat→Prop)(w:World):Chg S w w:=⟨rfl,rfl,rfl,Nat.le_refl _,fun _ _ _=>rfl⟩
theorem Chg.trans {S S':Nat→Prop}{a b c:World}(h:Chg S a b)(k:Chg S' b c)(hs:∀i,i<a.heap.size→S' i→S i):Chg S a c :=
 ⟨k.os.trans h.os,k.tape.trans h.tape,k.output.trans h.output,Nat.le_trans h.size k.size,fun i hi hn=>(k.block i (Nat.lt_of_lt_of_le hi h.size) (fun q=>hn (hs i hi q))).trans (h.block i hi hn)⟩
theorem Chg.of_below {S:Nat→Prop}{w w':World}(h:Below w.heap.size w w'):Chg S w w':=⟨h.os,h.tape,h.output,h.size,fun k hk _=>h.block k hk⟩
theorem Chg.of_grown {S:Nat→Prop}{w w':World}{row:Option Nat}(h:w.grownBy w' row)(hr:∀k,row=some k→S k):Chg S w w' :=
 ⟨h.os,h.tape,h.output,h.size,fun k hk hn=>h.block k hk (fun e=>hn (hr k e.symm))⟩
theorem Chg.set {S:Nat→Prop}(w:World)(p:Addr)(v:Value)(hs:S p.block):Chg S w (w.setCell p v) :=
 ⟨rfl,rfl,rfl,by simp,fun k hk hn=>Below.heap_setCell w p v k (fun e=>hn (e ▸ hs))⟩
theorem Chg.cell {S:Nat→Prop}{w w':World}(h:Chg S w w'){a:Addr}{u:Value}(hu:w.cell? a=some u)(hn:¬S a.block):w'.cell? a=some u:=by
 rw[World.cell?_of_block (w:=w) (h.block a.block (World.block_lt_of_cell? w _ hu) hn)]
 exact hu
theorem Chg.below {S:Nat→Prop}{B:Nat}{W w w':World}(h:Chg S w w')(hb:Below B W w)(hB:B≤w.heap.size)(hs:∀k,S k→B≤k):Below B W w' :=
 ⟨h.os.trans hb.os,h.tape.trans hb.tape,h.output.trans hb.output,Nat.le_trans hb.size h.size,fun k hk=>(h.block k (by omega) (fun q=>by have:=hs k q;omega)).trans (hb.block k hk)⟩
def iv (z:Int):Value := .int .i64 z
def OwnI (B:Nat)(w:World)(v:Value)(zs:List Int):Prop:=w.ownsRow B 3 1 v zs.length (zs.map iv)
theorem grown_of_below {w w':World}(h:Below w.heap.size w w'):w.grownBy w' none:=⟨h.os,h.tape,h.output,h.size,fun k hk _=>h.block k hk⟩
theorem OwnI.lt {B:Nat}{w:World}{v:Value}{zs:List Int}(h:OwnI B w v zs):∀k,v.ownBlock=some k→B≤k∧k<w.heap.size:=by
 intro k hk
 rcases h.2 with⟨rfl,_⟩ | ⟨g,cap,cur,rfl,hb,hg,_⟩
 ·simp[Value.ownBlock] at hk
 ·simp[Value.ownBlock] at hk
  subst hk
  refine⟨hb,?_⟩
  rcases Nat.lt_or_ge g w.heap.size with c | c
  ·exact c
  ·rw[Array.getElem?_eq_none c] at hg;cases hg
theorem OwnI.kept {B:Nat}{w w':World}{v:Value}{zs:List Int}{S:Nat→Prop}(h:OwnI B w v zs)(hb:Chg S w w')(hs:∀k,v.ownBlock=some k→¬S k):OwnI B w' v zs:=by
 cases hv:v.ownBlock with
 | none =>
   rcases h.2 with⟨rfl,h0⟩ | ⟨g,cap,cur,rfl,_⟩
   ·exact⟨h.1,Or.inl ⟨rfl,h0⟩⟩
   ·simp[Value.ownBlock] at hv
 | some k =>
   rcases h.2 with⟨rfl,h0⟩ | ⟨g,cap,cur,rfl,hbg,hg,h3⟩
   ·simp[Value.ownBlock] at hv
   ·simp[Value.ownBlock] at hv
    subst hv
    exact⟨h.1,Or.inr ⟨g,cap,cur,rfl,hbg,by rw[hb.block g (h.lt g rfl).2 (hs g rfl)];exact hg,h3⟩⟩
theorem OwnI.nil (B:Nat)(w:World):OwnI B w (.slice none 0 0) []:=⟨rfl,Or.inl ⟨rfl,rfl⟩⟩
def IntsAt (w:World)(ad:Option Addr)(zs:List Int):Prop:=zs≠[]→∃b off,ad=some ⟨b,off,none⟩∧∀i z,zs[i]?=some z→w.cell? ⟨b,off+i,none⟩=some (.int .i64 z)
theorem OwnI.ints {B:Nat}{w:World}{v:Value}{zs:List Int}(h:OwnI B w v zs):∃ad cap,v = .slice ad zs.length cap∧zs.length≤cap∧cap≤maxLen∧IntsAt w ad zs:=by
 rcases h.2 with⟨rfl,hn⟩ | ⟨g,cap,cur,rfl,hb,hg,hnc,hcm,hcs,ht⟩
 ·exact⟨none,0,by rw[hn],by omega,by unfold maxLen;omega,fun h0=>absurd (List.length_eq_zero_iff.1 hn) h0⟩
 ·refine⟨some ⟨g,0,none⟩,cap,rfl,hnc,hcm,fun h0=>⟨g,0,rfl,?_⟩⟩
  intro i z hi
  rw[cell_of_row w g _ cur 3 (0,0) hg]
  have il:i<zs.length:=by
   rcases Nat.lt_or_ge i zs.length with k | k
   ·exact k
   ·rw[List.getElem?_eq_none k] at hi
    exact absurd hi (by simp)
  have e:(cur.toList.take (zs.length*1))[i]?=(zs.map iv)[i]?:=by rw[ht]
  rw[List.getElem?_take_of_lt (by omega),List.getElem?_map,hi] at e
  simpa [iv] using e
theorem info3:(Tryz.prog.info? 3).map (fun i=>(i.zero,i.size,i.bytes))=some (some (.int .i64 0),1,8):=by kernel_rfl
theorem app_one {w:World}{ops:Array Oper}{rest:List Oper}{o:Oper}{a:Act}{Q:Exit→Act→World→Prop}(hgd:o.guard=none)(s x:Operand)
  (ho:o.op = .call { callee := .builtin .append,args:=#[s,x],argTypes:=#[71,71] })
  (B:Nat) (v:Value) (zs:List Int) (hs:a.eval s=v) (hown:OwnI B w v zs) (g:Nat) (z:Int) (hx:a.eval x = .slice (some ⟨g,0,none⟩) 1 1) (hg:w.cell? ⟨g,0,none⟩=some (.int .i64 z))
  (hb:(zs.length+1)*8≤140737488355328) (hB:B≤w.heap.size)
  (h:∀v' w',OwnI B w' v' (zs++[z])→w.grownBy w' v.ownBlock→(v'.ownBlock=v.ownBlock∨v'.ownBlock=some w.heap.size)→wpList Tryz.prog ops Q rest (a.put o.dst v') w'):wpList Tryz.prog ops Q (o :: rest) a w:=by
 obtain⟨i0,hi,hz0,hz1,hz2⟩:=info_parts info3
 refine wpList_append_own_at _ hgd s x 71 ho B 3 i0 (.int .i64 0) 1 8 Tryz.underlying71 hi hz0 hz1 hz2 rfl (by decide) v zs.length (zs.map iv) hs hown ⟨g,0,none⟩ 1 1 [.int .i64 z] hx rfl ?_ ?_ (by unfold maxLen;omega) hb hB ?_
 ·intro j u hj
  cases j with
  | zero=>simp at hj;subst hj;exact hg
  | succ j=>simp at hj
 ·intro u hu
  simp at hu
  subst hu
  rfl
 ·intro v' w' h1 h2 _ h4
  refine h v' w' ?_ h2 h4
  unfold OwnI
  rw[List.length_append,List.map_append]
  exact h1
theorem one_cell (w:World)(z:Int):(w.alloc (.cells #[.int .i64 z] 3)).cell? ⟨w.heap.size,0,none⟩=some (.int .i64 z):=box_new w #[.int .i64 z] 3 0 _ rfl
def onceI (zs:List Int)(a:Int):List Int:=if a∈zs then zs else zs++[a]
structure OnAt (zs:List Int)(x:Int)(w wr:World)(k:Nat):Prop where
 le:k≤zs.length
 val:x∉zs.take k
 same:wr=w
theorem once_any (B:Nat)(v:Value)(zs:List Int)(x:Int)(w:World)(ho:OwnI B w v zs)(hl:zs.length≤1000000)(hB:B≤w.heap.size) :
  Calls Tryz.prog 54 #[v,.int .i64 x] w fun e w'=>∃v',e = .returned (.tuple #[v',.bool (decide (x∉zs))])∧OwnI B w' v' (onceI zs x)∧Chg (fun k=>v.ownBlock=some k) w w'∧(v'.ownBlock=v.ownBlock∨∃k,v'.ownBlock=some k∧w.heap.size≤k):=by
 obtain⟨ad,cap,rfl,h1,h2,hz⟩:=ho.ints
 have HO:Hid (OwnI B w (.slice ad zs.length cap) zs):=ho
 have HZ:Hid (IntsAt w ad zs):=hz
 have HI:Hid (OnAt zs x w w 0):=⟨Nat.zero_le _,by simp,rfl⟩
 have HB:Hid (B≤w.heap.size):=hB
 clear ho hz hB
 have hl2:(zs.length:Int)≤1000000:=by omega
 go_enter Tryz.func54,Tryz.ntmps54
 go_wp2_with fail
 go_loopw [6] (fun i wr=>∃k:Nat,OnAt zs x w wr k∧i = .int .i64 k) (fun i wr=>zs.length - (intOf i).toNat)
 case atStart=>exact⟨0,HI.out,rfl⟩
 case round =>
  obtain⟨k,hr,rfl⟩:=hrel
  obtain rfl:=hr.same
  have ple:=hr.le
  have HR:Hid (x∉zs.take k):=hr.val
  clear hr HI
  rcases Nat.lt_or_ge k zs.length with c | c
  ·have hex:∃y,zs[k]?=some y:=⟨_,List.getElem?_eq_getElem c⟩
   obtain⟨y,hy⟩:=hex
   obtain⟨b,off,rfl,hc⟩:=HZ.out (by intro e;subst e;simp at c)
   have c0:=hc k y hy
   have HY:Hid (zs[k]?=some y):=hy
   clear hc hy
   by_cases t:y=x
   ·subst t
    have HM:Hid (y∈zs):=List.mem_of_getElem? HY.out
    go_wp2_with fail
    refine bodyPost_ret (v := .tuple #[.slice (some ⟨b,off,none⟩) zs.length cap,.bool false]) (by simp[results,Tryz.results54,go_sem]) rfl ⟨_,?_,?_,Chg.refl _ _,Or.inl rfl⟩
    ·rw[show decide (y∉zs)=false by simpa using HM.out]
    ·unfold onceI
     rw[if_pos HM.out]
     exact HO.out
   ·have HN:Hid (OnAt zs x wr wr (k+1)):=by
     refine⟨c,?_,rfl⟩
     rw[List.take_add_one,HY.out]
     simp
     exact⟨HR.out,fun e=>t e.symm⟩
    go_wp2_with fail
    refine⟨⟨k+1,HN.out,by go_num⟩,?_⟩
    simp[intOf]
    omega
  ·have HM:Hid (x∉zs):=by
    have:=HR.out
    rw[List.take_of_length_le c] at this
    exact this
   have HO1:OwnI B (wr.alloc (.cells #[.int .i64 x] 3)) (.slice ad zs.length cap) zs:=HO.out.kept (S:=fun _=>False) (Chg.of_below ((Below.refl _ _).alloc (Nat.le_refl _) _)) (fun _ _ q=>q)
   have hc1:=one_cell wr x
   have hB1:B≤(wr.alloc (.cells #[.int .i64 x] 3)).heap.size:=by have:=HB.out;simp;omega
   have ob:(zs.length+1)*8≤140737488355328:=by omega
   go_wp2_with (at_builtin;refine app_one rfl _ _ rfl B (.slice ad zs.length cap) zs rfl HO1 wr.heap.size x rfl hc1 ob hB1 ?_)
   intro v' w3 ho3 hg3 hloc
   clear HO1
   go_wp2_with fail
   refine bodyPost_ret (v := .tuple #[v',.bool true]) (by simp[results,Tryz.results54,go_sem]) rfl ⟨v',?_,?_,?_,?_⟩
   ·rw[show decide (x∉zs)=true by simpa using HM.out]
   ·unfold onceI
    rw[if_neg HM.out]
    exact ho3
   ·exact(Chg.of_below ((Below.refl wr.heap.size wr).alloc (Nat.le_refl _) _)).trans (Chg.of_grown (S:=fun k=>(Value.slice ad zs.length cap).ownBlock=some k) hg3 (fun k e=>e)) (fun _ _ q=>q)
   ·rcases hloc with q | q
    ·exact Or.inl q
    ·exact Or.inr ⟨_,q,by simp⟩
end Go.Proofs.YtihmdcdifakepaaGreat.Sc
