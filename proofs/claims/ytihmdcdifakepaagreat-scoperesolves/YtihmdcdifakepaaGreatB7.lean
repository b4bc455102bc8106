/- MP, ZA -/
import Derived.Test.YtihmdcdifakepaaGreatB3
import Derived.Test.YtihmdcdifakepaaGreatB6
import Derived.Test.YtihmdcdifakepaaGreatMD
set_option linter.unusedVariables false
set_option linter.unusedSimpArgs false
set_option maxRecDepth 100000
set_option maxHeartbeats 40000000
namespace Go.Proofs.YtihmdcdifakepaaGreat.Rv
open Go.Proofs.YtihmdcdifakepaaGreat.Sc Go.Proofs.YtihmdcdifakepaaGreat.Rz
def cr (s:Rz.RS):Nat:=s.scopes.length+s.vars.length+s.uses.length+(s.scopes.map Rz.Scp.vars).sum
def dp (s:Rz.RS):Nat:=s.blocks.length+s.labels.length+s.loops
def Cr (k:Nat)(f:RM):Prop:=∀s s',f s = .ok s'→cr s'≤cr s+k
theorem sum_bump:∀(l:List Rz.Scp)(i:Nat),((l.modify i (fun x=>{ x with vars:=x.vars+1 })).map Rz.Scp.vars).sum≤(l.map Rz.Scp.vars).sum+1
 | [],i=>by cases i <;> simp
 | x :: l,0=>by simp;omega
 | x :: l,i+1=>by
   have:=sum_bump l i
   simp
   omega
theorem cr_bump (s:Rz.RS):cr (bumpP s)≤cr s+1:=by
 unfold cr bumpP
 have:=sum_bump s.scopes s.fn
 simp only[List.length_modify]
 omega
theorem cr_put (nm:ByteArray)(pl kd:Int)(slot:Nat)(s:Rz.RS):cr (putVarP nm pl kd slot s)=cr s+1:=by
 unfold cr putVarP
 simp only[List.length_append,List.length_singleton]
 omega
theorem cr_open (s:Rz.RS):cr (openP s)=cr s:=rfl
theorem cr_shut (s:Rz.RS):cr (shutP s)=cr s:=rfl
theorem cr_decl (nm:ByteArray)(pl kd:Int):Cr 2 (declP nm pl kd):=fun s s' e=>by
 unfold declP at e
 split at e
 ·cases e
 ·split at e
  ·cases e
  ·obtain rfl:=Except.ok.inj e
   rw[cr_put]
   have:=cr_bump s
   omega
def Nb (k:Nat)(f:RM):Prop:=∀s s',f s = .ok s'→cr s'+2≤cr s+8*k
theorem cr_each {α:Type}{f:α→RM}(sz:α→Nat)(hf:∀k,Nb (sz k) (f k)):∀(l:List α)(s s':Rz.RS),eachP f l s = .ok s'→cr s'+2*l.length≤cr s+8*(l.map sz).sum
 | [],s,s',e=>by
   unfold eachP at e
   obtain rfl:=Except.ok.inj e
   simp
 | k :: l,s,s',e=>by
   unfold eachP at e
   obtain⟨s1,e1,e2⟩:=bind_ok e
   have h1:=hf k s s1 e1
   have h2:=cr_each sz hf l s1 s' e2
   rw[List.map_cons,List.sum_cons,List.length_cons]
   omega
theorem cr_heads {α:Type}(nd:α→Nd):∀l:List α,Cr (2*l.length) (headsP nd l)
 | [],s,s',e=>by
   unfold headsP at e
   obtain rfl:=Except.ok.inj e
   simp
 | k :: l,s,s',e=>by
   unfold headsP at e
   obtain⟨s1,e1,e2⟩:=bind_ok e
   have h2:=cr_heads nd l s1 s' e2
   have h1:cr s1≤cr s+2:=by
    split at e1
    ·exact cr_decl _ _ _ s s1 e1
    ·split at e1
     ·exact cr_decl _ _ _ s s1 e1
     ·split at e1
      ·exact cr_decl _ _ _ s s1 e1
      ·obtain rfl:=Except.ok.inj e1
       omega
   rw[List.length_cons]
   omega
theorem cr_pars {α:Type}(nd:α→Nd):∀l:List α,Cr (2*l.length) (parsP nd l)
 | [],s,s',e=>by
   unfold parsP at e
   obtain rfl:=Except.ok.inj e
   simp
 | k :: l,s,s',e=>by
   unfold parsP at e
   obtain⟨s1,e1,e2⟩:=bind_ok e
   have h1:=cr_decl _ _ _ s s1 e1
   have h2:=cr_pars nd l s1 s' e2
   rw[List.length_cons]
   omega
theorem sum_len {α:Type}(sz:α→Nat)(h:∀k,1≤sz k):∀l:List α,l.length≤(l.map sz).sum
 | []=>Nat.le_refl _
 | k :: l=>by
   have h1:=h k
   have h2:=sum_len sz h l
   rw[List.length_cons,List.map_cons,List.sum_cons]
   omega
theorem cr_items {α:Type}(nd:α→Nd){f:α→RM}(sz:α→Nat)(hf:∀k,Nb (sz k) (f k))(l:List α)(s s':Rz.RS)(e:itemsP nd f l s = .ok s'):cr s'≤cr s+8*(l.map sz).sum:=by
 unfold itemsP at e
 obtain⟨s1,e1,e2⟩:=bind_ok e
 have h1:=cr_heads nd l s s1 e1
 have h2:=cr_each sz hf l s1 s' e2
 omega
theorem cr_block {α:Type}(nd:α→Nd){f:α→RM}(sz:α→Nat)(hf:∀k,Nb (sz k) (f k))(l:List α)(s s':Rz.RS)(e:blockP nd f l s = .ok s'):cr s'≤cr s+8*(l.map sz).sum:=by
 unfold blockP at e
 obtain⟨s1,e1,e2⟩:=bind_ok e
 have h1:=cr_items nd sz hf l (openP s) s1 e1
 obtain rfl:=Except.ok.inj e2
 rw[cr_shut]
 exact h1
theorem cr_loop {α:Type}{f:α→RM}(sz:α→Nat)(hf:∀k,Nb (sz k) (f k))(l:List α)(s s':Rz.RS)(e:loopP f l s = .ok s'):cr s'≤cr s+8*(l.map sz).sum:=by
 unfold loopP at e
 obtain⟨s1,e1,e2⟩:=bind_ok e
 have h1:=cr_each sz hf l _ s1 e1
 obtain rfl:=Except.ok.inj e2
 have h2:cr { s with loops:=s.loops+1 }=cr s:=rfl
 have h3:cr { s1 with loops:=s1.loops - 1 }=cr s1:=rfl
 omega
theorem sum_take_drop {α:Type}(sz:α→Nat)(l:List α)(k:Nat):(l.map sz).sum=((l.take k).map sz).sum+((l.drop k).map sz).sum:=by
 rw[←List.sum_append,←List.map_append,List.take_append_drop]
theorem cr_loopOf {α:Type}{f:α→RM}(sz:α→Nat)(hf:∀k,Nb (sz k) (f k))(x:Nd)(l:List α)(s s':Rz.RS)(e:loopOfP f x l s = .ok s'):cr s'≤cr s+8*(l.map sz).sum+2:=by
 unfold loopOfP at e
 obtain⟨s1,e1,e2⟩:=bind_ok e
 obtain⟨s2,e3,e4⟩:=bind_ok e2
 obtain⟨s3,e5,e6⟩:=bind_ok e4
 obtain rfl:=Except.ok.inj e6
 have h1:=cr_each sz hf _ s s1 e1
 have h2:=cr_decl _ _ _ _ s2 e3
 rw[cr_open] at h2
 have h3:=cr_loop sz hf _ s2 s3 e5
 have h4:=sum_take_drop sz l 1
 rw[cr_shut]
 omega
theorem cr_catch {α:Type}(nd:α→Nd)(sz:α→Nat){body:α→RM}(hb:∀k s s',body k s = .ok s'→cr s'+8≤cr s+8*sz k)(x:Nd)(c:Option α)(s s':Rz.RS)(e:catchP nd body x c s = .ok s'):cr s'≤cr s+2+8*((c.map sz).getD 0):=by
 unfold catchP at e
 split at e
 ·obtain rfl:=Except.ok.inj e
  omega
 ·split at e
  ·obtain rfl:=Except.ok.inj e
   omega
  ·obtain⟨s2,e1,e2⟩:=bind_ok e
   obtain⟨s3,e3,e4⟩:=bind_ok e2
   obtain rfl:=Except.ok.inj e4
   have h1:=cr_decl _ _ _ _ s2 e1
   rw[cr_open] at h1
   have h2:=hb _ s2 s3 e3
   rw[cr_shut]
   simp only[Option.map_some,Option.getD_some]
   omega
theorem cr_try {α:Type}(nd:α→Nd){f:α→RM}(sz:α→Nat)(hf:∀k,Nb (sz k) (f k)){body:α→RM}(hb:∀k s s',body k s = .ok s'→cr s'+8≤cr s+8*sz k)(x:Nd)(l:List α)(s s':Rz.RS)(e:tryP nd f body x l s = .ok s'):cr s'≤cr s+2+8*(l.map sz).sum:=by
 unfold tryP at e
 obtain⟨s1,e1,e2⟩:=bind_ok e
 obtain⟨s2,e3,e4⟩:=bind_ok e2
 have h1:=cr_each sz hf _ s s1 e1
 have h2:=cr_catch nd sz hb x _ s1 s2 e3
 have h3:=cr_each sz hf _ s2 s' e4
 have h4:=sum_take_drop sz l 1
 have h5:=sum_take_drop sz (l.drop 1) 1
 rw[List.drop_drop] at h5
 simp only[Nat.reduceAdd] at h5
 have h6:(l[1]?.map sz).getD 0=(((l.drop 1).take 1).map sz).sum:=by
  cases hl:l.drop 1 with
  | nil =>
    have:l[1]?=none:=by rw[←List.getElem?_drop (i:=1) (j:=0)] <;> simp[hl]
    rw[this];rfl
  | cons y r =>
    have:l[1]?=some y:=by
     have:=congrArg (·[0]?) hl
     simpa using this
    rw[this]
    simp
 rw[h6] at h2
 omega
theorem cr_label {α:Type}{f:α→RM}(sz:α→Nat)(hf:∀k,Nb (sz k) (f k))(x:Nd)(lead:Bool)(l:List α)(s s':Rz.RS)(e:labelP f x lead l s = .ok s'):cr s'≤cr s+8*(l.map sz).sum:=by
 unfold labelP at e
 split at e
 ·cases e
 ·obtain⟨s1,e1,e2⟩:=bind_ok e
  obtain rfl:=Except.ok.inj e2
  have h1:=cr_each sz hf _ _ s1 e1
  have h2:cr { s with labels:=s.labels++[(x.name,lead)] }=cr s:=rfl
  have h3:cr { s1 with labels:=s.labels }=cr s1:=rfl
  omega
theorem cr_leave {α:Type}{f:α→RM}(sz:α→Nat)(hf:∀k,Nb (sz k) (f k))(x:Nd)(l:List α)(s s':Rz.RS)(e:leaveP f x l s = .ok s'):cr s'≤cr s+8*(l.map sz).sum:=by
 unfold leaveP at e
 split at e
 ·cases e
 ·have h1:=cr_each sz hf _ s s' e
  omega
theorem cr_use (bi:ByteArray→Bool)(nm:ByteArray)(pl:Int)(s s':Rz.RS)(v:Option Nat)(e:useP bi nm pl s = .ok (v,s')):cr s'=cr s+1:=by
 unfold useP at e
 split at e
 ·have e:=Except.ok.inj e
  have e2:=(Prod.mk.inj e).2
  rw[←e2]
  split <;> (unfold cr;simp[capP];try omega)
 ·split at e
  ·have e:=Except.ok.inj e
   have e2:=(Prod.mk.inj e).2
   rw[←e2]
   unfold cr
   simp
   omega
  ·cases e
theorem cr_give {α:Type}(nd:α→Nd){f:α→RM}(sz:α→Nat)(hf:∀k,Nb (sz k) (f k))(bi:ByteArray→Bool)(l:List α)(s s':Rz.RS)(e:giveP bi nd f l s = .ok s'):cr s'≤cr s+1+8*(l.map sz).sum:=by
 unfold giveP at e
 split at e
 ·obtain rfl:=Except.ok.inj e
  omega
 ·rename_i t r
  split at e
  ·split at e
   ·cases e
   ·rename_i v s1 hu
    split at e
    ·cases e
    ·have h1:=cr_use bi _ _ s s1 v hu
     have h2:=cr_each sz hf _ s1 s' e
     rw[List.map_cons,List.sum_cons]
     omega
  ·have h2:=cr_each sz hf _ s s' e
   omega
theorem cr_enter (x:Nd)(many:Nat)(s:Rz.RS):cr (enterP x many s)≤cr s+2:=by
 unfold enterP
 simp only
 rw[cr_open]
 split
 ·rw[cr_put,cr_open]
  unfold cr
  simp
  omega
 ·rw[cr_open]
  unfold cr
  simp
  omega
theorem cr_function {α:Type}(nd:α→Nd)(sz:α→Nat)(h1:∀k,1≤sz k){body:α→RM}(hb:∀k s s',body k s = .ok s'→cr s'+8≤cr s+8*sz k)(x:Nd)(l:List α)(s s':Rz.RS)(e:functionP nd body x l s = .ok s'):cr s'+2≤cr s+8*(1+(l.map sz).sum):=by
 unfold functionP at e
 split at e
 ·cases e
 ·split at e
  ·obtain rfl:=Except.ok.inj e
   omega
  ·rename_i b hl
   obtain⟨s1,e1,e2⟩:=bind_ok e
   obtain⟨s2,e3,e4⟩:=bind_ok e2
   obtain rfl:=Except.ok.inj e4
   have g1:=cr_enter x (l.length - 1) s
   have g2:=cr_pars nd _ _ s1 e1
   have g3:=hb b _ s2 e3
   have g4:cr (if selfB x=true then bumpP s1 else s1)≤cr s1+1:=by
    split
    ·exact cr_bump s1
    ·omega
   have g5:cr { shutP (shutP s2) with fn:=s.fn,loops:=s.loops,labels:=s.labels }=cr s2:=rfl
   have g6:=sum_len sz h1 l.dropLast
   have g7:(l.map sz).sum=(l.dropLast.map sz).sum+sz b:=by
    rcases List.eq_nil_or_concat l with q | ⟨l',y,q⟩
    ·rw[q] at hl;cases hl
    ·rw[List.concat_eq_append] at q
     subst q
     rw[List.getLast?_append] at hl
     simp at hl
     subst hl
     simp
   omega
theorem cr_res (bi:ByteArray→Bool):∀n,(∀t,Nb (szT n t) ((resP bi n).1 t))∧(∀(t:Tr n)(s s':Rz.RS),(resP bi n).2 t s = .ok s'→cr s'+8≤cr s+8*szT n t)
 | 0=>⟨(fun t=>nomatch (t:Empty)),(fun t=>nomatch (t:Empty))⟩
 | n+1=>by
   obtain⟨i1,i2⟩:=cr_res bi n
   refine⟨fun t s s' e => ?_,fun t s s' e => ?_⟩
   ·obtain⟨x,k⟩:=t
    have hsz:szT (n+1) ((x,k):Nd×Sli (Tr n))=1+(k.xs.map (szT n)).sum:=rfl
    rw[hsz]
    simp only[resP] at e
    split at e
    ·split at e
     ·cases e
     ·rename_i v s1 hu
      obtain rfl:=Except.ok.inj e
      have:=cr_use bi _ _ s s1 v hu
      omega
    ·split at e
     ·have:=cr_give (ndR n) (szT n) i1 bi _ s s' e;omega
     ·split at e
      ·exact cr_function (ndR n) (szT n) (sz_pos n) i2 x _ s s' e
      ·split at e
       ·have:=cr_block (ndR n) (szT n) i1 _ s s' e;omega
       ·split at e
        ·have:=cr_try (ndR n) (szT n) i1 i2 x _ s s' e;omega
        ·split at e
         ·have:=cr_loop (szT n) i1 _ s s' e;omega
         ·split at e
          ·have:=cr_loopOf (szT n) i1 x _ s s' e;omega
          ·split at e
           ·have:=cr_label (szT n) i1 x _ _ s s' e;omega
           ·split at e
            ·have h5:s=s':=by
              unfold jumpP at e
              by_cases c:(if isS x.name [] then decide (0<s.loops) else s.labels.any fun e=>decide (e.1=x.name) && (e.2 || x.kind == 39))=true
              ·rw[if_pos c] at e
               exact Except.ok.inj e
              ·rw[if_neg c] at e
               cases e
             rw[h5]
             omega
            ·split at e
             ·have:=cr_leave (szT n) i1 x _ s s' e;omega
             ·have:=cr_each (szT n) i1 _ s s' e;omega
   ·obtain⟨x,k⟩:=t
    have hsz:szT (n+1) ((x,k):Nd×Sli (Tr n))=1+(k.xs.map (szT n)).sum:=rfl
    rw[hsz]
    simp only[resP] at e
    have:=cr_items (ndR n) (szT n) i1 _ s s' e
    omega
end Go.Proofs.YtihmdcdifakepaaGreat.Rv
namespace Go.Proofs.YtihmdcdifakepaaGreat.Rv.Rx
open Go.RowKit Go.Proofs.YtihmdcdifakepaaGreat.Sc Go.Proofs.YtihmdcdifakepaaGreat.Rz
structure SV where
 ad:Option Addr
 n:Nat
 cap:Nat
def SV.val (v:SV):Value := .slice v.ad v.n v.cap
def nmC (e:ByteArray×Nat):List Value:=[.string e.1,.int .i64 (e.2:Int)]
def slC (v:SV):List Value:=[v.val]
theorem rxScp:RT scpC 26 53 4 32:=⟨fun _=>rfl,Tryz.underlying26,rt_inf (z := .agg #[.int .i64 0,.int .i64 0,.int .i64 0,.int .i64 0]) (by kernel_rfl) rfl,by decide,fun y u h=>by simp[scpC] at h;rcases h with rfl | rfl | rfl | rfl <;> rfl⟩
theorem rxVr:RT vrC 27 61 6 56:=⟨fun _=>rfl,Tryz.underlying27,rt_inf (z := .agg #[.string ⟨#[]⟩,.int .i64 0,.int .i64 0,.int .i64 0,.int .i64 0,.bool false]) (by kernel_rfl) rfl,by decide,fun y u h=>by simp[vrC] at h;rcases h with rfl | rfl | rfl | rfl | rfl | rfl <;> rfl⟩
theorem rxUs:RT usC 28 57 2 16:=⟨fun _=>rfl,Tryz.underlying28,rt_inf (z := .agg #[.int .i64 0,.int .i64 0]) (by kernel_rfl) rfl,by decide,fun y u h=>by simp[usC] at h;rcases h with rfl | rfl <;> rfl⟩
theorem rxNm:RT nmC 54 86 2 24:=⟨fun _=>rfl,Tryz.underlying54,rt_inf (z := .agg #[.string ⟨#[]⟩,.int .i64 0]) (by kernel_rfl) rfl,by decide,fun y u h=>by simp[nmC] at h;rcases h with rfl | rfl <;> rfl⟩
theorem rxSl:RT slC 48 54 1 24:=⟨fun _=>rfl,Tryz.underlying48,rt_inf (z := .slice none 0 0) (by kernel_rfl) rfl,by decide,fun y u h=>by simp[slC] at h;subst h;rfl⟩
theorem rxLb:RT lbC 49 103 2 24:=⟨fun _=>rfl,Tryz.underlying49,rt_inf (z := .agg #[.string ⟨#[]⟩,.bool false]) (by kernel_rfl) rfl,by decide,fun y u h=>by simp[lbC] at h;rcases h with rfl | rfl <;> rfl⟩
structure DV where
 v0:Value
 v1:Value
 v2:Value
 v3:Value
 v6:Value
 bs:List SV
def RowIn {β:Type}(enc:β→List Value)(k:Nat)(e:TypeId)(B:Nat)(w:World)(O:Nat→Prop)(v:Value)(xs:List β):Prop:=OwnR enc k e B w v xs∧∀b,v.ownBlock=some b→O b
section
variable {β:Type}{enc:β→List Value}{k:Nat}{e:TypeId}{B:Nat}{w w':World}{O O' S:Nat→Prop}{v:Value}{xs:List β}
theorem RowIn.kept (h:RowIn enc k e B w O v xs)(hc:Chg S w w')(hs:∀b,O b→¬S b):RowIn enc k e B w' O v xs:=⟨h.1.kept hc (fun b q=>hs b (h.2 b q)),h.2⟩
theorem RowIn.mono (h:RowIn enc k e B w O v xs)(hs:∀b,b<w.heap.size→O b→O' b):RowIn enc k e B w O' v xs:=⟨h.1,fun b q=>hs b (h.1.lt b q).2 (h.2 b q)⟩
end
def boxC (s:Rz.RS)(c a:Int)(M:DV):Array Value:=#[M.v0,M.v1,M.v2,M.v3,.int .i64 (s.fn:Int),M.v6,.int .i64 (s.loops:Int),.int .i64 c,.int .i64 a]
def Prt (w:World)(B wb:Nat)(s:Rz.RS)(c a:Int)(M:DV)(O:Nat→Prop):Nat→Prop
 | 0=>True
 | 1=>O wb∧w.heap[wb]?=some (.cells (boxC s c a M) 51 (0,0))
 | 2=>RowIn scpC 4 53 B w O M.v0 s.scopes
 | 3=>RowIn vrC 6 61 B w O M.v1 s.vars
 | 4=>RowIn usC 2 57 B w O M.v2 s.uses
 | 5=>RowIn slC 1 54 B w O M.v3 M.bs
 | 6=>RowIn lbC 2 103 B w O M.v6 s.labels
 | j+7=>∀v b,M.bs[j]?=some v→s.blocks.reverse[j]?=some b→RowIn nmC 2 86 B w O v.val b.reverse
structure GdD (s:Rz.RS):Prop where
 fnl:s.fn<s.scopes.length
 blk:∀b∈s.blocks,∀e∈b,e.2<s.vars.length
 wf:∀b∈s.blocks,Blk.wf b
 few:∀b∈s.blocks,b.length≤s.vars.length
 scl:s.scopes.length≤200
structure At (w:World)(B wb:Nat)(tg:Nat→Nat)(s:Rz.RS)(c a:Int)(M:DV):Prop where
 prt:∀j,Prt w B wb s c a M (fun b=>tg b=j) j
 lt:∀b,tg b≠0→B≤b∧b<w.heap.size
 len:M.bs.length=s.blocks.length
def RMem (w:World)(B wb:Nat)(O:Nat→Prop)(s:Rz.RS)(c a:Int)(v6:Value):Prop:=∃tg M,At w B wb tg s c a M∧GdD s∧M.v6=v6∧∀b,O b↔tg b≠0
section
variable {w w':World}{B wb:Nat}{O O' S:Nat→Prop}{s s':Rz.RS}{c a c' a':Int}{M M':DV}{tg:Nat→Nat}{v6 v6':Value}
theorem Prt.kept:∀(j:Nat),Prt w B wb s c a M O j→Chg S w w'→(∀b,O b→¬S b)→Prt w' B wb s c a M O j
 | 0,h,hc,hs=>trivial
 | 1,h,hc,hs=>⟨h.1,by rw[hc.block wb (Array.getElem?_eq_some_iff.1 h.2).1 (hs wb h.1)];exact h.2⟩
 | 2,h,hc,hs=>RowIn.kept h hc hs
 | 3,h,hc,hs=>RowIn.kept h hc hs
 | 4,h,hc,hs=>RowIn.kept h hc hs
 | 5,h,hc,hs=>RowIn.kept h hc hs
 | 6,h,hc,hs=>RowIn.kept h hc hs
 | j+7,h,hc,hs=>fun v b e1 e2=>RowIn.kept (h v b e1 e2) hc hs
theorem Prt.mono:∀(j:Nat),Prt w B wb s c a M O j→(∀b,b<w.heap.size→O b→O' b)→Prt w B wb s c a M O' j
 | 0,h,hs=>trivial
 | 1,h,hs=>⟨hs wb (Array.getElem?_eq_some_iff.1 h.2).1 h.1,h.2⟩
 | 2,h,hs=>RowIn.mono h hs
 | 3,h,hs=>RowIn.mono h hs
 | 4,h,hs=>RowIn.mono h hs
 | 5,h,hs=>RowIn.mono h hs
 | 6,h,hs=>RowIn.mono h hs
 | j+7,h,hs=>fun v b e1 e2=>RowIn.mono (h v b e1 e2) hs
def rtg (tg:Nat→Nat)(lo hi k:Nat)(b:Nat):Nat:=if b<lo then tg b else if b<hi then k else 0
theorem rtg_old {tg:Nat→Nat}{lo hi k b:Nat}(h:b<lo):rtg tg lo hi k b=tg b:=by unfold rtg;rw[if_pos h]
theorem rtg_new {tg:Nat→Nat}{lo hi k b:Nat}(h:lo≤b)(h2:b<hi):rtg tg lo hi k b=k:=by unfold rtg;rw[if_neg (by omega),if_pos h2]
theorem At.B0 (h:At w B wb tg s c a M):tg wb=1∧wb<w.heap.size∧B≤wb:=by
 have h1:=(h.prt 1).1
 have h2:=h.lt wb (by omega)
 exact⟨h1,h2.2,h2.1⟩
theorem At.up (h:At w B wb tg s c a M)(hc:Chg S w w')(K:Nat→Prop)(k0:Nat)(hS:∀b,b<w.heap.size→S b→K (tg b)∧tg b≠0)
  (hnew:∀j,K j→Prt w' B wb s' c' a' M' (fun b=>rtg tg w.heap.size w'.heap.size k0 b=j) j)
  (hold:∀j O,¬K j→Prt w' B wb s c a M O j→Prt w' B wb s' c' a' M' O j) (hl:M'.bs.length=s'.blocks.length) :
  At w' B wb (rtg tg w.heap.size w'.heap.size k0) s' c' a' M':=by
 have hB:B≤w.heap.size:=by have:=h.B0;omega
 refine⟨fun j => ?_,fun b q => ?_,hl⟩
 ·by_cases cj:K j
  ·exact hnew j cj
  ·cases j with
   | zero=>trivial
   | succ j =>
     refine hold _ _ cj (Prt.mono _ (Prt.kept (O:=fun b=>tg b=j+1∧b<w.heap.size) _ (Prt.mono _ (h.prt (j+1)) (fun b hb q=>⟨q,hb⟩)) hc (fun b q s=>cj (q.1 ▸ (hS b q.2 s).1))) (fun b _ q => ?_))
     rw[rtg_old q.2]
     exact q.1
 ·by_cases cb:b<w.heap.size
  ·rw[rtg_old cb] at q
   have:=h.lt b q
   have:=hc.size
   omega
  ·unfold rtg at q
   rw[if_neg cb] at q
   by_cases c2:b<w'.heap.size
   ·omega
   ·rw[if_neg c2] at q
    exact absurd rfl q
theorem At.kept (h:At w B wb tg s c a M)(hc:Chg S w w')(hs:∀b,tg b≠0→¬S b):At w' B wb tg s c a M:=by
 refine⟨fun j => ?_,fun b q => ?_,h.len⟩
 ·cases j with
  | zero=>trivial
  | succ j=>exact Prt.kept _ (h.prt _) hc (fun b q=>hs b (by omega))
 ·have:=h.lt b q
  have:=hc.size
  omega
theorem At.below (h:At w B wb tg s c a M)(hb':Below w.heap.size w w'):At w' B wb tg s c a M:=h.kept (S:=fun _=>False) (Chg.of_below hb') (fun _ _ q=>q)
theorem RMem.kept (h:RMem w B wb O s c a v6)(hc:Chg S w w')(hs:∀b,O b→¬S b):RMem w' B wb O s c a v6:=by
 obtain⟨tg,M,h1,hg,hv,h2⟩:=h
 exact⟨tg,M,h1.kept hc (fun b q=>hs b ((h2 b).2 q)),hg,hv,h2⟩
theorem RMem.below (h:RMem w B wb O s c a v6)(hb':Below w.heap.size w w'):RMem w' B wb O s c a v6:=h.kept (S:=fun _=>False) (Chg.of_below hb') (fun _ _ q=>q)
theorem RMem.lt (h:RMem w B wb O s c a v6):∀b,O b→B≤b∧b<w.heap.size:=by
 obtain⟨tg,M,h1,hg,hv,h2⟩:=h
 exact fun b q=>h1.lt b ((h2 b).1 q)
theorem RMem.gd (h:RMem w B wb O s c a v6):GdD s:=by
 obtain⟨tg,M,h1,hg,hv,h2⟩:=h
 exact hg
theorem RMem.at0 (h:RMem w B wb O s c a v6):O wb∧wb<w.heap.size:=by
 obtain⟨tg,M,h1,hg,hv,h2⟩:=h
 exact⟨(h2 wb).2 (by have:=h1.B0;omega),h1.B0.2.1⟩
def RWent (w:World)(B wb:Nat)(O:Nat→Prop)(s:Rz.RS)(c a:Int)(v6:Value)(w':World):Prop:=∃O',RMem w' B wb O' s c a v6∧Chg O w w'∧∀b,O' b→O b∨w.heap.size≤b
theorem RWent.same (h:RMem w B wb O s c a v6)(hb':Below w.heap.size w w'):RWent w B wb O s c a v6 w':=⟨O,h.below hb',Chg.of_below hb',fun b q=>Or.inl q⟩
theorem RWent.drew (h:RWent w B wb O s c a v6 w'):RWent w B wb O s c a v6 w'.drew:=by
 obtain⟨O',h1,h2,h3⟩:=h
 exact⟨O',h1.below ((Below.refl _ _).drew),h2.drew,h3⟩
theorem RWent.behind {w1:World}(hb':Below w.heap.size w w1)(h:RWent w1 B wb O s c a v6 w'):RWent w B wb O s c a v6 w':=by
 obtain⟨O',g1,g2,g3⟩:=h
 exact⟨O',g1,(Chg.of_below hb').trans g2 (fun _ _ q=>q),fun b q=>(g3 b q).imp id (fun q=>Nat.le_trans hb'.size q)⟩
theorem RWent.then {w1:World}(hb':Below w1.heap.size w1 w')(h:RWent w B wb O s c a v6 w1):RWent w B wb O s c a v6 w':=by
 obtain⟨O',g1,g2,g3⟩:=h
 exact⟨O',g1.below hb',g2.trans (Chg.of_below (S:=O) hb') (fun _ _ q=>q),g3⟩
theorem RWent.trans {w1:World}(h:RWent w B wb O s c a v6 w1)(k:∀O',RMem w1 B wb O' s c a v6→RWent w1 B wb O' s' c' a' v6' w'):RWent w B wb O s' c' a' v6' w':=by
 obtain⟨O1,h1,h2,h3⟩:=h
 obtain⟨O2,k1,k2,k3⟩:=k O1 h1
 refine⟨O2,k1,h2.trans k2 (fun i hi q => ?_),fun b q => ?_⟩
 ·rcases h3 i q with q | q
  ·exact q
  ·omega
 ·rcases k3 b q with q | q
  ·exact h3 b q
  ·exact Or.inr (Nat.le_trans h2.size q)
theorem At.went (h:At w B wb tg s c a M){k0:Nat}(hc:Chg S w w')(hS:∀b,b<w.heap.size→S b→tg b≠0)(h':At w' B wb (rtg tg w.heap.size w'.heap.size k0) s' c' a' M')(hg:GdD s')(hv:M'.v6=v6')(hO:∀b,O b↔tg b≠0):RWent w B wb O s' c' a' v6' w':=by
 refine⟨fun b=>rtg tg w.heap.size w'.heap.size k0 b≠0,⟨_,_,h',hg,hv,fun b=>Iff.rfl⟩,⟨hc.os,hc.tape,hc.output,hc.size,fun k hk hn=>hc.block k hk (fun s=>hn ((hO k).2 (hS k hk s)))⟩,fun b q => ?_⟩
 have q:rtg tg w.heap.size w'.heap.size k0 b≠0:=q
 by_cases cb:b<w.heap.size
 ·rw[rtg_old cb] at q
  exact Or.inl ((hO b).2 q)
 ·exact Or.inr (by omega)
theorem At.box (h:At w B wb tg s c a M):w.cell? ⟨wb,0,none⟩=some M.v0∧w.cell? ⟨wb,1,none⟩=some M.v1∧w.cell? ⟨wb,2,none⟩=some M.v2∧w.cell? ⟨wb,3,none⟩=some M.v3∧w.cell? ⟨wb,4,none⟩=some (.int .i64 (s.fn:Int))∧w.cell? ⟨wb,5,none⟩=some M.v6∧w.cell? ⟨wb,6,none⟩=some (.int .i64 (s.loops:Int))∧w.cell? ⟨wb,7,none⟩=some (.int .i64 c)∧w.cell? ⟨wb,8,none⟩=some (.int .i64 a)∧∀n,w.frozen? ⟨wb,n,none⟩=false:=by
 have hp:=(h.prt 1).2
 refine⟨?_,?_,?_,?_,?_,?_,?_,?_,?_,fun n=>frozen_of_row w wb n _ _ hp⟩ <;> rw[cell_of_row w wb _ _ _ (0,0) hp] <;> rfl
theorem RMem.box (h:RMem w B wb O s c a v6):w.cell? ⟨wb,4,none⟩=some (.int .i64 (s.fn:Int))∧w.cell? ⟨wb,5,none⟩=some v6∧w.cell? ⟨wb,6,none⟩=some (.int .i64 (s.loops:Int))∧w.cell? ⟨wb,7,none⟩=some (.int .i64 c)∧w.cell? ⟨wb,8,none⟩=some (.int .i64 a)∧∀n,w.frozen? ⟨wb,n,none⟩=false:=by
 obtain⟨tg,M,h1,hg,hv,h2⟩:=h
 have:=h1.box
 rw[hv] at this
 exact this.2.2.2.2
theorem At.row (h:At w B wb tg s c a M){w5:World}{k j:Nat}{u:Value}(hk:2≤k)(hc:Chg (fun b=>tg b=k) w w5)(M':DV)
  (hbx:boxC s' c a M'=(boxC s c a M).setIfInBounds j u)
  (hnew:∀O:Nat→Prop,(∀b,b<w.heap.size→tg b=k→O b)→(∀b,w.heap.size≤b→b<w5.heap.size→O b)→Prt w5 B wb s' c a M' O k)
  (hold:∀j' W O,j'≠1→j'≠k→Prt W B wb s c a M O j'→Prt W B wb s' c a M' O j') (hl:M'.bs.length=s'.blocks.length) :
  At (w5.setCell ⟨wb,j,none⟩ u) B wb (rtg tg w.heap.size w5.heap.size k) s' c a M'∧Chg (fun b=>tg b=1∨tg b=k) w (w5.setCell ⟨wb,j,none⟩ u):=by
 have hB:=h.B0
 have hbox5:w5.heap[wb]?=_:=(hc.block wb hB.2.1 (by omega)).trans (h.prt 1).2
 have hset:=heap_setCell_same w5 wb j _ 51 u hbox5
 have hcs:Chg (fun b=>b=wb) w5 (w5.setCell ⟨wb,j,none⟩ u):=Chg.set w5 _ _ rfl
 have hall:Chg (fun b=>tg b=1∨tg b=k) w (w5.setCell ⟨wb,j,none⟩ u):=(hc.mono (fun b q=>Or.inr q)).trans (Chg.set (S:=fun b=>tg b=1∨tg b=k) w5 _ u (Or.inl hB.1)) (fun _ _ q=>q)
 have hsz:(w5.setCell ⟨wb,j,none⟩ u).heap.size=w5.heap.size:=by simp
 have hup:=h.up (w':=w5.setCell ⟨wb,j,none⟩ u) (s':=s') (c':=c) (a':=a) (M':=M') hall (fun i=>i=1∨i=k) k (fun b hb q=>⟨q,by omega⟩) ?_ (fun j' O hn=>hold j' _ O (fun e=>hn (Or.inl e)) (fun e=>hn (Or.inr e))) hl
 ·rw[hsz] at hup
  exact⟨hup,hall⟩
 ·rintro i (rfl | rfl)
  ·refine⟨?_,?_⟩
   ·show rtg _ _ _ _ wb=1
    rw[rtg_old hB.2.1];exact hB.1
   ·rw[hset,hbx]
  ·rw[hsz]
   have z1:Prt w5 B wb s' c a M' (fun b=>rtg tg w.heap.size w5.heap.size i b=i∧b≠wb) i:=hnew _ (fun b hb q=>⟨by rw[rtg_old hb];exact q,fun e=>by rw[e] at q;omega⟩) (fun b h1 h2=>⟨rtg_new h1 h2,fun e=>by omega⟩)
   exact Prt.mono i (Prt.kept i z1 hcs (fun b q e=>q.2 e)) (fun b _ q=>q.1)
theorem At.fld (h:At w B wb tg s c a M){j:Nat}{u:Value}(M':DV)(hbx:boxC s' c' a' M'=(boxC s c a M).setIfInBounds j u)
  (hold:∀j' W O,j'≠1→Prt W B wb s c a M O j'→Prt W B wb s' c' a' M' O j') (hl:M'.bs.length=s'.blocks.length) :
  At (w.setCell ⟨wb,j,none⟩ u) B wb (rtg tg w.heap.size w.heap.size 0) s' c' a' M'∧Chg (fun b=>tg b=1) w (w.setCell ⟨wb,j,none⟩ u):=by
 have hB:=h.B0
 have hset:=heap_setCell_same w wb j _ 51 u (h.prt 1).2
 have hcs:Chg (fun b=>tg b=1) w (w.setCell ⟨wb,j,none⟩ u):=Chg.set w _ _ hB.1
 have hsz:(w.setCell ⟨wb,j,none⟩ u).heap.size=w.heap.size:=by simp
 have hup:=h.up (w':=w.setCell ⟨wb,j,none⟩ u) (s':=s') (c':=c') (a':=a') (M':=M') hcs (fun i=>i=1) 0 (fun b hb q=>⟨q,by omega⟩) ?_ (fun j' O hn=>hold j' _ O hn) hl
 ·rw[hsz] at hup
  exact⟨hup,hcs⟩
 ·rintro i rfl
  refine⟨?_,?_⟩
  ·show rtg _ _ _ _ wb=1
   rw[rtg_old hB.2.1];exact hB.1
  ·rw[hset,hbx]
theorem At.put (h:At w B wb tg s c a M){k g j:Nat}{u:Value}(hk:2≤k)(hg0:tg g=k)
  (hbx:boxC s' c a M=boxC s c a M)
  (hnew:∀O:Nat→Prop,Prt w B wb s c a M O k→Prt (w.setCell ⟨g,j,none⟩ u) B wb s' c a M O k)
  (hold:∀j' W O,j'≠1→j'≠k→Prt W B wb s c a M O j'→Prt W B wb s' c a M O j') (hl:M.bs.length=s'.blocks.length) :
  At (w.setCell ⟨g,j,none⟩ u) B wb (rtg tg w.heap.size w.heap.size 0) s' c a M∧Chg (fun b=>tg b=k) w (w.setCell ⟨g,j,none⟩ u):=by
 have hcs:Chg (fun b=>tg b=k) w (w.setCell ⟨g,j,none⟩ u):=Chg.set w _ _ hg0
 have hsz:(w.setCell ⟨g,j,none⟩ u).heap.size=w.heap.size:=by simp
 have hup:=h.up (w':=w.setCell ⟨g,j,none⟩ u) (s':=s') (c':=c) (a':=a) (M':=M) hcs (fun i=>i=k) 0 (fun b hb q=>⟨q,by omega⟩) ?_ (fun j' O hn q => ?_) hl
 ·rw[hsz] at hup
  exact⟨hup,hcs⟩
 ·rintro i rfl
  rw[hsz]
  exact Prt.mono _ (hnew _ (h.prt i)) (fun b hb q=>by rw[rtg_old (by rw[hsz] at hb;exact hb)];exact q)
 ·by_cases e:j'=1
  ·subst e
   exact⟨q.1,by rw[hbx];exact q.2⟩
  ·exact hold j' _ O e hn q
end
end Go.Proofs.YtihmdcdifakepaaGreat.Rv.Rx
