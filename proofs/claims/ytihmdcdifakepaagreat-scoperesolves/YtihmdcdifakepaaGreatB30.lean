/- YL, NM -/
import Derived.Test.YtihmdcdifakepaaGreatB18
import Derived.Test.YtihmdcdifakepaaGreatRows
import Derived.ProofKit
import Derived.OpenShut
import Derived.Deep.Slices
import Derived.Test.YtihmdcdifakepaaGreatB28
set_option linter.unusedVariables false
set_option linter.unusedSimpArgs false
set_option maxRecDepth 100000
set_option maxHeartbeats 40000000
namespace Go.Proofs.YtihmdcdifakepaaGreat.Sc
open Go.RowKit Go.ChangeShapes Go.WideShapes
set_option maxRecDepth 100000
section
variable {H:Type}{enc:TypeId×Value→H}{w:World}{base:Nat}{spare:Nat→Bool}{held:Bool}
theorem open_sl {α:Type}{t e:TypeId}{k fuel:Nat}{cs:List Value}{x:DataW H×List MemPlace}(enc':α→List Value)(good:α→Prop)
  (ht:Tryz.prog.underlying t=some (.slice e)) (hk:Tryz.prog.cellsOf e=k) (hk0:0<k) (hlen:∀y,(enc' y).length=k)
  (elem:∀cs' x',DataW.trod enc Tryz.prog w base spare held fuel e cs'=some x'→∃y,cs'=enc' y∧good y)
  (h:DataW.trod enc Tryz.prog w base spare held (fuel+1) t cs=some x) :
  ∃s:Sli α,cs=[s.val]∧s.ok enc' k w∧(∀y∈s.xs,good y):=by
 rcases DataW.trod_slice ht h with⟨rfl,rfl⟩ | ⟨a,len,cap,elems,rest,n,hn,rfl,rfl,hb,hl,hm,hel0,hel,_,_⟩
 ·exact⟨⟨none,0,[]⟩,rfl,⟨Nat.le_refl _,Nat.zero_le _,fun h=>absurd rfl h⟩,(fun y hy=>by cases hy)⟩
 ·obtain rfl:fuel=n:=by omega
  have hall:∀i:Fin len,∃y,good y∧∀j,j<k→w.cell? ((a.add (i.val*k)).add j)=(enc' y)[j]?:=by
   intro i
   have h0:=hel i.val i.isLt
   have h1:elems[i.val]?=some (elems[i.val]'(by rw[hel0];exact i.isLt)):=List.getElem?_eq_getElem _
   rw[h1] at h0
   obtain⟨cs',h2,h3⟩:=Option.bind_eq_some_iff.1 h0
   obtain⟨y,rfl,hg⟩:=elem cs' _ h3
   rw[hk] at h2
   obtain⟨_,_,hcell⟩:=World.cells?_some h2
   exact⟨y,hg,hcell⟩
  let f:Fin len→α:=fun i=>Classical.choose (hall i)
  have hf:∀i,good (f i)∧∀j,j<k→w.cell? ((a.add (i.val*k)).add j)=(enc' (f i))[j]?:=fun i=>Classical.choose_spec (hall i)
  refine⟨⟨some a,cap,List.ofFn f⟩,by simp[Sli.val],⟨by simpa using hl,hm,fun h0 => ?_⟩,?_⟩
  ·have lpos:0<len:=by
    rcases Nat.eq_zero_or_pos len with c | c
    ·subst c
     exact absurd (by simp) h0
    ·exact c
   have h1:=(hf ⟨0,lpos⟩).2 0 hk0
   have hsp:a.spot=none:=by
    have h2:(enc' (f ⟨0,lpos⟩))[0]?=some ((enc' (f ⟨0,lpos⟩))[0]'(by rw[hlen];exact hk0)):=List.getElem?_eq_getElem _
    rw[h2] at h1
    have e1:(a.add (0*k)).add 0=a:=by simp[Addr.add]
    rw[show((⟨0,lpos⟩:Fin len).val*k)=0*k from rfl,e1] at h1
    exact World.cell?_spot h1
   obtain⟨b,off,sp⟩:=a
   simp only at hsp
   subst hsp
   refine⟨b,off,rfl,?_⟩
   intro i y hi j u hj
   simp only[List.getElem?_ofFn] at hi
   split at hi
   ·rename_i c
    obtain rfl:=Option.some.inj hi
    have jl:j<k:=by
     rcases Nat.lt_or_ge j k with d | d
     ·exact d
     ·rw[List.getElem?_eq_none (by rw[hlen];exact d)] at hj;cases hj
    have h3:=(hf ⟨i,c⟩).2 j jl
    rw[hj] at h3
    rw[←h3]
    congr 1
    have ea:∀(p n:Nat),(⟨b,p,none⟩:Addr).add n=⟨b,p+n,none⟩:=by
     intro p n
     unfold Addr.add
     by_cases hn:n=0
     ·subst hn;simp
     ·simp[hn]
    rw[ea,ea]
   ·cases hi
  ·intro y hy
   simp only[List.mem_ofFn] at hy
   obtain⟨i,rfl⟩:=hy
   exact(hf i).1
theorem enc_len (n:Nat)(t:Tr n):(encT n t).length=6:=rfl
theorem node_six {k:Nat}{v0 v1 v2 v3 v4 v5:Value}{y0 y1 y2 y3 y4 y5:DataW H×List MemPlace}(g0:DataW.trod enc Tryz.prog w base spare held k 3 [v0]=some y0)(g1:DataW.trod enc Tryz.prog w base spare held k 3 [v1]=some y1)
  (g2:DataW.trod enc Tryz.prog w base spare held k 9 [v2]=some y2) (g3:DataW.trod enc Tryz.prog w base spare held k 22 [v3]=some y3) (g4:DataW.trod enc Tryz.prog w base spare held k 9 [v4]=some y4) :
  ∃x:Nd,x.wf∧v0 = .int .i64 x.kind∧v1 = .int .i64 x.pl∧v2 = .string x.name∧v3 = .int .u64 x.num∧v4 = .string x.op:=by
 obtain⟨a0,e0,_,_⟩:=DataW.trod_int Tryz.underlying3 g0
 obtain⟨a1,e1,_,wf1⟩:=DataW.trod_int Tryz.underlying3 g1
 obtain⟨a2,e2,_,wf2⟩:=DataW.trod_string Tryz.underlying9 g2
 obtain⟨a3,e3,_,_⟩:=DataW.trod_int Tryz.underlying22 g3
 obtain⟨a4,e4,_,wf4⟩:=DataW.trod_string Tryz.underlying9 g4
 exact⟨⟨a0,a1,a2,a3,a4⟩,⟨wf1,wf2,wf4⟩,by simpa using e0,by simpa using e1,by simpa using e2,by simpa using e3,by simpa using e4⟩
theorem open_tree:∀(m fuel:Nat)(cs:List Value)(x:DataW H×List MemPlace),fuel≤2*m→DataW.trod enc Tryz.prog w base spare held fuel 25 cs=some x→∃t:Tr m,cs=encT m t∧okT m w t:=by
 intro m
 induction m with
 | zero =>
   intro fuel cs x hf h
   obtain rfl:fuel=0:=by omega
   simp[DataW.trod] at h
 | succ m ih =>
   intro fuel cs x hfu h
   obtain⟨xs,k,hk,hxy,hlen,hxl,hf⟩:=DataW.trod_struct Tryz.underlying25 h
   rw[show Tryz.prog.cellsOf 25=6 by kernel_rfl] at hlen
   have hxl:xs.length=6:=hxl
   match cs,hlen,xs,hxl with
   | [v0,v1,v2,v3,v4,v5],_,[y0,y1,y2,y3,y4,y5],_ =>
     have g0:DataW.trod enc Tryz.prog w base spare held k 3 [v0]=some y0:=hf 0 _ rfl
     have g1:DataW.trod enc Tryz.prog w base spare held k 3 [v1]=some y1:=hf 1 _ rfl
     have g2:DataW.trod enc Tryz.prog w base spare held k 9 [v2]=some y2:=hf 2 _ rfl
     have g3:DataW.trod enc Tryz.prog w base spare held k 22 [v3]=some y3:=hf 3 _ rfl
     have g4:DataW.trod enc Tryz.prog w base spare held k 9 [v4]=some y4:=hf 4 _ rfl
     have g5:DataW.trod enc Tryz.prog w base spare held k 23 [v5]=some y5:=hf 5 _ rfl
     obtain⟨x,hw,rfl,rfl,rfl,rfl,rfl⟩:=node_six (v5:=v5) (y5:=y5) g0 g1 g2 g3 g4
     cases k with
     | zero=>simp[DataW.trod] at g5
     | succ k =>
       obtain⟨s,e5,ok5,good5⟩:=open_sl (encT m) (okT m w) Tryz.underlying23 (show Tryz.prog.cellsOf 25=6 by kernel_rfl) (by omega) (enc_len m) (fun cs' x' h'=>ih k cs' x' (by omega) h') g5
       obtain rfl:v5=s.val:=by simpa using e5
       exact⟨((x,s):Nd×Sli (Tr m)),rfl,hw,ok5,good5⟩
theorem agg_node {W:World}{base:Nat}{v:Value}{n:Nat}{t:Tr n}(h:Value.okWide Tryz.prog W .any base 25 v)(hs:v.cells.toList=encT n t):v=valT n t:=by
 obtain⟨cs,rfl,_⟩:=okWide_struct Tryz.underlying25 h
 have:cs.toList=encT n t:=hs
 unfold valT
 unfold encT at this
 rw[show cs=#[.int .i64 (ndT n t).kind,.int .i64 (ndT n t).pl,.string (ndT n t).name,.int .u64 (ndT n t).num,.string (ndT n t).op,.slice (atT n t) (nkT n t) (capT n t)] from Array.toList_inj.1 this]
end
end Go.Proofs.YtihmdcdifakepaaGreat.Sc
namespace Go.Proofs.YtihmdcdifakepaaGreat.Rv
open Go.RowKit Go.Proofs.YtihmdcdifakepaaGreat.Sc Go.Proofs.YtihmdcdifakepaaGreat.Rz
def inS (x:Nd)(many:Nat)(s:Rz.RS):Rz.RS:={ s with scopes:=s.scopes++[⟨x.pl,s.fn,many,0⟩],fn:=s.scopes.length,loops:=0,labels:=[] }
def slS (x:Nd)(many:Nat)(s:Rz.RS):Rz.RS:=if selfB x then putVarP x.name x.pl 5 many (openP (inS x many s)) else openP (inS x many s)
def bpS (x:Nd)(s:Rz.RS):Rz.RS:=if selfB x then bumpP s else s
theorem enter_is (x:Nd)(many:Nat)(s:Rz.RS):enterP x many s=openP (slS x many s):=rfl
theorem cr_in (x:Nd)(many:Nat)(s:Rz.RS):cr (inS x many s)=cr s+1:=by
 unfold cr inS
 simp only[List.length_append,List.length_singleton,List.map_append,List.map_cons,List.map_nil,List.sum_append,List.sum_cons,List.sum_nil]
 omega
theorem dp_in (x:Nd)(many:Nat)(s:Rz.RS):dp (inS x many s)≤dp s:=by
 unfold dp inS
 simp only[List.length_nil]
 omega
theorem put_keeps (nm:ByteArray)(pl kd:Int)(slot:Nat)(s:Rz.RS):(putVarP nm pl kd slot s).blocks.length=s.blocks.length:=by
 unfold putVarP
 simp only
 cases s.blocks with
 | nil=>rfl
 | cons a b=>rfl
theorem cr_sl (x:Nd)(many:Nat)(s:Rz.RS):cr (slS x many s)≤cr s+2:=by
 have h1:=cr_in x many s
 unfold slS
 split
 ·rw[cr_put,cr_open];omega
 ·rw[cr_open];omega
theorem dp_sl (x:Nd)(many:Nat)(s:Rz.RS):dp (slS x many s)≤dp s+1∧(slS x many s).blocks.length=s.blocks.length+1∧(slS x many s).fn=s.scopes.length:=by
 have h1:=dp_in x many s
 unfold slS
 split
 ·refine⟨?_,?_,rfl⟩
  ·unfold dp at *
   rw[put_keeps]
   show(openP (inS x many s)).blocks.length+(inS x many s).labels.length+(inS x many s).loops≤_
   unfold openP
   simp only[List.length_cons]
   omega
  ·rw[put_keeps];rfl
 ·refine⟨?_,rfl,rfl⟩
  unfold dp at *
  show(openP (inS x many s)).blocks.length+(inS x many s).labels.length+(inS x many s).loops≤_
  unfold openP
  simp only[List.length_cons]
  omega
structure PaE (n:Nat)(l:List (Tr n))(sN s1:Rz.RS):Prop where
 eq:parsP (ndR n) l sN = .ok s1
 cr':cr s1≤cr sN+2*l.length
 bl:s1.blocks.length=sN.blocks.length
 lb:s1.labels=sN.labels
 lo:s1.loops=sN.loops
 fn':s1.fn=sN.fn
theorem PaAt.last {W0:World}{n:Nat}{w:World}{rb:Nat}{O:Nat→Prop}{s:Rz.RS}{v6:Value}{xs:List (Tr n)}{i:Nat}{wr:World}(h:PaAt W0 n w rb O s v6 xs i wr)(hi:xs.length≤i):∃s1,PaE n xs s s1∧Went w W0.heap.size rb O s1 v6 wr:=by
 obtain⟨hle,s1,e1,⟨O1,o1,o2,o3⟩,b1,b2,b3,b4,b5⟩:=h
 rw[List.take_of_length_le hi] at e1
 have:i=xs.length:=by omega
 subst this
 exact⟨s1,⟨e1,b1,b2,b3,b4,b5⟩,O1,o1.mem,o2,o3⟩
theorem bp_keeps (x:Nd)(s:Rz.RS):(bpS x s).blocks=s.blocks∧(bpS x s).labels=s.labels∧(bpS x s).loops=s.loops∧(bpS x s).fn=s.fn∧cr (bpS x s)≤cr s+1:=by
 unfold bpS
 split
 ·exact⟨rfl,rfl,rfl,rfl,cr_bump s⟩
 ·exact⟨rfl,rfl,rfl,rfl,by omega⟩
structure FnK (W0:World)(n:Nat)(w1:World)(rb:Nat)(O1:Nat→Prop)(s:Rz.RS)(v6:Value)(x:Nd)(kv:Value)(many:Nat)(l:List (Tr n))(c:Tr n):Prop where
 opn:Calls Tryz.prog 26 #[.pointer (some ⟨rb,0,none⟩)] w1 (fun e w'=>e = .returned (.tuple #[])∧Went w1 W0.heap.size rb O1 (openP (inS x many s)) v6 w')
 slf:∀s1 w2,Went w1 W0.heap.size rb O1 s1 v6 w2→Calls Tryz.prog 67 #[.agg #[.int .i64 x.kind,.int .i64 x.pl,.string x.name,.int .u64 x.num,.string x.op,kv]] w2 (fun e w'=>e = .returned (.bool (selfB x))∧Went w1 W0.heap.size rb O1 s1 v6 w')
 var:∀w2,Went w1 W0.heap.size rb O1 (openP (inS x many s)) v6 w2→Calls Tryz.prog 71 #[.pointer (some ⟨rb,0,none⟩),.agg #[.int .i64 x.kind,.int .i64 x.pl,.string x.name,.int .u64 x.num,.string x.op,kv],.int .i64 5,.int .i64 (many:Int)] w2 (fun e w'=>e = .returned (.tuple #[])∧Went w1 W0.heap.size rb O1 (putVarP x.name x.pl 5 many (openP (inS x many s))) v6 w')
 op2:∀w2,Went w1 W0.heap.size rb O1 (slS x many s) v6 w2→Calls Tryz.prog 26 #[.pointer (some ⟨rb,0,none⟩)] w2 (fun e w'=>e = .returned (.tuple #[])∧Went w1 W0.heap.size rb O1 (enterP x many s) v6 w')
 pst:∀w2,Went w1 W0.heap.size rb O1 (enterP x many s) v6 w2→PaAt W0 n w1 rb O1 (enterP x many s) v6 l 0 w2
 pas:∀(i:Nat) (t:Tr n) wr wb,l[i]?=some t→PaAt W0 n w1 rb O1 (enterP x many s) v6 l i wr→Below wr.heap.size wr wb→Calls Tryz.prog 49 #[.pointer (some ⟨rb,0,none⟩),valT n t,.int .i64 3] wb fun e w'=>(e = .returned (.tuple #[])∧PaAt W0 n w1 rb O1 (enterP x many s) v6 l (i+1) w')∨∃er,e = .panicked (thrown er)∧parsP (ndR n) l (enterP x many s) = .error er∧Chg O1 w1 w'
 bmp:∀s1 w2,PaE n l (enterP x many s) s1→Went w1 W0.heap.size rb O1 s1 v6 w2→∃g,(varsAt s1:Int)≤100000000∧Calls Tryz.prog 70 #[.pointer (some ⟨rb,0,none⟩)] w2 (fun e w'=>e = .returned (.pointer (some ⟨g,s1.fn*4,none⟩))∧w'.cell? ⟨g,s1.fn*4+3,none⟩=some (.int .i64 (varsAt s1:Int))∧w'.frozen? ⟨g,s1.fn*4+3,none⟩=false∧Went w1 W0.heap.size rb O1 (bumpP s1) v6 (w'.setCell ⟨g,s1.fn*4+3,none⟩ (.int .i64 ((varsAt s1:Int)+1))))
 bod:∀s1 w2,PaE n l (enterP x many s) s1→Went w1 W0.heap.size rb O1 (bpS x s1) v6 w2→Calls Tryz.prog 27 #[.pointer (some ⟨rb,0,none⟩),.slice (atT n c) (nkT n c) (capT n c)] w2 (Out w1 W0.heap.size rb O1 v6 (.tuple #[]) ((resP bi n).2 c (bpS x s1)))
 sh1:∀s1 s3 w2,PaE n l (enterP x many s) s1→(resP bi n).2 c (bpS x s1) = .ok s3→Went w1 W0.heap.size rb O1 s3 v6 w2→Calls Tryz.prog 28 #[.pointer (some ⟨rb,0,none⟩)] w2 (fun e w'=>e = .returned (.tuple #[])∧Went w1 W0.heap.size rb O1 (shutP s3) v6 w')
 sh2:∀s1 s3 w2,PaE n l (enterP x many s) s1→(resP bi n).2 c (bpS x s1) = .ok s3→Went w1 W0.heap.size rb O1 (shutP s3) v6 w2→Calls Tryz.prog 28 #[.pointer (some ⟨rb,0,none⟩)] w2 (fun e w'=>e = .returned (.tuple #[])∧Went w1 W0.heap.size rb O1 (shutP (shutP s3)) v6 w')
 fnl:∀s1 s3 w2,PaE n l (enterP x many s) s1→(resP bi n).2 c (bpS x s1) = .ok s3→Went w1 W0.heap.size rb O1 (shutP (shutP s3)) v6 w2→s.scopes.length<(shutP (shutP s3)).scopes.length
theorem Went.gd {w w':World}{B rb:Nat}{O:Nat→Prop}{s:Rz.RS}{v6:Value}(h:Went w B rb O s v6 w'):s.fn<s.scopes.length:=by
 obtain⟨O',⟨tg,v0,v1,v2,v3,ms,hm,hO⟩,_,_⟩:=h
 exact hm.gd.fnl
theorem vars_le {s:Rz.RS}:varsAt s≤cr s:=by
 unfold varsAt cr
 cases hy:s.scopes[s.fn]? with
 | none=>simp
 | some y =>
   have h2:y.vars≤(s.scopes.map Rz.Scp.vars).sum:=le_sum (List.mem_map.2 ⟨y,List.mem_of_getElem? hy,rfl⟩)
   simp only[Option.map_some,Option.getD_some]
   omega
theorem cons_of_len {α:Type}{l:List α}(h:1≤l.length):∃a b,l=a :: b:=by
 cases l with
 | nil=>simp at h
 | cons a b=>exact⟨a,b,rfl⟩
theorem fnK_of {W0:World}{n:Nat}(hN:∀m,m<n→NC W0 m){w1:World}{rb:Nat}{O1:Nat→Prop}{s:Rz.RS}{v6:Value}{x:Nd}{many:Nat}(h:On W0 rb O1 (inS x many s) v6 w1)(hnm:x.name.size≤maxLen){kv:Value}{l:List (Tr n)}{c:Tr n}(hl:∀y∈l,okF n W0 y)(hc:okF n W0 c)(hb:cr s+8+8*((l.map (szT n)).sum+szT n c)≤lim)(hd:dp s+4+4*n≤lim):FnK W0 n w1 rb O1 s v6 x kv many l c:=by
 have hci:=cr_in x many s
 have hdi:=dp_in x many s
 have hcs:=cr_sl x many s
 obtain⟨hds,hbs,hfs⟩:=dp_sl x many s
 have hsl:=sum_len (szT n) (sz_pos n) l
 have hce:cr (enterP x many s)≤cr s+2:=hcs
 have hbe:(enterP x many s).blocks.length=s.blocks.length+2:=by rw[enter_is];unfold openP;simp only[List.length_cons];omega
 have hde:dp (enterP x many s)≤dp s+2:=by
  rw[enter_is]
  unfold dp openP at *
  simp only[List.length_cons]
  omega
 have hfe:(enterP x many s).fn=s.scopes.length:=hfs
 have hdp1:∀ {s1:Rz.RS},PaE n l (enterP x many s) s1→dp (bpS x s1)≤dp s+2:=fun {s1} p=>by
  obtain⟨q1,q2,q3,q4,q5⟩:=bp_keeps x s1
  unfold dp at *
  rw[q1,q2,q3,p.bl,p.lb,p.lo]
  exact hde
 refine⟨open_any w1 W0.heap.size rb O1 _ v6 h.mem (bg_of (by omega) (by omega)),fun s1 w2 hw=>relR (P:=fun e=>e = .returned (.bool (selfB x))) h hw fun O2 o2=>hasSelf_any w2 x kv,fun w2 hw=>relW h hw fun O2 o2 => ?_,fun w2 hw=>relW h hw fun O2 o2 => ?_,fun w2 hw => ?_,fun i t wr wb ht hp hbl => ?_,fun s1 w2 p hw => ?_,fun s1 w2 p hw=>rel h hw fun O2 o2 => ?_,fun s1 s3 w2 p e hw=>relW h hw fun O2 o2 => ?_,fun s1 s3 w2 p e hw=>relW h hw fun O2 o2 => ?_,fun s1 s3 w2 p e hw => ?_⟩
 ·exact variable_any w2 W0.heap.size rb O2 (openP (inS x many s)) v6 o2.mem (bg_of (by rw[cr_open];omega) (by unfold dp openP at *;simp only[List.length_cons];omega)) [] (inS x many s).blocks rfl x.kind x.pl x.num x.name x.op kv hnm (fun y hy=>by cases hy) 5 many
 ·rw[enter_is]
  exact open_any w2 W0.heap.size rb O2 (slS x many s) v6 o2.mem (bg_of (by omega) (by omega))
 ·obtain⟨O2,o1,o2,o3⟩:=h.went hw
  exact⟨Nat.zero_le _,_,rfl,⟨O2,o1,o2,o3⟩,by omega,rfl,rfl,rfl,rfl⟩
 ·have ho:=hl t (List.mem_of_getElem? ht)
  have hs:=okT_name ho.1
  have q:=hp.step ht hbl (by omega) (by omega) (by omega) (by rw[nd_same];exact hs) (ndT n t).kind (ndT n t).num (ndT n t).op (.slice (atT n t) (nkT n t) (capT n t))
  rw[nd_same] at q
  exact q
 ·obtain⟨O2,o1,o2,o3⟩:=h.went hw
  obtain⟨g,nn,cap,q0,q3,qf,qs,qw⟩:=o1.mem.bump
  refine⟨g,?_,(qs w2 (Below.refl _ _)).mono ?_⟩
  ·have hv:=vars_le (s:=s1)
   have hp:=p.cr'
   unfold lim at hb
   omega
  ·rintro e w' ⟨rfl,hb'⟩
   have hlt:=World.block_lt_of_cell? w2 _ q3
   refine⟨rfl,Sc.cells_below hb' _ _ q3,?_,?_⟩
   ·rw[World.frozen?_of_block (w:=w2) (a:=⟨g,s1.fn*4+3,none⟩) (hb'.block g hlt)]
    exact qf
   ·exact went_then (o2.trans (Chg.of_below hb') (fun _ _ (q:O1 _)=>q)) o3 (qw w' hb')
 ·obtain⟨q1,q2,q3,q4,q5⟩:=bp_keeps x s1
  have hp:=p.cr'
  have hdd:=hdp1 p
  exact body_any W0 n hN w2 rb O2 (bpS x s1) v6 o2 c hc (by omega) (by omega) (by rw[q1,p.bl];omega)
 ·obtain⟨q1,q2,q3,q4,q5⟩:=bp_keeps x s1
  have hk:=body_keeps e
  obtain⟨c0,cs,hbs'⟩:=cons_of_len (l:=s3.blocks) (by rw[hk,q1,p.bl];omega)
  exact shut_any w2 W0.heap.size rb O2 s3 v6 o2.mem c0 cs hbs'
 ·obtain⟨q1,q2,q3,q4,q5⟩:=bp_keeps x s1
  have hk:=body_keeps e
  obtain⟨c0,cs,hbs'⟩:=cons_of_len (l:=(shutP s3).blocks) (by unfold shutP;simp only[List.length_drop];rw[hk,q1,p.bl];omega)
  exact shut_any w2 W0.heap.size rb O2 (shutP s3) v6 o2.mem c0 cs hbs'
 ·obtain⟨q1,q2,q3,q4,q5⟩:=bp_keeps x s1
  have hg:=hw.gd
  have ht:=((keeps_resP bi n).2 c _ s3 e).fn
  have:(shutP (shutP s3)).fn=s.scopes.length:=by
   show s3.fn=_
   rw[ht,q4,p.fn',hfe]
  omega
end Go.Proofs.YtihmdcdifakepaaGreat.Rv
