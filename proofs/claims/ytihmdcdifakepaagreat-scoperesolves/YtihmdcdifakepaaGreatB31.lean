/- NP, NR, FT -/
import Derived.Test.YtihmdcdifakepaaGreatNO
import Derived.Test.YtihmdcdifakepaaGreatB14
import Derived.Test.YtihmdcdifakepaaGreatB8
import Derived.Test.YtihmdcdifakepaaGreatB20
set_option linter.unusedVariables false
set_option linter.unusedSimpArgs false
set_option maxRecDepth 100000
set_option maxHeartbeats 40000000
namespace Go.Proofs.YtihmdcdifakepaaGreat.Rv
open Go.RowKit Go.Proofs.YtihmdcdifakepaaGreat.Sc Go.Proofs.YtihmdcdifakepaaGreat.Rz
theorem mem_start {w:World}{B rb sb:Nat}{pl:Int}(hlo:B≤rb)(hsb:B≤sb)(hne:sb≠rb)(hbox:w.heap[rb]?=some (.cells #[.slice (some ⟨sb,0,none⟩) 1 1,.slice none 0 0,.slice none 0 0,.slice none 0 0,.int .i64 0,.int .i64 0,.slice none 0 0] 45 (0,0)))(hs:w.heap[sb]?=some (.cells #[.int .i64 pl,.int .i64 (-1),.int .i64 0,.int .i64 0] 53 (0,0))) :
  ∃O,Mem w B rb O (startP pl) (.slice none 0 0)∧∀b,O b→b=rb∨b=sb:=by
 refine⟨Ow rb (.slice (some ⟨sb,0,none⟩) 1 1) (.slice none 0 0) (.slice none 0 0) (.slice none 0 0) (.slice none 0 0) [],⟨fun b=>if b=rb then 0 else 1,.slice (some ⟨sb,0,none⟩) 1 1,.slice none 0 0,.slice none 0 0,.slice none 0 0,[],?_,fun b=>Iff.rfl⟩,?_⟩
 ·have hown:OwnR scpC 4 53 B w (.slice (some ⟨sb,0,none⟩) 1 1) [⟨pl,-1,0,0⟩]:=by
   refine⟨by simp[scpC],Or.inr ⟨sb,1,_,rfl,hsb,hs,Nat.le_refl _,by unfold maxLen;omega,by simp,by simp[scpC]⟩⟩
  refine⟨hbox,hown,OwnR.nil _ _,OwnR.nil _ _,OwnR.nil _ _,OwnR.nil _ _,by simp,fun b q => ?_,fun b q=>by simp[Value.ownBlock] at q,fun b q=>by simp[Value.ownBlock] at q,fun b q=>by simp[Value.ownBlock] at q,fun b q=>by simp[Value.ownBlock] at q,fun i b q=>by simp at q,rfl,fun i m b q=>by simp at q,⟨by simp[startP],fun b q=>by simp[startP] at q,fun b q=>by simp[startP] at q⟩,hlo⟩
  have e:sb=b:=by simpa [Value.ownBlock] using q
  subst e
  simp[hne]
 ·rintro b (q | q | q | q | q | q | ⟨i,q⟩)
  ·exact Or.inl q
  ·exact Or.inr (by have e:sb=b:=by simpa [Value.ownBlock] using q
                    exact e.symm)
  ·simp[Value.ownBlock] at q
  ·simp[Value.ownBlock] at q
  ·simp[Value.ownBlock] at q
  ·simp[Value.ownBlock] at q
  ·simp at q
theorem program_any (W0:World)(n:Nat)(x:Nd)(sl:Sli (Tr n))(ht:okF (n+1) W0 ((x,sl):Nd×Sli (Tr n)))(hsz:szT (n+1) ((x,sl):Nd×Sli (Tr n))≤131072)(hn:n≤1000)(w:World)(rb:Nat)(hbel:Below W0.heap.size W0 w)(hlo:W0.heap.size≤rb)(hbox:w.heap[rb]?=some (.cells #[.slice none 0 0,.slice none 0 0,.slice none 0 0,.slice none 0 0,.int .i64 0,.int .i64 0,.slice none 0 0] 45 (0,0))) :
  Calls Tryz.prog 10 #[.pointer (some ⟨rb,0,none⟩),.agg #[.int .i64 x.kind,.int .i64 x.pl,.string x.name,.int .u64 x.num,.string x.op,.slice sl.at' sl.xs.length sl.cap]] w (Out w W0.heap.size rb (fun b=>b=rb) (.slice none 0 0) (.tuple #[]) (resolveP bi (n+1) ((x,sl):Nd×Sli (Tr n)))):=by
 obtain⟨wb,hwb⟩:∃wb,wb=w.alloc (.cells #[.int .i64 x.kind,.int .i64 x.pl,.string x.name,.int .u64 x.num,.string x.op,.slice sl.at' sl.xs.length sl.cap] 25):=⟨_,rfl⟩
 have hbl:Below w.heap.size w wb:=by rw[hwb];exact(Below.refl _ _).alloc (Nat.le_refl _) _
 have hX:NdB w.heap.size x (.slice sl.at' sl.xs.length sl.cap) wb:=by rw[hwb];exact at_new _ _
 have hrl:rb<w.heap.size:=(Array.getElem?_eq_some_iff.1 hbox).1
 have hboxb:wb.heap[rb]?=_:=(hbl.block rb hrl).trans hbox
 have c0:wb.cell? ⟨rb,0,none⟩=some (.slice none 0 0):=cell_of_row wb _ 0 _ _ (0,0) hboxb
 have f0:wb.frozen? ⟨rb,0,none⟩=false:=by simp[World.frozen?,hboxb,go_sem]
 obtain⟨_,b1,_,_,_,b5⟩:=hX.cs
 have hwl:wb.heap.size=w.heap.size+1:=by rw[hwb,size_new]
 obtain⟨wc,hwc⟩:∃wc,wc=wb.alloc (.cells #[.int .i64 x.pl,.int .i64 (-1),.int .i64 0,.int .i64 0] 53):=⟨_,rfl⟩
 have hbc:Below wb.heap.size wb wc:=by rw[hwc];exact(Below.refl _ _).alloc (Nat.le_refl _) _
 have hsc:wc.heap[wb.heap.size]?=some (.cells #[.int .i64 x.pl,.int .i64 (-1),.int .i64 0,.int .i64 0] 53 (0,0)):=by rw[hwc];exact at_new _ _
 have hboxc:wc.heap[rb]?=_:=(hbc.block rb (by omega)).trans hboxb
 have c0a:wc.cell? ⟨rb,0,none⟩=some (.slice none 0 0):=cell_of_row wc _ 0 _ _ (0,0) hboxc
 have f0a:wc.frozen? ⟨rb,0,none⟩=false:=by simp[World.frozen?,hboxc,go_sem]
 have b5a:=Sc.cells_below hbc _ _ b5
 obtain⟨wd,hwd⟩:∃wd,wd=wc.setCell ⟨rb,0,none⟩ (.slice (some ⟨wb.heap.size,0,none⟩) 1 1):=⟨_,rfl⟩
 have hcd:Chg (fun b=>b=rb) w wd:=by
  rw[hwd]
  exact((Chg.of_below hbl).trans (Chg.of_below (S:=fun b=>b=rb) hbc) (fun _ _ q=>q)).trans (Chg.set (S:=fun b=>b=rb) _ _ _ rfl) (fun _ _ q=>q)
 have hboxd:wd.heap[rb]?=some (.cells #[.slice (some ⟨wb.heap.size,0,none⟩) 1 1,.slice none 0 0,.slice none 0 0,.slice none 0 0,.int .i64 0,.int .i64 0,.slice none 0 0] 45 (0,0)):=by
  rw[hwd]
  exact heap_setCell_same wc rb 0 _ 45 _ hboxc
 have hsd:wd.heap[wb.heap.size]?=some (.cells #[.int .i64 x.pl,.int .i64 (-1),.int .i64 0,.int .i64 0] 53 (0,0)):=by
  rw[hwd,Below.heap_setCell wc ⟨rb,0,none⟩ _ wb.heap.size (by show wb.heap.size≠rb;omega)]
  exact hsc
 have b5c:wd.cell? ⟨w.heap.size,5,none⟩=some (.slice sl.at' sl.xs.length sl.cap):=by
  rw[hwd,World.cell?_setCell_other _ _ _ _ (by simp)]
  exact b5a
 have hW:=hbel.size
 obtain⟨O,hm,hO⟩:=mem_start (w:=wd) (B:=W0.heap.size) (rb:=rb) (sb:=wb.heap.size) (pl:=x.pl) hlo (by omega) (by omega) hboxd hsd
 have hon:On W0 rb O (startP x.pl) (.slice none 0 0) wd:=⟨hm,hcd.below hbel hbel.size (fun b q=>by rw[q];exact hlo)⟩
 have hsum:szT (n+1) ((x,sl):Nd×Sli (Tr n))=1+(sl.xs.map (szT n)).sum:=rfl
 have kb:=block_any W0 n (node_all W0 n) wd rb O (startP x.pl) (.slice none 0 0) hon sl ht.1.2.1 (fun y hy=>⟨ht.1.2.2 y hy,ht.2.2.2.2 y hy⟩) (by
   have:cr (startP x.pl)=1:=rfl
   unfold lim
   omega) (by
   have:dp (startP x.pl)=0:=rfl
   unfold lim
   omega)
 have HT:Hid (∀e w',Out wd W0.heap.size rb O (.slice none 0 0) (.tuple #[]) (blockP (ndR n) (resP bi n).1 sl.xs (startP x.pl)) e w'→Out w W0.heap.size rb (fun b=>b=rb) (.slice none 0 0) (.tuple #[]) (blockP (ndR n) (resP bi n).1 sl.xs (startP x.pl)) e w'):=fun e w' q=>Out.then hcd (fun b k=>by
  rcases hO b k with r | r
  ·exact Or.inl r
  ·exact Or.inr (by omega)) q
 have hRR:resolveP bi (n+1) ((x,sl):Nd×Sli (Tr n))=blockP (ndR n) (resP bi n).1 sl.xs (startP x.pl):=rfl
 rw[hRR]
 clear hRR
 generalize blockP (ndR n) (resP bi n).1 sl.xs (startP x.pl)=R at *
 have hne:¬rb=wb.heap.size:=by omega
 have hne2:¬rb=w.heap.size:=by omega
 have HF:Hid (wc=wb.alloc (.cells #[.int .i64 x.pl,.int .i64 (-1),.int .i64 0,.int .i64 0] 53)):=hwc
 rw[hwc] at c0a f0a b5a
 generalize sl.at'=ka at *
 generalize sl.cap=kc at *
 generalize sl.xs.length=kl at *
 clear hbl hX hboxb hbc hsc hboxc hcd hboxd hsd hW hm hO hon hsum ht hsz hn hbel hlo hbox hrl hwl hwc
 go_enter Tryz.func10,Tryz.ntmps10
 go_upto_region 1 with fail
 rw[←hwb]
 clear hwb
 go_upto_region 2 with fail
 rw[←HF.out,←hwd]
 clear c0a f0a b5a c0 f0 b1 b5 hne hne2 HF hwd
 go_wp2_with fail
 refine kb.mono ?_
 intro e w3 ho
 have ho2:=HT.out e w3 ho
 clear kb ho HT b5c
 cases R with
 | error er =>
   obtain⟨rfl,g⟩:=ho2
   exact⟨rfl,rfl,g⟩
 | ok s' =>
   obtain⟨rfl,g⟩:=ho2
   have HG:=(show Hid _ from g)
   clear g
   go_wp2_with fail
   go_end0
   exact⟨rfl,HG.out⟩
end Go.Proofs.YtihmdcdifakepaaGreat.Rv
namespace Go.Proofs.YtihmdcdifakepaaGreat.Rv
open Go.RowKit Go.Proofs.YtihmdcdifakepaaGreat.Sc
structure Lk (W:World)(n m:Nat)(t:Tr n)(u:Tr m):Prop where
 nd:ndT m u=ndT n t
 ad:atT m u=atT n t
 cap:capT m u=capT n t
 nk:nkT m u=nkT n t
 ok:okT n W t→okT m W u
 pt:∀p star st,partP m p u star st=partP n p t star st
 hd:∀l r,holdsT m l u r=holdsT n l t r
theorem Lk.enc {W:World}{n m:Nat}{t:Tr n}{u:Tr m}(h:Lk W n m t u):encT m u=encT n t:=by
 unfold encT
 rw[h.nd,h.ad,h.cap,h.nk]
theorem Lk.val {W:World}{n m:Nat}{t:Tr n}{u:Tr m}(h:Lk W n m t u):valT m u=valT n t:=by
 unfold valT
 rw[h.nd,h.ad,h.cap,h.nk]
def All2 {α β:Type}(R:α→β→Prop):List α→List β→Prop
 | [],[]=>True
 | a :: l,b :: k=>R a b∧All2 R l k
 | _,_=>False
theorem All2.len {α β:Type}{R:α→β→Prop}:∀ {l:List α}{k:List β},All2 R l k→k.length=l.length
 | [],[],_=>rfl
 | a :: l,b :: k,h=>by rw[List.length_cons,List.length_cons,All2.len h.2]
 | [],b :: k,h=>h.elim
 | a :: l,[],h=>h.elim
theorem All2.get {α β:Type}{R:α→β→Prop}:∀ {l:List α}{k:List β},All2 R l k→∀(i:Nat)(b:β),k[i]?=some b→∃a,l[i]?=some a∧R a b
 | [],[],_,i,b,e=>by simp at e
 | a :: l,b :: k,h,0,c,e=>⟨a,rfl,by simp at e;subst e;exact h.1⟩
 | a :: l,b :: k,h,i+1,c,e=>by
   obtain⟨a',h1,h2⟩:=All2.get h.2 i c (by simpa using e)
   exact⟨a',by simpa using h1,h2⟩
 | [],b :: k,h,i,c,e=>h.elim
 | a :: l,[],h,i,c,e=>h.elim
theorem All2.mem {α β:Type}{R:α→β→Prop}{l:List α}{k:List β}(h:All2 R l k){b:β}(hb:b∈k):∃a,a∈l∧R a b:=by
 obtain⟨i,hi⟩:=List.getElem?_of_mem hb
 obtain⟨a,h1,h2⟩:=h.get i b hi
 exact⟨a,List.mem_of_getElem? h1,h2⟩
theorem kd0_same {W:World}{n m:Nat}:∀ {l:List (Tr n)}{k:List (Tr m)},All2 (Lk W n m) l k→∀i,kd0 (kidT m) k i=kd0 (kidT n) l i
 | [],[],_,i=>by unfold kd0;simp
 | a :: l,b :: k,h,0=>by
   unfold kd0 kidT
   simp only[List.getElem?_cons_zero,Option.map_some,Option.getD_some]
   rw[kd_nd,kd_nd,h.1.nd]
 | a :: l,b :: k,h,i+1=>by
   have:=kd0_same h.2 i
   unfold kd0 at *
   simpa using this
 | [],b :: k,h,i=>h.elim
 | a :: l,[],h,i=>h.elim
theorem kids_same {W:World}{n m:Nat}(star:Bool):∀ {l:List (Tr n)}{k:List (Tr m)},All2 (Lk W n m) l k→∀ps st,kidsP (partP m) star ps k st=kidsP (partP n) star ps l st
 | [],[],_,ps,st=>by cases ps <;> rfl
 | a :: l,b :: k,h,[],st=>rfl
 | a :: l,b :: k,h,p :: ps,st=>by
   unfold kidsP
   rw[h.1.pt]
   congr 1
   funext st2
   exact kids_same star h.2 ps st2
 | [],b :: k,h,ps,st=>h.elim
 | a :: l,[],h,ps,st=>h.elim
theorem loopH_same {W:World}{n m:Nat}(lv:Nat):∀ {l:List (Tr n)}{k:List (Tr m)},All2 (Lk W n m) l k→∀r,loopH (holdsT m lv) k r=loopH (holdsT n lv) l r
 | [],[],_,r=>rfl
 | a :: l,b :: k,h,r=>by
   unfold loopH
   rw[h.1.hd]
   split
   ·exact loopH_same lv h.2 _
   ·rfl
 | [],b :: k,h,r=>h.elim
 | a :: l,[],h,r=>h.elim
theorem right_same {W:World}{n m:Nat}{l:List (Tr n)}{k:List (Tr m)}(h:All2 (Lk W n m) l k)(x:Nd)(star:Bool)(st:St):rightP (kidT m) (partP m) x k star st=rightP (kidT n) (partP n) x l star st:=by
 unfold rightP
 rw[h.len]
 split
 ·rfl
 ·split
  ·rfl
  ·have hh:hereP (kidT m) x k star st=hereP (kidT n) x l star st:=by
    unfold hereP declB
    rw[kd0_same h 1,kd0_same h 2]
   rw[hh]
   congr 1
   funext st2
   exact kids_same _ h _ _
theorem loopH_all {n:Nat}(lv:Nat):∀(l:List (Tr n))(r:Nat),(loopH (holdsT n lv) l r).1=true→∀k∈l,∃r',(holdsT n lv k r').1=true
 | [],r,h,k,hk=>by cases hk
 | a :: l,r,h,k,hk=>by
   unfold loopH at h
   split at h
   ·rename_i c
    rcases List.mem_cons.1 hk with rfl | hk
    ·exact⟨r,c⟩
    ·exact loopH_all lv l _ h k hk
   ·cases h
theorem all2_of {α β:Type}{R:α→β→Prop}:∀(l:List α),(∀a∈l,∃b,R a b)→∃k,All2 R l k
 | [],h=>⟨[],trivial⟩
 | a :: l,h=>by
   obtain⟨b,hb⟩:=h a (List.mem_cons_self ..)
   obtain⟨k,hk⟩:=all2_of l (fun a' ha=>h a' (List.mem_cons_of_mem _ ha))
   exact⟨b :: k,hb,hk⟩
theorem partP_s (n:Nat)(p:UInt8)(x:Nd)(s:Sli (Tr n))(star:Bool)(st:St):partP (n+1) p ((x,s):Nd×Sli (Tr n)) star st=(if x.kind=0 then (if mayLackB p=true∧s.xs.length=0 then some st else none) else if isPartB p x.kind=false then none else if p=110 then (if s.xs.length=0 then takeD st x.pl else none) else rightP (kidT n) (partP n) x s.xs star st):=rfl
theorem holdsT_s (n lv:Nat)(x:Nd)(s:Sli (Tr n))(r:Nat):holdsT (n+1) lv ((x,s):Nd×Sli (Tr n)) r=if r=0∨lv=0 then (false,r) else loopH (holdsT n (lv - 1)) s.xs (r - 1):=rfl
theorem lk_node {W:World}{n m:Nat}{x:Nd}{s:Sli (Tr n)}{k:List (Tr m)}(h:All2 (Lk W n m) s.xs k):Lk W (n+1) (m+1) ((x,s):Nd×Sli (Tr n)) ((x,⟨s.at',s.cap,k⟩):Nd×Sli (Tr m)):=by
 refine⟨rfl,rfl,rfl,?_,?_,?_,?_⟩
 ·show k.length=s.xs.length
  exact h.len
 ·rintro⟨o1,o2,o3⟩
  refine⟨o1,⟨by show k.length≤_;rw[h.len];exact o2.len,o2.cap,fun h0 => ?_⟩,fun y hy => ?_⟩
  ·obtain⟨b,off,e1,hc⟩:=o2.cells (fun e=>by
    have h0':k≠[]:=h0
    have:=h.len
    rw[e] at this
    exact h0' (List.eq_nil_of_length_eq_zero this))
   refine⟨b,off,e1,fun i y hi j u hj => ?_⟩
   obtain⟨a,ha,hl⟩:=h.get i y hi
   rw[hl.enc] at hj
   exact hc i a ha j u hj
  ·obtain⟨a,ha,hl⟩:=h.mem hy
   exact hl.ok (o3 a ha)
 ·intro p star st
  have e1:=partP_s n p x s star st
  have e2:=partP_s m p x ⟨s.at',s.cap,k⟩ star st
  refine e2.trans (Eq.trans ?_ e1.symm)
  simp only
  rw[h.len,right_same h]
 ·intro l r
  have e1:=holdsT_s n l x s r
  have e2:=holdsT_s m l x ⟨s.at',s.cap,k⟩ r
  refine e2.trans (Eq.trans ?_ e1.symm)
  simp only
  rw[loopH_same (l - 1) h]
theorem cut_tree (W:World):∀(lv n:Nat)(t:Tr n)(r:Nat),(holdsT n lv t r).1=true→∃u:Tr lv,Lk W n lv t u
 | lv,0,t,r,h=>nomatch (t:Empty)
 | 0,n+1,(x,s),r,h=>by
   have h:(if r=0∨0=0 then (false,r) else loopH (holdsT n (0 - 1)) s.xs (r - 1)).1=true:=h
   simp at h
 | lv+1,n+1,(x,s),r,h=>by
   have h:(if r=0∨lv+1=0 then (false,r) else loopH (holdsT n (lv+1 - 1)) s.xs (r - 1)).1=true:=h
   split at h
   ·cases h
   ·obtain⟨k,hk⟩:=all2_of (R:=Lk W n lv) s.xs (fun a ha=>by
     obtain⟨r',hr⟩:=loopH_all lv s.xs _ h a ha
     exact cut_tree W lv n a r' hr)
    exact⟨_,lk_node hk⟩
theorem cut_root (W:World)(n:Nat)(t:Tr n)(hok:okT n W t)(h:rootP n t=true):∃u:Tr 300,valT 300 u=valT n t∧encT 300 u=encT n t∧okT 300 W u∧rootP 300 u=true∧szT 300 u≤131072:=by
 cases n with
 | zero=>exact nomatch (t:Empty)
 | succ n =>
   obtain⟨x,s⟩:=t
   have h':=h
   unfold rootP at h'
   simp only[Bool.and_eq_true] at h'
   obtain⟨⟨h1,h2⟩,h3⟩:=h'
   obtain⟨k,hk⟩:=all2_of (R:=Lk W n 299) s.xs (fun a ha=>by
    have h2:(if 131072=0∨300=0 then (false,131072) else loopH (holdsT n (300 - 1)) s.xs (131072 - 1)).1=true:=h2
    split at h2
    ·cases h2
    ·obtain⟨r',hr⟩:=loopH_all 299 s.xs _ h2 a ha
     exact cut_tree W 299 n a r' hr)
   have hl:=lk_node (x:=x) hk
   refine⟨((x,⟨s.at',s.cap,k⟩):Nd×Sli (Tr 299)),hl.val,hl.enc,hl.ok hok,?_,?_⟩
   ·unfold rootP
    simp only[Bool.and_eq_true]
    refine⟨⟨h1,?_⟩,?_⟩
    ·exact(congrArg Prod.fst (hl.hd 300 131072)).trans h2
    ·rw[right_same hk];exact h3
   ·have hh:(holdsT 300 300 ((x,⟨s.at',s.cap,k⟩):Nd×Sli (Tr 299)) 131072).1=true:=by
     have:=hl.hd 300 131072
     exact(congrArg Prod.fst this).trans h2
    have h5:=(holds_count 300 ((x,⟨s.at',s.cap,k⟩):Nd×Sli (Tr 299)) 131072 300).symm.trans hh
    have h6:=of_decide_eq_true h5
    have h7:=count_sz 300 300 _ _ h6
    rw[h7] at h6
    omega
end Go.Proofs.YtihmdcdifakepaaGreat.Rv
namespace Go.Proofs.YtihmdcdifakepaaGreat.Rv
open Go.RowKit Go.Proofs.YtihmdcdifakepaaGreat.Sc Go.Proofs.YtihmdcdifakepaaGreat.Rz
theorem parts_len {k:Int}{n:Nat}(h:(partsI k n).length=n):((k=21∨k=17∨k=12∨k=33∨k=41∨k=38∨k=43)→1≤n)∧(k=38→n=2)∧(k=43→n=3):=by
 refine⟨fun q => ?_,fun q => ?_,fun q => ?_⟩
 ·rcases q with rfl | rfl | rfl | rfl | rfl | rfl | rfl
  ·simp[partsI] at h;omega
  ·simp[partsI] at h;omega
  ·simp[partsI] at h;omega
  ·simp[partsI] at h;omega
  ·simp[partsI] at h;omega
  ·simp[partsI] at h;omega
  ·simp[partsI] at h;omega
 ·subst q;simp[partsI] at h;omega
 ·subst q;simp[partsI] at h;omega
theorem name_kind {k:Int}(h:isPartB 110 k=true):k=3:=by
 unfold isPartB at h
 simpa using h
theorem fit_good:∀(n:Nat)(p:UInt8)(t:Tr n),Rz.Good n p t→Fit n t
 | 0,p,t,h=>nomatch (t:Empty)
 | n+1,p,(x,s),⟨star,st,st',h⟩=>by
   simp only[partP] at h
   split at h
   ·rename_i c
    split at h
    ·rename_i d
     have hx:s.xs=[]:=List.length_eq_zero_iff.1 d.2
     refine⟨fun q=>by omega,fun q=>by omega,fun q=>by omega,fun k hk=>by rw[hx] at hk;cases hk⟩
    ·cases h
   ·rename_i c
    split at h
    ·cases h
    ·rename_i d
     split at h
     ·rename_i e
      subst e
      have hk3:=name_kind (by simpa using d:isPartB 110 x.kind=true)
      split at h
      ·rename_i e0
       have hx:s.xs=[]:=List.length_eq_zero_iff.1 e0
       refine⟨fun q=>by omega,fun q=>by omega,fun q=>by omega,fun k hk=>by rw[hx] at hk;cases hk⟩
      ·cases h
     ·unfold rightP at h
      split at h
      ·cases h
      ·rename_i e1
       split at h
       ·cases h
       ·obtain⟨s1,h1,h2⟩:=Option.bind_eq_some_iff.1 h
        have hl:(partsI x.kind s.xs.length).length=s.xs.length:=by simpa using e1
        obtain⟨l1,l2,l3⟩:=parts_len hl
        refine⟨l1,l2,l3,fun k hk => ?_⟩
        obtain⟨i,hi⟩:=List.getElem?_of_mem hk
        have hil:i<(partsI x.kind s.xs.length).length:=by rw[hl];exact(List.getElem?_eq_some_iff.1 hi).1
        obtain⟨a,b,hab⟩:=kids_good _ _ _ _ _ _ h2 i _ k (List.getElem?_eq_getElem hil) hi
        exact fit_good n _ k ⟨_,a,b,hab⟩
end Go.Proofs.YtihmdcdifakepaaGreat.Rv
