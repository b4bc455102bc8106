/- ZR, MX, MY -/
import Derived.Test.YtihmdcdifakepaaGreatZO
import Derived.Test.YtihmdcdifakepaaGreatB24
import Derived.Test.YtihmdcdifakepaaGreatB21
set_option linter.unusedVariables false
set_option linter.unusedSimpArgs false
set_option maxRecDepth 100000
set_option maxHeartbeats 40000000
namespace Go.Proofs.YtihmdcdifakepaaGreat.Rv.Rx
open Go.RowKit Go.Proofs.YtihmdcdifakepaaGreat.Sc Go.Proofs.YtihmdcdifakepaaGreat.Rz
theorem told_shut {k:Nat}{f:RM}{s s2:Rz.RS}{a c2 a2:Int}(h:Told k (f (openP s)) (openP s) 0 a s2 c2 a2):Told k ((f (openP s)).bind fun s => .ok (shutP s)) s 0 a (shutP s2) c2 a2:=by
 have hb:=h.lk.blen
 have hb1:(openP s).blocks.length=s.blocks.length+1:=by unfold openP;simp
 refine⟨⟨?_,h.lk.fn,h.lk.loops,h.lk.labels,h.lk.scs⟩,h.cr,fun hc=>absurd rfl hc,fun hc => ?_⟩
 ·show(s2.blocks.drop 1).length=_
  rw[List.length_drop,hb,hb1]
  rfl
 ·have hg:=h.good rfl
  cases hf:f (openP s) with
  | error er=>rw[hf] at hg;exact hg
  | ok s3 =>
    rw[hf] at hg
    obtain⟨e1,e2⟩:=hg
    subst e1
    exact⟨rfl,e2⟩
theorem Tl.then {W0:World}{wn w1:World}{wb:Nat}{O:Nat→Prop}{s:Rz.RS}{a:Int}{v6:Value}{k k' F:Nat}{args:Array Value}{r1:Except Rz.Er Rz.RS}{g:RM}{e:Ending}(hn:OnD W0 wb O s 0 a v6 wn)(hT:Tl wn W0.heap.size wb O v6 k r1 s 0 a e w1)(q:∀O1 s1 c1 a1,Lk s s1→cr s1≤cr s+k→OnD W0 wb O1 s1 c1 a1 v6 w1→Calls Tryz.prog F args w1 (Tl w1 W0.heap.size wb O1 v6 k' (g s1) s1 c1 a1)) :
  Calls Tryz.prog F args w1 (Tl wn W0.heap.size wb O v6 (k+k') (r1.bind g) s 0 a):=by
 obtain⟨he,s1,c1,a1,ht1,hw1⟩:=hT
 refine(relT hn hw1 fun O1 o1=>q O1 s1 c1 a1 ht1.lk ht1.cr o1).mono ?_
 rintro e2 w2 ⟨he2,s2,c2,a2,ht2,hw2⟩
 exact⟨he2,s2,c2,a2,Told.bind (f:=fun _=>r1) (g:=g) ht1 ht2,hw2⟩
theorem Tl.bel {W0:World}{wn w1:World}{wb:Nat}{O:Nat→Prop}{s:Rz.RS}{a:Int}{v6:Value}{k:Nat}{r1:Except Rz.Er Rz.RS}{e:Ending}(hn:OnD W0 wb O s 0 a v6 wn)(hT:Tl wn W0.heap.size wb O v6 k r1 s 0 a e w1):Below W0.heap.size W0 w1:=by
 obtain⟨_,s1,c1,a1,_,hw1⟩:=hT
 obtain⟨O1,o1,_,_⟩:=hn.went hw1
 exact o1.bel
theorem kid_in {n:Nat}{W0:World}{sl:Sli (Tr n)}(hso:sl.ok (encT n) 6 W0){kb off:Nat}(hat:sl.at'=some ⟨kb,off,none⟩){i:Nat}{t:Tr n}(ht:sl.xs[i]?=some t){j:Nat}(hj:j=off+i*6):∃(y:Nd)(v:Value),y=ndT n t∧valT n t = .agg #[.int .i64 y.kind,.int .i64 y.pl,.string y.name,.int .u64 y.num,.string y.op,v]∧∀W,Below W0.heap.size W0 W→W.cell? ⟨kb,j,none⟩=some (.int .i64 y.kind)∧W.cell? ⟨kb,j+1,none⟩=some (.int .i64 y.pl)∧W.cell? ⟨kb,j+2,none⟩=some (.string y.name)∧W.cell? ⟨kb,j+3,none⟩=some (.int .u64 y.num)∧W.cell? ⟨kb,j+4,none⟩=some (.string y.op)∧W.cell? ⟨kb,j+5,none⟩=some v:=by
 refine⟨ndT n t,.slice (atT n t) (nkT n t) (capT n t),rfl,by unfold valT;rfl,fun W hW => ?_⟩
 obtain⟨hi,_⟩:=List.getElem?_eq_some_iff.1 ht
 obtain⟨y,b,o2,k1,k2,x0,x1,x2,x3,x4,x5⟩:=kid_at (hso.kept (Sc.cells_below hW)) (k:=i) hi
 rw[hat] at k1
 cases k1
 rw[ht] at k2
 cases k2
 subst hj
 exact⟨x0,x1,x2,x3,x4,x5⟩
theorem stat_35 (W0:World)(n:Nat)(hE:ExC W0 n)(hS:StC W0 n)(hB:BlC W0 n):∀(t:Tr (n+1)),(show Nd×Sli (Tr n) from t).1.kind=35→okD (n+1) W0 t→∀(w:World)(wb:Nat)(O:Nat→Prop)(s:Rz.RS)(c a:Int)(v6:Value),OnD W0 wb O s c a v6 w→cr s+8*szT (n+1) t≤lim+2→dp s+4*(n+1)≤lim→1≤s.blocks.length→Calls Tryz.prog 20 #[.pointer (some ⟨wb,0,none⟩),valT (n+1) t] w (Tl w W0.heap.size wb O v6 (8*szT (n+1) t - 2) ((resR bi (n+1)).2.1 t s) s c a):=by
 intro t h35 hok w wb O s c a v6 h hb hd hm
 obtain⟨x,sl⟩:=t
 replace h35:x.kind=35:=h35
 obtain⟨⟨hxw,hso,hkt⟩,hft⟩:=hok
 have hks:∀y∈sl.xs,okD n W0 y:=fun y hy=>⟨hkt y hy,hft.2.2.2.2 y hy⟩
 have hsz:szT (n+1) ((x,sl):Nd×Sli (Tr n))=1+(sl.xs.map (szT n)).sum:=rfl
 rw[hsz] at hb ⊢
 rw[val_succ]
 obtain⟨kv,hkv⟩:∃kv,kv=Value.slice sl.at' sl.xs.length sl.cap:=⟨_,rfl⟩
 obtain⟨wn,hwn⟩:∃wn,wn=w.alloc (.cells #[.int .i64 x.kind,.int .i64 x.pl,.string x.name,.int .u64 x.num,.string x.op,kv] 25):=⟨_,rfl⟩
 have hbl:Below w.heap.size w wn:=by rw[hwn];exact below_new (Below.refl _ _) (Nat.le_refl _) _
 have hX:NdB w.heap.size x kv wn:=by rw[hwn];exact at_new _ _
 have hn:=h.below hbl
 have c7:=hn.mem.box.2.2.2.1
 obtain⟨P,hP⟩:∃P,P=Tl w W0.heap.size wb O v6 (8*(1+(sl.xs.map (szT n)).sum) - 2) ((resR bi (n+1)).2.1 ((x,sl):Nd×Sli (Tr n)) s) s c a:=⟨_,rfl⟩
 rw[←hP]
 by_cases hc:¬c=0
 ·have hc':(c == 0)=false:=by simpa using hc
  have HE:Hid (P (.returned (.tuple #[])) wn):=by rw[hP];exact⟨rfl,s,c,a,(Told.idle hc).mono (by omega),RWent.same h.mem hbl⟩
  rw[←hkv]
  clear h hb hd hn hX hP hxw hso hkt hft hks hE hS hB hsz hkv hbl h35
  go_enter Tryz.func20,Tryz.ntmps20
  go_upto_region 1 with fail
  rw[←hwn]
  clear hwn
  go_wp2_with fail
  go_end0
  exact HE.out
 have hc:=Decidable.not_not.1 hc
 subst hc
 have HFIN:Hid (∀(k:Nat) (r:Except Rz.Er Rz.RS),k≤8*(1+(sl.xs.map (szT n)).sum) - 2→(resR bi (n+1)).2.1 ((x,sl):Nd×Sli (Tr n)) s=r→∀e w',Tl wn W0.heap.size wb O v6 k r s 0 a e w'→P e w'):=fun k r hk hr e w' hT=>by
  rw[hP,hr]
  exact(hT.mono hk).behind hbl
 have b0:wn.cell? ⟨w.heap.size,0,none⟩=some (.int .i64 x.kind):=cell_of_row wn _ 0 _ _ (0,0) hX
 have b1:wn.cell? ⟨w.heap.size,1,none⟩=some (.int .i64 x.pl):=cell_of_row wn _ 1 _ _ (0,0) hX
 have b2:wn.cell? ⟨w.heap.size,2,none⟩=some (.string x.name):=cell_of_row wn _ 2 _ _ (0,0) hX
 have b3:wn.cell? ⟨w.heap.size,3,none⟩=some (.int .u64 x.num):=cell_of_row wn _ 3 _ _ (0,0) hX
 have b4:wn.cell? ⟨w.heap.size,4,none⟩=some (.string x.op):=cell_of_row wn _ 4 _ _ (0,0) hX
 have b5:wn.cell? ⟨w.heap.size,5,none⟩=some kv:=cell_of_row wn _ 5 _ _ (0,0) hX
 have hlm:cr s≤100000000:=by unfold lim at hb;omega
 have hlen:sl.xs.length=3:=hft.2.2.1 (by omega)
 obtain⟨t0,t1,t2,hxs⟩:∃t0 t1 t2,sl.xs=[t0,t1,t2]:=by
  match e:sl.xs,hlen with
  | [p,q,r],_=>exact⟨p,q,r,rfl⟩
 obtain⟨kb,off,hat,_⟩:=hso.cells (by rw[hxs];simp)
 obtain⟨y0,v0,hy0,hv0,H0⟩:=kid_in hso hat (i:=0) (t:=t0) (by rw[hxs];rfl) (j:=off) (by omega)
 obtain⟨y1,v1,hy1,hv1,H1⟩:=kid_in hso hat (i:=1) (t:=t1) (by rw[hxs];rfl) (j:=off+6) (by omega)
 obtain⟨y2,v2,hy2,hv2,H2⟩:=kid_in hso hat (i:=2) (t:=t2) (by rw[hxs];rfl) (j:=off+12) (by omega)
 have hs3:(sl.xs.map (szT n)).sum=szT n t0+(szT n t1+szT n t2):=by rw[hxs];simp
 have z0:=sz_pos n t0
 have z1:=sz_pos n t1
 have z2:=sz_pos n t2
 have k0:=hks t0 (by rw[hxs];simp)
 have k1:=hks t1 (by rw[hxs];simp)
 have k2:=hks t2 (by rw[hxs];simp)
 rw[hs3] at hb HFIN
 have hr:(resR bi (n+1)).2.1 ((x,sl):Nd×Sli (Tr n)) s=(((resR bi n).1 t0 s).bind ((resR bi n).2.1 t1)).bind ((resR bi n).2.1 t2):=by
  show(if x.kind=33 then _ else if x.kind=34 then _ else if x.kind=35 then (eachP (resR bi n).1 (sl.xs.take 1) s).bind (eachP (resR bi n).2.1 (sl.xs.drop 1)) else _)=_
  rw[if_neg (by omega),if_neg (by omega),if_pos h35,hxs]
  show(eachP (resR bi n).1 [t0] s).bind (eachP (resR bi n).2.1 [t1,t2])=_
  rw[each_one]
  cases (resR bi n).1 t0 s with
  | error e=>rfl
  | ok s1 =>
    show eachP (resR bi n).2.1 ([t1]++[t2]) s1=((resR bi n).2.1 t1 s1).bind _
    rw[each_snoc,each_one]
 have HE0:=hE t0 k0 wn wb O s 0 a v6 hn (by omega) (by omega) (Nat.zero_le _)
 rw[hv0] at HE0
 obtain⟨r1,hr1⟩:∃r1,r1=(resR bi n).1 t0 s:=⟨_,rfl⟩
 rw[←hr1] at HE0 hr
 have HS1:Hid (∀e w1,Tl wn W0.heap.size wb O v6 (8*szT n t0 - 2) r1 s 0 a e w1→e = .returned (.tuple #[])∧w1.cell? ⟨w.heap.size,5,none⟩=some kv∧Below W0.heap.size W0 w1∧Calls Tryz.prog 20 #[.pointer (some ⟨wb,0,none⟩),.agg #[.int .i64 y1.kind,.int .i64 y1.pl,.string y1.name,.int .u64 y1.num,.string y1.op,v1]] w1 (Tl wn W0.heap.size wb O v6 (8*szT n t0 - 2+(8*szT n t1 - 2)) (r1.bind ((resR bi n).2.1 t1)) s 0 a)):=fun e w1 hT=>by
  refine⟨hT.1,?_,hT.bel hn,?_⟩
  ·obtain⟨_,s1,c1,a1,_,hw1⟩:=hT
   rw[cell_of_row w1 _ 5 _ 25 (0,0) (nd_went h.mem (Nat.le_refl _) hbl hX hw1)]
   rfl
  ·rw[←hv1]
   refine hT.then hn fun O1 s1 c1 a1 hl hc o1 => ?_
   have:=hl.dp
   have:=hl.blen
   exact hS t1 k1 w1 wb O1 s1 c1 a1 v6 o1 (by omega) (by omega) (by omega)
 have HS2:Hid (∀e w2,Tl wn W0.heap.size wb O v6 (8*szT n t0 - 2+(8*szT n t1 - 2)) (r1.bind ((resR bi n).2.1 t1)) s 0 a e w2→e = .returned (.tuple #[])∧w2.cell? ⟨w.heap.size,5,none⟩=some kv∧Below W0.heap.size W0 w2∧Calls Tryz.prog 20 #[.pointer (some ⟨wb,0,none⟩),.agg #[.int .i64 y2.kind,.int .i64 y2.pl,.string y2.name,.int .u64 y2.num,.string y2.op,v2]] w2 (fun e w'=>e = .returned (.tuple #[])∧P e w')):=fun e w2 hT=>by
  refine⟨hT.1,?_,hT.bel hn,?_⟩
  ·obtain⟨_,s1,c1,a1,_,hw1⟩:=hT
   rw[cell_of_row w2 _ 5 _ 25 (0,0) (nd_went h.mem (Nat.le_refl _) hbl hX hw1)]
   rfl
  ·rw[←hv2]
   refine(hT.then (k':=8*szT n t2 - 2) (g:=(resR bi n).2.1 t2) hn fun O1 s1 c1 a1 hl hc o1 => ?_).mono ?_
   ·have:=hl.dp
    have:=hl.blen
    exact hS t2 k2 w2 wb O1 s1 c1 a1 v6 o1 (by omega) (by omega) (by omega)
   ·intro e3 w3 hT3
    exact⟨hT3.1,HFIN.out _ _ (by omega) hr e3 w3 hT3⟩
 have HC0:=H0 wn hn.bel
 have HK1:Hid _:=H1
 have HK2:Hid _:=H2
 have hkv2:kv = .slice (some ⟨kb,off,none⟩) 3 sl.cap:=by rw[hkv,hat,hxs];rfl
 have e1:Value.slice sl.at' sl.xs.length sl.cap=kv:=hkv.symm
 rw[e1]
 generalize sl.cap=kc at *
 clear h hb hd hm hn hX hP hxw hso hkt hft hks hE hS hB hsz hkv hbl HFIN hr hr1 hlm e1 hlen hat hxs hs3 z0 z1 z2 k0 k1 k2 hv0 hv1 hv2 H0 H1 H2 hy0 hy1 hy2
 subst hkv2
 obtain⟨x0,x1,x2,x3,x4,x5⟩:=HC0
 rw[h35] at b0 hwn ⊢
 go_enter Tryz.func20,Tryz.ntmps20
 go_upto_region 1 with fail
 rw[←hwn]
 clear hwn
 go_wp2_with fail
 refine HE0.mono ?_
 intro e w1 hT
 obtain⟨rfl,b5',bl1,ka⟩:=HS1.out e w1 hT
 obtain⟨p0,p1,p2,p3,p4,p5⟩:=HK1.out w1 bl1
 clear HE0 hT HS1 x0 x1 x2 x3 x4 x5 b0 b1 b2 b3 b4 b5 HK1 bl1
 go_wp2_with fail
 refine ka.mono ?_
 intro e w2 hT
 obtain⟨rfl,b5,bl2,kc2⟩:=HS2.out e w2 hT
 obtain⟨q0,q1,q2,q3,q4,q5⟩:=HK2.out w2 bl2
 clear ka hT HS2 p0 p1 p2 p3 p4 p5 b5' HK2 bl2
 go_wp2_with fail
 refine kc2.mono ?_
 rintro e w3 ⟨rfl,hp⟩
 have HE:Hid (P (.returned (.tuple #[])) w3):=hp
 clear kc2 hp
 go_wp2_with fail
 go_end0
 exact HE.out
end Go.Proofs.YtihmdcdifakepaaGreat.Rv.Rx
namespace Go.Proofs.YtihmdcdifakepaaGreat.Rv
open Go.RowKit Go.Proofs.YtihmdcdifakepaaGreat.Sc Go.Proofs.YtihmdcdifakepaaGreat.Rz
def hd1 (x:Nd):RM:=fun s=>if x.kind=31 then declP x.name x.pl 1 s else if x.kind=32 then declP x.name x.pl 2 s else if x.kind=33 then declP x.name x.pl 4 s else .ok s
theorem heads_app {α:Type}(nd:α→Nd):∀(l:List α)(k:α)(r:List α)(s s1:Rz.RS),headsP nd l s = .ok s1→headsP nd (l++k :: r) s=(hd1 (nd k) s1).bind (headsP nd r)
 | [],k,r,s,s1,e=>by
   unfold headsP at e
   obtain rfl:=Except.ok.inj e
   rfl
 | x :: l,k,r,s,s1,e=>by
   unfold headsP at e
   obtain⟨s2,e1,e2⟩:=bind_ok e
   rw[List.cons_append,headsP,e1]
   exact heads_app nd l k r s2 s1 e2
theorem decl_keeps {nm:ByteArray}{pl kd:Int}{s s':Rz.RS}(e:declP nm pl kd s = .ok s'):s'.blocks.length=s.blocks.length∧s'.labels=s.labels∧s'.loops=s.loops∧s'.fn=s.fn:=by
 unfold declP at e
 split at e
 ·cases e
 ·split at e
  ·cases e
  ·obtain rfl:=Except.ok.inj e
   refine⟨?_,rfl,rfl,rfl⟩
   unfold putVarP bumpP
   simp only
   cases s.blocks <;> rfl
theorem hd1_keeps {x:Nd}{s s':Rz.RS}(e:hd1 x s = .ok s'):s'.blocks.length=s.blocks.length∧s'.labels=s.labels∧s'.loops=s.loops∧s'.fn=s.fn∧cr s'≤cr s+2:=by
 unfold hd1 at e
 have hd:∀kd,declP x.name x.pl kd s = .ok s'→s'.blocks.length=s.blocks.length∧s'.labels=s.labels∧s'.loops=s.loops∧s'.fn=s.fn∧cr s'≤cr s+2:=fun kd q=>⟨(decl_keeps q).1,(decl_keeps q).2.1,(decl_keeps q).2.2.1,(decl_keeps q).2.2.2,cr_decl _ _ _ s s' q⟩
 split at e
 ·exact hd _ e
 ·split at e
  ·exact hd _ e
  ·split at e
   ·exact hd _ e
   ·obtain rfl:=Except.ok.inj e
    exact⟨rfl,rfl,rfl,rfl,by omega⟩
structure HdAt (W0:World)(n:Nat)(w:World)(rb:Nat)(O:Nat→Prop)(s:Rz.RS)(v6:Value)(xs:List (Tr n))(i:Nat)(wr:World):Prop where
 le:i≤xs.length
 went:∃s1,headsP (ndR n) (xs.take i) s = .ok s1∧(∃O1,On W0 rb O1 s1 v6 wr∧Chg O w wr∧(∀b,O1 b→O b∨w.heap.size≤b))∧cr s1≤cr s+2*i∧s1.blocks.length=s.blocks.length∧s1.labels=s.labels∧s1.loops=s.loops∧s1.fn=s.fn
theorem HdAt.start {W0:World}{n:Nat}{w:World}{rb:Nat}{O:Nat→Prop}{s:Rz.RS}{v6:Value}{xs:List (Tr n)}(h:On W0 rb O s v6 w):HdAt W0 n w rb O s v6 xs 0 w :=
 ⟨Nat.zero_le _,s,rfl,⟨O,h,Chg.refl _ _,fun b q=>Or.inl q⟩,by omega,rfl,rfl,rfl,rfl⟩
theorem HdAt.bel {W0:World}{n:Nat}{w:World}{rb:Nat}{O:Nat→Prop}{s:Rz.RS}{v6:Value}{xs:List (Tr n)}{i:Nat}{wr:World}(h:HdAt W0 n w rb O s v6 xs i wr):Below W0.heap.size W0 wr:=by
 obtain⟨hle,s1,e1,⟨O1,o1,o2,o3⟩,_⟩:=h
 exact o1.bel
theorem HdAt.skip {W0:World}{n:Nat}{w:World}{rb:Nat}{O:Nat→Prop}{s:Rz.RS}{v6:Value}{xs:List (Tr n)}{i:Nat}{wr wb:World}(h:HdAt W0 n w rb O s v6 xs i wr){t:Tr n}(ht:xs[i]?=some t)(hk:∀s1,hd1 (ndR n t) s1 = .ok s1)(hb:Below wr.heap.size wr wb):HdAt W0 n w rb O s v6 xs (i+1) wb:=by
 have hil:i<xs.length:=(List.getElem?_eq_some_iff.1 ht).1
 obtain⟨hle,s1,e1,⟨O1,o1,o2,o3⟩,b1,b2,b3,b4,b5⟩:=h
 refine⟨hil,s1,?_,⟨O1,o1.below hb,o2.trans (Chg.of_below hb) (fun _ _ (q:O _)=>q),o3⟩,by omega,b2,b3,b4,b5⟩
 have htk:xs.take (i+1)=xs.take i++t :: []:=by rw[List.take_add_one,ht];rfl
 rw[htk,heads_app (ndR n) (xs.take i) t [] s s1 e1,hk]
 rfl
theorem HdAt.step {W0:World}{n:Nat}{w:World}{rb:Nat}{O:Nat→Prop}{s:Rz.RS}{v6:Value}{xs:List (Tr n)}{i:Nat}{wr wb:World}(h:HdAt W0 n w rb O s v6 xs i wr){t:Tr n}(ht:xs[i]?=some t)(kd:Int)(hk:∀s1,hd1 (ndR n t) s1=declP (ndR n t).name (ndR n t).pl kd s1)(hb:Below wr.heap.size wr wb)(hbud:cr s+2*xs.length+1≤lim)(hd:dp s+1≤lim)(hne:1≤s.blocks.length)(hs:(ndR n t).name.size≤maxLen)(kind num:Int)(op:ByteArray)(kv:Value) :
  Calls Tryz.prog 49 #[.pointer (some ⟨rb,0,none⟩),.agg #[.int .i64 kind,.int .i64 (ndR n t).pl,.string (ndR n t).name,.int .u64 num,.string op,kv],.int .i64 kd] wb fun e w'=>(e = .returned (.tuple #[])∧HdAt W0 n w rb O s v6 xs (i+1) w')∨∃er,e = .panicked (thrown er)∧headsP (ndR n) xs s = .error er∧Chg O w w':=by
 have hil:i<xs.length:=(List.getElem?_eq_some_iff.1 ht).1
 obtain⟨hle,s1,e1,⟨O1,o1,o2,o3⟩,b1,b2,b3,b4,b5⟩:=h
 obtain⟨c0,cs,hbs⟩:∃c0 cs,s1.blocks=c0 :: cs:=by
  cases hq:s1.blocks with
  | nil=>rw[hq] at b2;simp at b2;omega
  | cons a b=>exact⟨a,b,rfl⟩
 have hbg:bg s1<1000000000:=by
  have hdp:dp s1=dp s:=by unfold dp;rw[b2,b3,b4]
  have:=bg_of (s:=s1) (by omega) (by omega)
  unfold cr dp bg lim at *
  omega
 have hc2:Chg O w wb:=o2.trans (Chg.of_below hb) (fun _ _ (q:O _)=>q)
 have hsub:∀a,a<w.heap.size→O1 a→O a:=fun a ha q=>by
  rcases o3 a q with c | c
  ·exact c
  ·omega
 refine(declare_any wb W0.heap.size rb O1 s1 v6 (o1.below hb).mem hbg c0 cs hbs kind (ndR n t).pl num (ndR n t).name op kv hs kd).mono ?_
 intro e w' ho
 have hdr:xs.drop i=t :: xs.drop (i+1):=by
  rw[List.drop_eq_getElem_cons hil]
  congr 1
  exact(List.getElem?_eq_some_iff.1 ht).2
 have hsp:xs=xs.take i++t :: xs.drop (i+1):=by rw[←hdr,List.take_append_drop]
 have hea:=heads_app (ndR n) (xs.take i) t (xs.drop (i+1)) s s1 e1
 rw[←hsp,hk] at hea
 cases hr:declP (ndR n t).name (ndR n t).pl kd s1 with
 | error er =>
   rw[hr] at ho hea
   obtain⟨rfl,g2⟩:=ho
   exact Or.inr ⟨er,rfl,hea,hc2.trans g2 hsub⟩
 | ok s2 =>
   rw[hr] at ho
   obtain⟨rfl,g2⟩:=ho
   obtain⟨O2,k1,k2,k3⟩:=(o1.below hb).went g2
   obtain⟨p1,p2,p3,p4⟩:=decl_keeps hr
   have hcr:=cr_decl _ _ _ s1 s2 hr
   refine Or.inl ⟨rfl,hil,s2,?_,⟨O2,k1,hc2.trans k2 hsub,fun b q => ?_⟩,by omega,by rw[p1,b2],by rw[p2,b3],by rw[p3,b4],by rw[p4,b5]⟩
   ·have htk:xs.take (i+1)=xs.take i++t :: []:=by rw[List.take_add_one,ht];rfl
    rw[htk,heads_app (ndR n) (xs.take i) t [] s s1 e1,hk,hr]
    rfl
   ·rcases k3 b q with c | c
    ·exact o3 b c
    ·exact Or.inr (Nat.le_trans hc2.size c)
theorem HdAt.last {W0:World}{n:Nat}(hN:NC W0 n){w:World}{rb:Nat}{O:Nat→Prop}{s:Rz.RS}{v6:Value}{sl:Sli (Tr n)}{i:Nat}{wr:World}(h:HdAt W0 n w rb O s v6 sl.xs i wr)(hi:sl.xs.length≤i)(hok:sl.ok (encT n) 6 W0)(hks:∀y∈sl.xs,okF n W0 y)(hb:cr s+2+8*(sl.xs.map (szT n)).sum≤lim)(hd:dp s+4*n≤lim) :
  Calls Tryz.prog 50 #[.pointer (some ⟨rb,0,none⟩),.slice sl.at' sl.xs.length sl.cap] wr (Out w W0.heap.size rb O v6 (.tuple #[]) (itemsP (ndR n) (resP bi n).1 sl.xs s)):=by
 have hle:=h.le
 obtain⟨_,s1,e1,⟨O1,o1,o2,o3⟩,b1,b2,b3,b4,b5⟩:=h
 have hil:i=sl.xs.length:=by omega
 subst hil
 rw[List.take_length] at e1
 have hdp:dp s1=dp s:=by unfold dp;rw[b2,b3,b4]
 refine(each_any W0 n hN wr rb O1 s1 v6 o1 sl hok hks (by omega) (by omega)).mono ?_
 intro e w' ho
 have hit:itemsP (ndR n) (resP bi n).1 sl.xs s=eachP (resP bi n).1 sl.xs s1:=by unfold itemsP;rw[e1];rfl
 rw[hit]
 have hsub:∀a,a<w.heap.size→O1 a→O a:=fun a ha q=>by
  rcases o3 a q with c | c
  ·exact c
  ·omega
 cases hr:eachP (resP bi n).1 sl.xs s1 with
 | error er =>
   rw[hr] at ho
   exact⟨ho.1,o2.trans ho.2 hsub⟩
 | ok s2 =>
   rw[hr] at ho
   obtain⟨p1,O2,p2,p3,p4⟩:=ho
   exact⟨p1,O2,p2,o2.trans p3 hsub,fun b q=>by
    rcases p4 b q with c | c
    ·exact o3 b c
    ·exact Or.inr (Nat.le_trans o2.size c)⟩
theorem items_any (W0:World)(n:Nat)(hN:NC W0 n)(w:World)(rb:Nat)(O:Nat→Prop)(s:Rz.RS)(v6:Value)(h:On W0 rb O s v6 w)(sl:Sli (Tr n))(hok:sl.ok (encT n) 6 W0)(hks:∀y∈sl.xs,okF n W0 y)(hb:cr s+2+8*(sl.xs.map (szT n)).sum≤lim)(hd:dp s+1+4*n≤lim)(hne:1≤s.blocks.length) :
  Calls Tryz.prog 27 #[.pointer (some ⟨rb,0,none⟩),.slice sl.at' sl.xs.length sl.cap] w (Out w W0.heap.size rb O v6 (.tuple #[]) (itemsP (ndR n) (resP bi n).1 sl.xs s)):=by
 have hsl:=sum_len (szT n) (sz_pos n) sl.xs
 have HS:Hid (HdAt W0 n w rb O s v6 sl.xs 0 w):=HdAt.start h
 have HST:Hid (∀(i:Nat) (t:Tr n),sl.xs[i]?=some t→∀wr wb,HdAt W0 n w rb O s v6 sl.xs i wr→Below wr.heap.size wr wb→∀kd:Int,(∀s1,hd1 (ndR n t) s1=declP (ndR n t).name (ndR n t).pl kd s1)→Calls Tryz.prog 49 #[.pointer (some ⟨rb,0,none⟩),.agg #[.int .i64 (ndT n t).kind,.int .i64 (ndT n t).pl,.string (ndT n t).name,.int .u64 (ndT n t).num,.string (ndT n t).op,.slice (atT n t) (nkT n t) (capT n t)],.int .i64 kd] wb fun e w'=>(e = .returned (.tuple #[])∧HdAt W0 n w rb O s v6 sl.xs (i+1) w')∨∃er,e = .panicked (thrown er)∧itemsP (ndR n) (resP bi n).1 sl.xs s = .error er∧Chg O w w'):=fun i t ht wr wb he hb' kd hk=>by
  have hs:(ndR n t).name.size≤maxLen:=by rw[nd_same];exact okT_name (hks t (List.mem_of_getElem? ht)).1
  have:=he.step ht kd hk hb' (by omega) (by omega) hne hs (ndT n t).kind (ndT n t).num (ndT n t).op (.slice (atT n t) (nkT n t) (capT n t))
  rw[nd_same] at this
  refine this.mono ?_
  rintro e w' (q | ⟨er,q1,q2,q3⟩)
  ·exact Or.inl q
  ·exact Or.inr ⟨er,q1,by unfold itemsP;rw[q2];rfl,q3⟩
 have HSK:Hid (∀(i:Nat) (t:Tr n),sl.xs[i]?=some t→∀wr wb,HdAt W0 n w rb O s v6 sl.xs i wr→Below wr.heap.size wr wb→(∀s1,hd1 (ndR n t) s1 = .ok s1)→HdAt W0 n w rb O s v6 sl.xs (i+1) wb):=fun i t ht wr wb he hb' hk=>he.skip ht hk hb'
 have HLA:Hid (∀(i:Nat) (wr:World),HdAt W0 n w rb O s v6 sl.xs i wr→sl.xs.length≤i→Calls Tryz.prog 50 #[.pointer (some ⟨rb,0,none⟩),.slice sl.at' sl.xs.length sl.cap] wr (Out w W0.heap.size rb O v6 (.tuple #[]) (itemsP (ndR n) (resP bi n).1 sl.xs s))):=fun i wr he hi=>he.last hN hi hok hks hb (by omega)
 have HK:Hid (∀W,Below W0.heap.size W0 W→Sli.ok (encT n) 6 W sl):=fun W hW=>hok.kept (Sc.cells_below hW)
 have HND:Hid (∀t:Tr n,ndR n t=ndT n t):=fun t=>nd_same n t
 have hlim:(sl.xs.length:Int)≤9223372036854775806:=by unfold lim at hb;omega
 obtain⟨ka,kc,kx⟩:=sl
 simp only at *
 obtain⟨R,hR⟩:∃R,R=itemsP (ndR n) (resP bi n).1 kx s:=⟨_,rfl⟩
 rw[←hR] at HST HLA ⊢
 clear h hok hks hb hd hN hsl hR
 go_enter Tryz.func27,Tryz.ntmps27
 go_wp2_with fail
 go_loopw [8] (fun i wr=>∃k:Nat,Hid (HdAt W0 n w rb O s v6 kx k wr)∧i = .int .i64 (k:Int)) (fun i wr=>kx.length - (intOf i).toNat)
 case atStart=>exact⟨0,HS,rfl⟩
 case round =>
  clear HS
  obtain⟨i,HE,rfl⟩:=hrel
  rcases Nat.lt_or_ge i kx.length with c | c
  ·obtain⟨y,b,off,k1,k2,x0,x1,x2,x3,x4,x5⟩:=kid_at (HK.out wr HE.out.bel) (k:=i) c
   simp only at k1 k2
   subst k1
   have hil:(i:Int)<kx.length:=by omega
   have hw2:IntKind.i64.wrap ((i:Int)+1)=((i+1:Nat):Int):=by rw[IntKind.wrap_i64];omega
   obtain⟨wb,hwb⟩:∃wb,wb=wr.alloc (.cells #[.int .i64 (ndT n y).kind,.int .i64 (ndT n y).pl,.string (ndT n y).name,.int .u64 (ndT n y).num,.string (ndT n y).op,.slice (atT n y) (nkT n y) (capT n y)] 25):=⟨_,rfl⟩
   have hbl:Below wr.heap.size wr wb:=by rw[hwb];exact below_new (Below.refl _ _) (Nat.le_refl _) _
   obtain⟨b0,b1,b2,b3,b4,b5⟩:=six_new hwb
   have HQ:Hid (i<kx.length):=c
   have HU:=(show Hid _ from HST.out i y k2 wr wb HE.out hbl)
   have HV:=(show Hid _ from HSK.out i y k2 wr wb HE.out hbl)
   rw[HND.out y] at HU HV
   have HH:Hid (∀s1,hd1 (ndT n y) s1=if (ndT n y).kind=31 then declP (ndT n y).name (ndT n y).pl 1 s1 else if (ndT n y).kind=32 then declP (ndT n y).name (ndT n y).pl 2 s1 else if (ndT n y).kind=33 then declP (ndT n y).name (ndT n y).pl 4 s1 else .ok s1):=fun s1=>rfl
   obtain⟨kd,hkd⟩:∃kd,kd=(ndT n y).kind:=⟨_,rfl⟩
   rw[←hkd] at HH HU b0 hwb x0
   clear hbl k2 HE HST HSK c
   generalize hd1 (ndT n y)=H1 at *
   generalize (ndT n y).pl=q1 at *
   generalize (ndT n y).name=q2 at *
   generalize (ndT n y).num=q3 at *
   generalize (ndT n y).op=q4 at *
   generalize atT n y=q5 at *
   generalize nkT n y=q6 at *
   generalize capT n y=q7 at *
   clear hkd
   go_upto_region 3 with fail
   rw[←hwb]
   clear hwb x0 x1 x2 x3 x4 x5
   by_cases k31:kd=31
   ·subst k31
    have hu:=HU.out 1 (fun s1=>by rw[HH.out];rfl)
    clear HU HV HH
    go_wp2_with fail
    refine hu.mono ?_
    rintro e w1 (⟨rfl,h1⟩ | ⟨er,rfl,h1,h2⟩)
    ·have HN1:Hid (HdAt W0 n w rb O s v6 kx (i+1) w1):=h1
     clear hu h1
     go_wp2_with fail
     refine⟨⟨i+1,HN1,by go_num⟩,?_⟩
     simp[intOf]
     have:=HQ.out
     omega
    ·refine⟨rfl,?_⟩
     rw[h1]
     exact⟨rfl,h2⟩
   by_cases k32:kd=32
   ·subst k32
    have hu:=HU.out 2 (fun s1=>by rw[HH.out];rfl)
    clear HU HV HH k31
    go_wp2_with fail
    refine hu.mono ?_
    rintro e w1 (⟨rfl,h1⟩ | ⟨er,rfl,h1,h2⟩)
    ·have HN1:Hid (HdAt W0 n w rb O s v6 kx (i+1) w1):=h1
     clear hu h1
     go_wp2_with fail
     refine⟨⟨i+1,HN1,by go_num⟩,?_⟩
     simp[intOf]
     have:=HQ.out
     omega
    ·refine⟨rfl,?_⟩
     rw[h1]
     exact⟨rfl,h2⟩
   by_cases k33:kd=33
   ·subst k33
    have hu:=HU.out 4 (fun s1=>by rw[HH.out];rfl)
    clear HU HV HH k31 k32
    go_wp2_with fail
    refine hu.mono ?_
    rintro e w1 (⟨rfl,h1⟩ | ⟨er,rfl,h1,h2⟩)
    ·have HN1:Hid (HdAt W0 n w rb O s v6 kx (i+1) w1):=h1
     clear hu h1
     go_wp2_with fail
     refine⟨⟨i+1,HN1,by go_num⟩,?_⟩
     simp[intOf]
     have:=HQ.out
     omega
    ·refine⟨rfl,?_⟩
     rw[h1]
     exact⟨rfl,h2⟩
   ·have HN1:Hid (HdAt W0 n w rb O s v6 kx (i+1) wb):=HV.out (fun s1=>by rw[HH.out,if_neg k31,if_neg k32,if_neg k33])
    have j1:(kd == (31:Int))=false:=by simpa using k31
    have j2:(kd == (32:Int))=false:=by simpa using k32
    have j3:(kd == (33:Int))=false:=by simpa using k33
    clear HU HV HH
    go_wp2_with fail
    refine⟨⟨i+1,HN1,by go_num⟩,?_⟩
    simp[intOf]
    have:=HQ.out
    omega
  ·have hil:¬(i:Int)<kx.length:=by omega
   have ke:=HLA.out i wr HE.out c
   clear HE HST HSK HK HLA
   go_wp2_with fail
   refine ke.mono ?_
   intro e w1 ho
   clear ke
   cases R with
   | error er =>
     obtain⟨rfl,g⟩:=ho
     exact⟨rfl,rfl,g⟩
   | ok s' =>
     obtain⟨rfl,g⟩:=ho
     have HG:Hid (Went w W0.heap.size rb O s' v6 w1):=g
     clear g
     go_wp2_with fail
     go_end0
     exact⟨rfl,HG.out⟩
end Go.Proofs.YtihmdcdifakepaaGreat.Rv
