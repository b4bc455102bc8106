/- ZT, ZU, ZV -/
import Derived.Test.YtihmdcdifakepaaGreatB28
set_option linter.unusedVariables false
set_option linter.unusedSimpArgs false
set_option maxRecDepth 100000
set_option maxHeartbeats 40000000
namespace Go.Proofs.YtihmdcdifakepaaGreat.Rv.Rx
open Go.RowKit Go.Proofs.YtihmdcdifakepaaGreat.Sc Go.Proofs.YtihmdcdifakepaaGreat.Rz
theorem told_shut2 {k:Nat}{f:RM}{s s2:Rz.RS}{c a c2 a2:Int}(h:Told k (f (openP s)) (openP s) c a s2 c2 a2):Told k ((f (openP s)).bind fun s => .ok (shutP s)) s c a (shutP s2) c2 a2:=by
 have hb:=h.lk.blen
 have hb1:(openP s).blocks.length=s.blocks.length+1:=by unfold openP;simp
 refine⟨⟨?_,h.lk.fn,h.lk.loops,h.lk.labels,h.lk.scs⟩,h.cr,fun hc => ?_,fun hc => ?_⟩
 ·show(s2.blocks.drop 1).length=_
  rw[List.length_drop,hb,hb1]
  rfl
 ·obtain⟨e1,e2,e3⟩:=h.bad hc
  exact⟨by rw[e1];rfl,e2,e3⟩
 ·have hg:=h.good hc
  cases hf:f (openP s) with
  | error er=>rw[hf] at hg;exact hg
  | ok s3 =>
    rw[hf] at hg
    obtain⟨e1,e2⟩:=hg
    subst e1
    exact⟨rfl,e2⟩
theorem stat_38 (W0:World)(n:Nat)(hE:ExC W0 n)(hS:StC W0 n)(hB:BlC W0 n):∀(t:Tr (n+1)),(show Nd×Sli (Tr n) from t).1.kind=38→okD (n+1) W0 t→∀(w:World)(wb:Nat)(O:Nat→Prop)(s:Rz.RS)(c a:Int)(v6:Value),OnD W0 wb O s c a v6 w→cr s+8*szT (n+1) t≤lim+2→dp s+4*(n+1)≤lim→1≤s.blocks.length→Calls Tryz.prog 20 #[.pointer (some ⟨wb,0,none⟩),valT (n+1) t] w (Tl w W0.heap.size wb O v6 (8*szT (n+1) t - 2) ((resR bi (n+1)).2.1 t s) s c a):=by
 intro t h35 hok w wb O s c a v6 h hb hd hm
 obtain⟨x,sl⟩:=t
 replace h35:x.kind=38:=h35
 obtain⟨⟨hxw,hso,hkt⟩,hft⟩:=hok
 have hks:∀y∈sl.xs,okD n W0 y:=fun y hy=>⟨hkt y hy,hft.2.2.2.2 y hy⟩
 have hsz:szT (n+1) ((x,sl):Nd×Sli (Tr n))=1+(sl.xs.map (szT n)).sum:=rfl
 rw[hsz] at hb ⊢
 rw[val_succ]
 obtain⟨kv,hkv⟩:∃kv,kv=Value.slice sl.at' sl.xs.length sl.cap:=⟨_,rfl⟩
 obtain⟨wn,hwn⟩:∃wn,wn=w.alloc (.cells #[.int .i64 x.kind,.int .i64 x.pl,.string x.name,.int .u64 x.num,.string x.op,kv] 25):=⟨_,rfl⟩
 have hbl:Below w.heap.size w wn:=by rw[hwn];exact below_new (Below.refl _ _) (Nat.le_refl _) _
 have hX:NdB w.heap.size x kv wn:=by rw[hwn];exact at_new _ _
 have hn:=h.below hbl
 have c7:=hn.mem.box.2.2.2.1
 obtain⟨P,hP⟩:∃P,P=Tl w W0.heap.size wb O v6 (8*(1+(sl.xs.map (szT n)).sum) - 2) ((resR bi (n+1)).2.1 ((x,sl):Nd×Sli (Tr n)) s) s c a:=⟨_,rfl⟩
 rw[←hP]
 by_cases hc:¬c=0
 ·have hc':(c == 0)=false:=by simpa using hc
  have HE:Hid (P (.returned (.tuple #[])) wn):=by rw[hP];exact⟨rfl,s,c,a,(Told.idle hc).mono (by omega),RWent.same h.mem hbl⟩
  rw[←hkv]
  clear h hb hd hn hX hP hxw hso hkt hft hks hE hS hB hsz hkv hbl h35
  go_enter Tryz.func20,Tryz.ntmps20
  go_upto_region 1 with fail
  rw[←hwn]
  clear hwn
  go_wp2_with fail
  go_end0
  exact HE.out
 have hc:=Decidable.not_not.1 hc
 subst hc
 have HFIN:Hid (∀(k:Nat) (r:Except Rz.Er Rz.RS),k≤8*(1+(sl.xs.map (szT n)).sum) - 2→(resR bi (n+1)).2.1 ((x,sl):Nd×Sli (Tr n)) s=r→∀e w',Tl wn W0.heap.size wb O v6 k r s 0 a e w'→P e w'):=fun k r hk hr e w' hT=>by
  rw[hP,hr]
  exact(hT.mono hk).behind hbl
 have b0:wn.cell? ⟨w.heap.size,0,none⟩=some (.int .i64 x.kind):=cell_of_row wn _ 0 _ _ (0,0) hX
 have b1:wn.cell? ⟨w.heap.size,1,none⟩=some (.int .i64 x.pl):=cell_of_row wn _ 1 _ _ (0,0) hX
 have b2:wn.cell? ⟨w.heap.size,2,none⟩=some (.string x.name):=cell_of_row wn _ 2 _ _ (0,0) hX
 have b3:wn.cell? ⟨w.heap.size,3,none⟩=some (.int .u64 x.num):=cell_of_row wn _ 3 _ _ (0,0) hX
 have b4:wn.cell? ⟨w.heap.size,4,none⟩=some (.string x.op):=cell_of_row wn _ 4 _ _ (0,0) hX
 have b5:wn.cell? ⟨w.heap.size,5,none⟩=some kv:=cell_of_row wn _ 5 _ _ (0,0) hX
 have hlm:cr s≤100000000:=by unfold lim at hb;omega
 have hlen:sl.xs.length=2:=hft.2.1 (by omega)
 obtain⟨t0,t1,hxs⟩:∃t0 t1,sl.xs=[t0,t1]:=by
  match e:sl.xs,hlen with
  | [p,q],_=>exact⟨p,q,rfl⟩
 obtain⟨kb,off,hat,_⟩:=hso.cells (by rw[hxs];simp)
 obtain⟨y0,v0,hy0,hv0,H0⟩:=kid_in hso hat (i:=0) (t:=t0) (by rw[hxs];rfl) (j:=off) (by omega)
 obtain⟨y1,v1,hy1,hv1,H1⟩:=kid_in hso hat (i:=1) (t:=t1) (by rw[hxs];rfl) (j:=off+6) (by omega)
 have hs3:(sl.xs.map (szT n)).sum=szT n t0+szT n t1:=by rw[hxs];simp
 have z0:=sz_pos n t0
 have z1:=sz_pos n t1
 have k0:=hks t0 (by rw[hxs];simp)
 have k1:=hks t1 (by rw[hxs];simp)
 rw[hs3] at hb HFIN
 have hr:(resR bi (n+1)).2.1 ((x,sl):Nd×Sli (Tr n)) s=((resR bi n).1 t0 s).bind fun s1=>(((fun s=>(declP x.name x.pl (if isS x.op [99,111,110,115,116] then 2 else 1) s).bind (loopP (resR bi n).2.1 [t1])) (openP s1)).bind fun s3 => .ok (shutP s3)):=by
  show(if x.kind=33 then _ else if x.kind=34 then _ else if x.kind=35 then _ else if x.kind=36∨x.kind=37 then _ else if x.kind=38 then (eachP (resR bi n).1 (sl.xs.take 1) s).bind (fun s1=>(declP x.name x.pl (if isS x.op [99,111,110,115,116] then 2 else 1) (openP s1)).bind fun s2=>(loopP (resR bi n).2.1 (sl.xs.drop 1) s2).bind fun s3 => .ok (shutP s3)) else _)=_
  rw[if_neg (by omega),if_neg (by omega),if_neg (by omega),if_neg (by omega),if_pos h35,hxs]
  show(eachP (resR bi n).1 [t0] s).bind _=_
  rw[each_one]
  cases (resR bi n).1 t0 s with
  | error e=>rfl
  | ok s1 =>
    show(declP _ _ _ (openP s1)).bind _=((declP _ _ _ (openP s1)).bind _).bind _
    cases declP x.name x.pl (if isS x.op [99,111,110,115,116] then 2 else 1) (openP s1) <;> rfl
 have HE0:=hE t0 k0 wn wb O s 0 a v6 hn (by omega) (by omega) (Nat.zero_le _)
 rw[hv0] at HE0
 obtain⟨r1,hr1⟩:∃r1,r1=(resR bi n).1 t0 s:=⟨_,rfl⟩
 rw[←hr1] at HE0 hr
 have HCL:∀w1 s1 c1 a1,RWent wn W0.heap.size wb O s1 c1 a1 v6 w1→w1.cell? ⟨w.heap.size,1,none⟩=some (.int .i64 x.pl)∧w1.cell? ⟨w.heap.size,2,none⟩=some (.string x.name)∧w1.cell? ⟨w.heap.size,4,none⟩=some (.string x.op)∧w1.cell? ⟨w.heap.size,5,none⟩=some kv:=fun w1 s1 c1 a1 hw1=>by
  have hX1:=nd_went h.mem (Nat.le_refl _) hbl hX hw1
  exact⟨cell_of_row w1 _ 1 _ 25 (0,0) hX1,cell_of_row w1 _ 2 _ 25 (0,0) hX1,cell_of_row w1 _ 4 _ 25 (0,0) hX1,cell_of_row w1 _ 5 _ 25 (0,0) hX1⟩
 have HBL:∀w1 s1 c1 a1,RWent wn W0.heap.size wb O s1 c1 a1 v6 w1→Below W0.heap.size W0 w1:=fun w1 s1 c1 a1 hw1=>by
  obtain⟨O1,o1,_,_⟩:=hn.went hw1
  exact o1.bel
 have HS1:Hid (∀e w1,Tl wn W0.heap.size wb O v6 (8*szT n t0 - 2) r1 s 0 a e w1→e = .returned (.tuple #[])∧∃s1 c1 a1,Told (8*szT n t0 - 2) r1 s 0 a s1 c1 a1∧Calls Tryz.prog 39 #[.pointer (some ⟨wb,0,none⟩)] w1 (fun e w'=>e = .returned (.tuple #[])∧RWent wn W0.heap.size wb O (openP s1) c1 a1 v6 w')):=fun e w1 hT=>by
  obtain⟨he,s1,c1,a1,ht1,hw1⟩:=hT
  refine⟨he,s1,c1,a1,ht1,relG hn hw1 fun O1 o1=>open_any w1 W0.heap.size wb O1 s1 c1 a1 v6 o1.mem ?_⟩
  have:=ht1.lk.dp
  unfold dp lim at *
  omega
 have HS2:Hid (∀kd,kd=(if isS x.op [99,111,110,115,116] then (2:Int) else 1)→∀s1 c1 a1 w2,Told (8*szT n t0 - 2) r1 s 0 a s1 c1 a1→RWent wn W0.heap.size wb O (openP s1) c1 a1 v6 w2→Calls Tryz.prog 19 #[.pointer (some ⟨wb,0,none⟩),.string x.name,.int .i64 x.pl,.int .i64 kd] w2 (fun e w'=>e = .returned (.tuple #[])∧∃s2 c2 a2,Told 2 (declP x.name x.pl (if isS x.op [99,111,110,115,116] then (2:Int) else 1) (openP s1)) (openP s1) c1 a1 s2 c2 a2∧RWent wn W0.heap.size wb O s2 c2 a2 v6 w')):=fun kd hkd s1 c1 a1 w2 ht hw=>by
  subst hkd
  have hc:=ht.cr
  exact relT hn hw fun O1 o1=>declare_any w2 W0.heap.size wb O1 (openP s1) c1 a1 v6 o1.mem (by rw[cr_open];unfold lim at hb;omega) (by unfold openP;simp) x.name hxw.name x.pl _
 have HS3:Hid (∀s1 c1 a1 s2 c2 a2 w3,Told (8*szT n t0 - 2) r1 s 0 a s1 c1 a1→Told 2 (declP x.name x.pl (if isS x.op [99,111,110,115,116] then (2:Int) else 1) (openP s1)) (openP s1) c1 a1 s2 c2 a2→RWent wn W0.heap.size wb O s2 c2 a2 v6 w3→Calls Tryz.prog 38 #[.pointer (some ⟨wb,0,none⟩),.agg #[.int .i64 y1.kind,.int .i64 y1.pl,.string y1.name,.int .u64 y1.num,.string y1.op,v1]] w3 (fun e w'=>e = .returned (.tuple #[])∧∃s3 c3 a3,Told (8*szT n t1 - 2) (loopP (resR bi n).2.1 [t1] s2) s2 c2 a2 s3 c3 a3∧RWent wn W0.heap.size wb O s3 c3 a3 v6 w')):=fun s1 c1 a1 s2 c2 a2 w3 ht ht2 hw=>by
  have hc:=ht.cr
  have hc2:=ht2.cr
  rw[cr_open] at hc2
  have hd1:=ht.lk.dp
  have hd2:=ht2.lk.dp
  have hb2:=ht2.lk.blen
  rw[←hv1]
  exact relT hn hw fun O1 o1=>loop_any W0 n hS t1 k1 w3 wb O1 s2 c2 a2 v6 o1 (by omega) (by unfold dp openP at *;simp only[List.length_cons] at *;omega) (by rw[hb2];unfold openP;simp)
 have HS4:Hid (∀s1 c1 a1 s2 c2 a2 s3 c3 a3 w4,Told (8*szT n t0 - 2) r1 s 0 a s1 c1 a1→Told 2 (declP x.name x.pl (if isS x.op [99,111,110,115,116] then (2:Int) else 1) (openP s1)) (openP s1) c1 a1 s2 c2 a2→Told (8*szT n t1 - 2) (loopP (resR bi n).2.1 [t1] s2) s2 c2 a2 s3 c3 a3→RWent wn W0.heap.size wb O s3 c3 a3 v6 w4→Calls Tryz.prog 40 #[.pointer (some ⟨wb,0,none⟩)] w4 (fun e w'=>e = .returned (.tuple #[])∧P e w')):=fun s1 c1 a1 s2 c2 a2 s3 c3 a3 w4 ht ht2 ht3 hw=>by
  have hb2:=ht2.lk.blen
  have hb3:=ht3.lk.blen
  refine(relG hn hw fun O1 o1=>shut_any w4 W0.heap.size wb O1 s3 c3 a3 v6 o1.mem (by rw[hb3,hb2];unfold openP;simp)).mono ?_
  rintro e w' ⟨he,hw5⟩
  have q1:=Told.bind (f:=fun s=>declP x.name x.pl (if isS x.op [99,111,110,115,116] then (2:Int) else 1) s) (g:=loopP (resR bi n).2.1 [t1]) ht2 ht3
  have q2:=told_shut2 (f:=fun s=>(declP x.name x.pl (if isS x.op [99,111,110,115,116] then (2:Int) else 1) s).bind (loopP (resR bi n).2.1 [t1])) q1
  have q3:=Told.bind (f:=fun _=>r1) (g:=fun s1=>(((fun s=>(declP x.name x.pl (if isS x.op [99,111,110,115,116] then 2 else 1) s).bind (loopP (resR bi n).2.1 [t1])) (openP s1)).bind fun s3 => .ok (shutP s3))) ht q2
  exact⟨he,HFIN.out _ _ (by omega) hr e w' ⟨he,_,c3,a3,q3,hw5⟩⟩
 have HC0:=H0 wn hn.bel
 have HK1:Hid _:=H1
 have HCL2:Hid _:=HCL
 have HBL2:Hid _:=HBL
 have hkv2:kv = .slice (some ⟨kb,off,none⟩) 2 sl.cap:=by rw[hkv,hat,hxs];rfl
 have e1:Value.slice sl.at' sl.xs.length sl.cap=kv:=hkv.symm
 rw[e1]
 generalize sl.cap=kc at *
 clear h hb hd hm hn hX hP hxw hso hkt hft hks hE hS hB hsz hkv hbl HFIN hr hr1 hlm e1 hlen hat hxs hs3 z0 z1 k0 k1 hv0 hv1 H0 H1 hy0 hy1 HCL HBL
 subst hkv2
 obtain⟨x0,x1,x2,x3,x4,x5⟩:=HC0
 rw[h35] at b0 hwn ⊢
 clear h35
 go_enter Tryz.func20,Tryz.ntmps20
 go_upto_region 1 with fail
 rw[←hwn]
 clear hwn
 go_wp2_with fail
 refine HE0.mono ?_
 intro e w1 hT
 obtain⟨rfl,s1,c1,a1,ht',kop⟩:=HS1.out e w1 hT
 have ht:Hid _:=ht'
 clear HE0 hT HS1 ht' x0 x1 x2 x3 x4 x5 b0 b1 b2 b3 b4 b5
 go_wp2_with fail
 refine kop.mono ?_
 rintro e w2 ⟨rfl,hw'⟩
 obtain⟨d1,d2,d4,d5⟩:=HCL2.out w2 _ c1 a1 hw'
 have hw:Hid _:=hw'
 clear kop hw'
 by_cases hcs:isS x.op [99,111,110,115,116]=true
 ·have hop:isS x.op [99,111,110,115,116]=true:=hcs
  have hq:(x.op.toList == [99,111,110,115,116])=true:=hcs
  have kdl:=HS2.out 2 (by rw[hop];rfl) s1 c1 a1 w2 ht.out hw.out
  go_wp2_with fail
  refine kdl.mono ?_
  rintro e w3 ⟨rfl,s2,c2,a2,ht2',hw2'⟩
  obtain⟨_,_,_,b5c⟩:=HCL2.out w3 s2 c2 a2 hw2'
  obtain⟨p0,p1,p2,p3,p4,p5⟩:=HK1.out w3 (HBL2.out w3 s2 c2 a2 hw2')
  have klp:=HS3.out s1 c1 a1 s2 c2 a2 w3 ht.out ht2' hw2'
  have ht2:Hid _:=ht2'
  clear kdl HS2 hw hw2' ht2' d1 d2 d4 d5 HCL2 HBL2 HK1 HS3
  go_wp2_with fail
  refine klp.mono ?_
  rintro e w4 ⟨rfl,s3,c3,a3,ht3,hw3⟩
  have ksh:=HS4.out s1 c1 a1 s2 c2 a2 s3 c3 a3 w4 ht.out ht2.out ht3 hw3
  clear klp HS4 ht ht2 ht3 hw3 p0 p1 p2 p3 p4 p5 b5c
  go_wp2_with fail
  refine ksh.mono ?_
  rintro e w5 ⟨rfl,hp⟩
  have HE:Hid (P (.returned (.tuple #[])) w5):=hp
  clear ksh hp
  go_wp2_with fail
  go_end0
  exact HE.out
 ·have hop:isS x.op [99,111,110,115,116]=false:=by simpa using hcs
  have hq:(x.op.toList == [99,111,110,115,116])=false:=hop
  have kdl:=HS2.out 1 (by rw[hop];rfl) s1 c1 a1 w2 ht.out hw.out
  go_wp2_with fail
  refine kdl.mono ?_
  rintro e w3 ⟨rfl,s2,c2,a2,ht2',hw2'⟩
  obtain⟨_,_,_,b5c⟩:=HCL2.out w3 s2 c2 a2 hw2'
  obtain⟨p0,p1,p2,p3,p4,p5⟩:=HK1.out w3 (HBL2.out w3 s2 c2 a2 hw2')
  have klp:=HS3.out s1 c1 a1 s2 c2 a2 w3 ht.out ht2' hw2'
  have ht2:Hid _:=ht2'
  clear kdl HS2 hw hw2' ht2' d1 d2 d4 d5 HCL2 HBL2 HK1 HS3
  go_wp2_with fail
  refine klp.mono ?_
  rintro e w4 ⟨rfl,s3,c3,a3,ht3,hw3⟩
  have ksh:=HS4.out s1 c1 a1 s2 c2 a2 s3 c3 a3 w4 ht.out ht2.out ht3 hw3
  clear klp HS4 ht ht2 ht3 hw3 p0 p1 p2 p3 p4 p5 b5c
  go_wp2_with fail
  refine ksh.mono ?_
  rintro e w5 ⟨rfl,hp⟩
  have HE:Hid (P (.returned (.tuple #[])) w5):=hp
  clear ksh hp
  go_wp2_with fail
  go_end0
  exact HE.out
theorem stat_rest (W0:World)(n:Nat)(hE:ExC W0 n)(hS:StC W0 n)(hB:BlC W0 n):∀(t:Tr (n+1)),(show Nd×Sli (Tr n) from t).1.kind∉[33,34,35,36,37,38,39,40,41,42,46,31,32,43,44]→okD (n+1) W0 t→∀(w:World)(wb:Nat)(O:Nat→Prop)(s:Rz.RS)(c a:Int)(v6:Value),OnD W0 wb O s c a v6 w→cr s+8*szT (n+1) t≤lim+2→dp s+4*(n+1)≤lim→1≤s.blocks.length→Calls Tryz.prog 20 #[.pointer (some ⟨wb,0,none⟩),valT (n+1) t] w (Tl w W0.heap.size wb O v6 (8*szT (n+1) t - 2) ((resR bi (n+1)).2.1 t s) s c a):=by
 intro t h35 hok w wb O s c a v6 h hb hd hm
 obtain⟨x,sl⟩:=t
 replace h35:x.kind∉([33,34,35,36,37,38,39,40,41,42,46,31,32,43,44]:List Int):=h35
 obtain⟨⟨hxw,hso,hkt⟩,hft⟩:=hok
 have hks:∀y∈sl.xs,okD n W0 y:=fun y hy=>⟨hkt y hy,hft.2.2.2.2 y hy⟩
 have hsz:szT (n+1) ((x,sl):Nd×Sli (Tr n))=1+(sl.xs.map (szT n)).sum:=rfl
 rw[hsz] at hb ⊢
 rw[val_succ]
 obtain⟨kv,hkv⟩:∃kv,kv=Value.slice sl.at' sl.xs.length sl.cap:=⟨_,rfl⟩
 obtain⟨wn,hwn⟩:∃wn,wn=w.alloc (.cells #[.int .i64 x.kind,.int .i64 x.pl,.string x.name,.int .u64 x.num,.string x.op,kv] 25):=⟨_,rfl⟩
 have hbl:Below w.heap.size w wn:=by rw[hwn];exact below_new (Below.refl _ _) (Nat.le_refl _) _
 have hX:NdB w.heap.size x kv wn:=by rw[hwn];exact at_new _ _
 have hn:=h.below hbl
 have c7:=hn.mem.box.2.2.2.1
 obtain⟨P,hP⟩:∃P,P=Tl w W0.heap.size wb O v6 (8*(1+(sl.xs.map (szT n)).sum) - 2) ((resR bi (n+1)).2.1 ((x,sl):Nd×Sli (Tr n)) s) s c a:=⟨_,rfl⟩
 rw[←hP]
 by_cases hc:¬c=0
 ·have hc':(c == 0)=false:=by simpa using hc
  have HE:Hid (P (.returned (.tuple #[])) wn):=by rw[hP];exact⟨rfl,s,c,a,(Told.idle hc).mono (by omega),RWent.same h.mem hbl⟩
  rw[←hkv]
  clear h hb hd hn hX hP hxw hso hkt hft hks hE hS hB hsz hkv hbl h35
  go_enter Tryz.func20,Tryz.ntmps20
  go_upto_region 1 with fail
  rw[←hwn]
  clear hwn
  go_wp2_with fail
  go_end0
  exact HE.out
 have hc:=Decidable.not_not.1 hc
 subst hc
 have HFIN:Hid (∀(k:Nat) (r:Except Rz.Er Rz.RS),k≤8*(1+(sl.xs.map (szT n)).sum) - 2→(resR bi (n+1)).2.1 ((x,sl):Nd×Sli (Tr n)) s=r→∀e w',Tl wn W0.heap.size wb O v6 k r s 0 a e w'→P e w'):=fun k r hk hr e w' hT=>by
  rw[hP,hr]
  exact(hT.mono hk).behind hbl
 have b0:wn.cell? ⟨w.heap.size,0,none⟩=some (.int .i64 x.kind):=cell_of_row wn _ 0 _ _ (0,0) hX
 have b1:wn.cell? ⟨w.heap.size,1,none⟩=some (.int .i64 x.pl):=cell_of_row wn _ 1 _ _ (0,0) hX
 have b2:wn.cell? ⟨w.heap.size,2,none⟩=some (.string x.name):=cell_of_row wn _ 2 _ _ (0,0) hX
 have b3:wn.cell? ⟨w.heap.size,3,none⟩=some (.int .u64 x.num):=cell_of_row wn _ 3 _ _ (0,0) hX
 have b4:wn.cell? ⟨w.heap.size,4,none⟩=some (.string x.op):=cell_of_row wn _ 4 _ _ (0,0) hX
 have b5:wn.cell? ⟨w.heap.size,5,none⟩=some kv:=cell_of_row wn _ 5 _ _ (0,0) hX
 have hlm:cr s≤100000000:=by unfold lim at hb;omega
 simp only[List.mem_cons,List.not_mem_nil,not_or,or_false] at h35
 obtain⟨n33,n34,n35,n36,n37,n38,n39,n40,n41,n42,n46,n31,n32,n43,n44⟩:=h35
 have hr:(resR bi (n+1)).2.1 ((x,sl):Nd×Sli (Tr n)) s = .ok s:=by
  show(if x.kind=33 then _ else if x.kind=34 then _ else if x.kind=35 then _ else if x.kind=36∨x.kind=37 then _ else if x.kind=38 then _ else if x.kind=39∨x.kind=40 then _ else if x.kind=41 then _ else if x.kind=42∨x.kind=46∨x.kind=31∨x.kind=32 then _ else if x.kind=43 then _ else if x.kind=44 then _ else _)=_
  rw[if_neg (by omega),if_neg (by omega),if_neg (by omega),if_neg (by omega),if_neg (by omega),if_neg (by omega),if_neg (by omega),if_neg (by omega),if_neg (by omega),if_neg (by omega)]
 have HE:Hid (P (.returned (.tuple #[])) wn):=HFIN.out 0 _ (by omega) hr _ wn ⟨rfl,s,0,a,Told.ok s 0 a,RWent.same hn.mem (Below.refl _ _)⟩
 have j33:(x.kind == (33:Int))=false:=by simpa using n33
 have j34:(x.kind == (34:Int))=false:=by simpa using n34
 have j35:(x.kind == (35:Int))=false:=by simpa using n35
 have j36:(x.kind == (36:Int))=false:=by simpa using n36
 have j37:(x.kind == (37:Int))=false:=by simpa using n37
 have j38:(x.kind == (38:Int))=false:=by simpa using n38
 have j39:(x.kind == (39:Int))=false:=by simpa using n39
 have j40:(x.kind == (40:Int))=false:=by simpa using n40
 have j41:(x.kind == (41:Int))=false:=by simpa using n41
 have j42:(x.kind == (42:Int))=false:=by simpa using n42
 have j46:(x.kind == (46:Int))=false:=by simpa using n46
 have j31:(x.kind == (31:Int))=false:=by simpa using n31
 have j32:(x.kind == (32:Int))=false:=by simpa using n32
 have j43:(x.kind == (43:Int))=false:=by simpa using n43
 have j44:(x.kind == (44:Int))=false:=by simpa using n44
 rw[←hkv]
 clear h hb hd hm hn hX hP hxw hso hkt hft hks hE hS hB hsz hkv hbl HFIN hr hlm n33 n34 n35 n36 n37 n38 n39 n40 n41 n42 n46 n31 n32 n43 n44
 go_enter Tryz.func20,Tryz.ntmps20
 go_upto_region 1 with fail
 rw[←hwn]
 clear hwn
 go_wp2_with fail
 go_end0
 exact HE.out
theorem stat_43 (W0:World)(n:Nat)(hE:ExC W0 n)(hS:StC W0 n)(hB:BlC W0 n):∀(t:Tr (n+1)),(show Nd×Sli (Tr n) from t).1.kind=43→okD (n+1) W0 t→∀(w:World)(wb:Nat)(O:Nat→Prop)(s:Rz.RS)(c a:Int)(v6:Value),OnD W0 wb O s c a v6 w→cr s+8*szT (n+1) t≤lim+2→dp s+4*(n+1)≤lim→1≤s.blocks.length→Calls Tryz.prog 20 #[.pointer (some ⟨wb,0,none⟩),valT (n+1) t] w (Tl w W0.heap.size wb O v6 (8*szT (n+1) t - 2) ((resR bi (n+1)).2.1 t s) s c a):=by
 intro t h35 hok w wb O s c a v6 h hb hd hm
 obtain⟨x,sl⟩:=t
 replace h35:x.kind=43:=h35
 obtain⟨⟨hxw,hso,hkt⟩,hft⟩:=hok
 have hks:∀y∈sl.xs,okD n W0 y:=fun y hy=>⟨hkt y hy,hft.2.2.2.2 y hy⟩
 have hsz:szT (n+1) ((x,sl):Nd×Sli (Tr n))=1+(sl.xs.map (szT n)).sum:=rfl
 rw[hsz] at hb ⊢
 rw[val_succ]
 obtain⟨kv,hkv⟩:∃kv,kv=Value.slice sl.at' sl.xs.length sl.cap:=⟨_,rfl⟩
 obtain⟨wn,hwn⟩:∃wn,wn=w.alloc (.cells #[.int .i64 x.kind,.int .i64 x.pl,.string x.name,.int .u64 x.num,.string x.op,kv] 25):=⟨_,rfl⟩
 have hbl:Below w.heap.size w wn:=by rw[hwn];exact below_new (Below.refl _ _) (Nat.le_refl _) _
 have hX:NdB w.heap.size x kv wn:=by rw[hwn];exact at_new _ _
 have hn:=h.below hbl
 have c7:=hn.mem.box.2.2.2.1
 obtain⟨P,hP⟩:∃P,P=Tl w W0.heap.size wb O v6 (8*(1+(sl.xs.map (szT n)).sum) - 2) ((resR bi (n+1)).2.1 ((x,sl):Nd×Sli (Tr n)) s) s c a:=⟨_,rfl⟩
 rw[←hP]
 by_cases hc:¬c=0
 ·have hc':(c == 0)=false:=by simpa using hc
  have HE:Hid (P (.returned (.tuple #[])) wn):=by rw[hP];exact⟨rfl,s,c,a,(Told.idle hc).mono (by omega),RWent.same h.mem hbl⟩
  rw[←hkv]
  clear h hb hd hn hX hP hxw hso hkt hft hks hE hS hB hsz hkv hbl h35
  go_enter Tryz.func20,Tryz.ntmps20
  go_upto_region 1 with fail
  rw[←hwn]
  clear hwn
  go_wp2_with fail
  go_end0
  exact HE.out
 have hc:=Decidable.not_not.1 hc
 subst hc
 have HFIN:Hid (∀(k:Nat) (r:Except Rz.Er Rz.RS),k≤8*(1+(sl.xs.map (szT n)).sum) - 2→(resR bi (n+1)).2.1 ((x,sl):Nd×Sli (Tr n)) s=r→∀e w',Tl wn W0.heap.size wb O v6 k r s 0 a e w'→P e w'):=fun k r hk hr e w' hT=>by
  rw[hP,hr]
  exact(hT.mono hk).behind hbl
 have b0:wn.cell? ⟨w.heap.size,0,none⟩=some (.int .i64 x.kind):=cell_of_row wn _ 0 _ _ (0,0) hX
 have b1:wn.cell? ⟨w.heap.size,1,none⟩=some (.int .i64 x.pl):=cell_of_row wn _ 1 _ _ (0,0) hX
 have b2:wn.cell? ⟨w.heap.size,2,none⟩=some (.string x.name):=cell_of_row wn _ 2 _ _ (0,0) hX
 have b3:wn.cell? ⟨w.heap.size,3,none⟩=some (.int .u64 x.num):=cell_of_row wn _ 3 _ _ (0,0) hX
 have b4:wn.cell? ⟨w.heap.size,4,none⟩=some (.string x.op):=cell_of_row wn _ 4 _ _ (0,0) hX
 have b5:wn.cell? ⟨w.heap.size,5,none⟩=some kv:=cell_of_row wn _ 5 _ _ (0,0) hX
 have hlm:cr s≤100000000:=by unfold lim at hb;omega
 have hlen:sl.xs.length=3:=hft.2.2.1 (by omega)
 obtain⟨t0,t1,t2,hxs⟩:∃t0 t1 t2,sl.xs=[t0,t1,t2]:=by
  match e:sl.xs,hlen with
  | [p,q,r],_=>exact⟨p,q,r,rfl⟩
 obtain⟨kb,off,hat,_⟩:=hso.cells (by rw[hxs];simp)
 obtain⟨y0,v0,hy0,hv0,H0⟩:=kid_in hso hat (i:=0) (t:=t0) (by rw[hxs];rfl) (j:=off) (by omega)
 obtain⟨y1,v1,hy1,hv1,H1⟩:=kid_in hso hat (i:=1) (t:=t1) (by rw[hxs];rfl) (j:=off+6) (by omega)
 obtain⟨y2,v2,hy2,hv2,H2⟩:=kid_in hso hat (i:=2) (t:=t2) (by rw[hxs];rfl) (j:=off+12) (by omega)
 have hvv:v1 = .slice (atT n t1) (nkT n t1) (capT n t1):=by
  subst hy1
  have q:=hv1
  unfold valT at q
  simp at q
  exact q.symm
 have hs3:(sl.xs.map (szT n)).sum=szT n t0+(szT n t1+szT n t2):=by rw[hxs];simp
 have z0:=sz_pos n t0
 have z1:=sz_pos n t1
 have z2:=sz_pos n t2
 have k0:=hks t0 (by rw[hxs];simp)
 have k1:=hks t1 (by rw[hxs];simp)
 have k2:=hks t2 (by rw[hxs];simp)
 rw[hs3] at hb HFIN
 have hr:(resR bi (n+1)).2.1 ((x,sl):Nd×Sli (Tr n)) s=(((resR bi n).2.1 t0 s).bind (catchP (ndR n) (resR bi n).2.2 x (some t1))).bind ((resR bi n).2.1 t2):=by
  show(if x.kind=33 then _ else if x.kind=34 then _ else if x.kind=35 then _ else if x.kind=36∨x.kind=37 then _ else if x.kind=38 then _ else if x.kind=39∨x.kind=40 then _ else if x.kind=41 then _ else if x.kind=42∨x.kind=46∨x.kind=31∨x.kind=32 then _ else if x.kind=43 then (eachP (resR bi n).2.1 (sl.xs.take 1) s).bind (fun s1=>(catchP (ndR n) (resR bi n).2.2 x sl.xs[1]? s1).bind (eachP (resR bi n).2.1 (sl.xs.drop 2))) else _)=_
  rw[if_neg (by omega),if_neg (by omega),if_neg (by omega),if_neg (by omega),if_neg (by omega),if_neg (by omega),if_neg (by omega),if_neg (by omega),if_pos h35,hxs]
  show(eachP (resR bi n).2.1 [t0] s).bind (fun s1=>(catchP (ndR n) (resR bi n).2.2 x (some t1) s1).bind (eachP (resR bi n).2.1 [t2]))=_
  rw[each_one]
  cases (resR bi n).2.1 t0 s with
  | error e=>rfl
  | ok s1 =>
    show(catchP (ndR n) (resR bi n).2.2 x (some t1) s1).bind (eachP (resR bi n).2.1 [t2])=(catchP (ndR n) (resR bi n).2.2 x (some t1) s1).bind ((resR bi n).2.1 t2)
    cases catchP (ndR n) (resR bi n).2.2 x (some t1) s1 with
    | error e=>rfl
    | ok s2=>exact each_one _ _ _
 have hcat:∀s1,catchP (ndR n) (resR bi n).2.2 x (some t1) s1=(if y1.kind=0 then .ok s1 else (((fun s=>(declP x.name x.pl 6 s).bind ((resR bi n).2.2 t1)) (openP s1)).bind fun s3 => .ok (shutP s3))):=fun s1=>by
  have e0:(ndR n t1).kind=y1.kind:=by rw[hy1,nd_same]
  show(if (ndR n t1).kind=0 then _ else _)=_
  rw[e0]
  split
  ·rfl
  ·show(declP _ _ _ (openP s1)).bind _=((declP _ _ _ (openP s1)).bind _).bind _
   cases declP x.name x.pl 6 (openP s1) <;> rfl
 have HE0:=hS t0 k0 wn wb O s 0 a v6 hn (by omega) (by omega) (by omega)
 rw[hv0] at HE0
 obtain⟨r1,hr1⟩:∃r1,r1=(resR bi n).2.1 t0 s:=⟨_,rfl⟩
 rw[←hr1] at HE0 hr
 have HCL:∀w1 s1 c1 a1,RWent wn W0.heap.size wb O s1 c1 a1 v6 w1→w1.cell? ⟨w.heap.size,1,none⟩=some (.int .i64 x.pl)∧w1.cell? ⟨w.heap.size,2,none⟩=some (.string x.name)∧w1.cell? ⟨w.heap.size,5,none⟩=some kv:=fun w1 s1 c1 a1 hw1=>by
  have hX1:=nd_went h.mem (Nat.le_refl _) hbl hX hw1
  exact⟨cell_of_row w1 _ 1 _ 25 (0,0) hX1,cell_of_row w1 _ 2 _ 25 (0,0) hX1,cell_of_row w1 _ 5 _ 25 (0,0) hX1⟩
 have HBL:∀w1 s1 c1 a1,RWent wn W0.heap.size wb O s1 c1 a1 v6 w1→Below W0.heap.size W0 w1:=fun w1 s1 c1 a1 hw1=>by
  obtain⟨O1,o1,_,_⟩:=hn.went hw1
  exact o1.bel
 have HS5:Hid (∀e w2,Tl wn W0.heap.size wb O v6 (8*szT n t0 - 2+(2+(8*szT n t1 - 8))) (r1.bind (catchP (ndR n) (resR bi n).2.2 x (some t1))) s 0 a e w2→Calls Tryz.prog 20 #[.pointer (some ⟨wb,0,none⟩),.agg #[.int .i64 y2.kind,.int .i64 y2.pl,.string y2.name,.int .u64 y2.num,.string y2.op,v2]] w2 (fun e w'=>e = .returned (.tuple #[])∧P e w')):=fun e w2 hT=>by
  rw[←hv2]
  refine(hT.then (k':=8*szT n t2 - 2) (g:=(resR bi n).2.1 t2) hn fun O1 s1 c1 a1 hl hc o1 => ?_).mono ?_
  ·have:=hl.dp
   have:=hl.blen
   exact hS t2 k2 w2 wb O1 s1 c1 a1 v6 o1 (by omega) (by omega) (by omega)
  ·intro e3 w3 hT3
   exact⟨hT3.1,HFIN.out _ _ (by omega) hr e3 w3 hT3⟩
 have HSZ:Hid (y1.kind=0→∀s1 c1 a1 w1,Told (8*szT n t0 - 2) r1 s 0 a s1 c1 a1→RWent wn W0.heap.size wb O s1 c1 a1 v6 w1→Calls Tryz.prog 20 #[.pointer (some ⟨wb,0,none⟩),.agg #[.int .i64 y2.kind,.int .i64 y2.pl,.string y2.name,.int .u64 y2.num,.string y2.op,v2]] w1 (fun e w'=>e = .returned (.tuple #[])∧P e w')):=fun q s1 c1 a1 w1 ht hw=>by
  have q3:Told (8*szT n t0 - 2+0) (r1.bind (catchP (ndR n) (resR bi n).2.2 x (some t1))) s 0 a s1 c1 a1:=Told.bind (f:=fun _=>r1) (g:=catchP (ndR n) (resR bi n).2.2 x (some t1)) ht (by rw[hcat,if_pos q];exact Told.ok s1 c1 a1)
  exact HS5.out (.returned (.tuple #[])) w1 ⟨rfl,s1,c1,a1,q3.mono (by omega),hw⟩
 have HS1:Hid (∀s1 c1 a1 w1,Told (8*szT n t0 - 2) r1 s 0 a s1 c1 a1→RWent wn W0.heap.size wb O s1 c1 a1 v6 w1→Calls Tryz.prog 39 #[.pointer (some ⟨wb,0,none⟩)] w1 (fun e w'=>e = .returned (.tuple #[])∧RWent wn W0.heap.size wb O (openP s1) c1 a1 v6 w')):=fun s1 c1 a1 w1 ht1 hw1=>by
  refine relG hn hw1 fun O1 o1=>open_any w1 W0.heap.size wb O1 s1 c1 a1 v6 o1.mem ?_
  have:=ht1.lk.dp
  unfold dp lim at *
  omega
 have HS2:Hid (∀s1 c1 a1 w2,Told (8*szT n t0 - 2) r1 s 0 a s1 c1 a1→RWent wn W0.heap.size wb O (openP s1) c1 a1 v6 w2→Calls Tryz.prog 19 #[.pointer (some ⟨wb,0,none⟩),.string x.name,.int .i64 x.pl,.int .i64 6] w2 (fun e w'=>e = .returned (.tuple #[])∧∃s2 c2 a2,Told 2 (declP x.name x.pl 6 (openP s1)) (openP s1) c1 a1 s2 c2 a2∧RWent wn W0.heap.size wb O s2 c2 a2 v6 w')):=fun s1 c1 a1 w2 ht hw=>by
  have hc:=ht.cr
  exact relT hn hw fun O1 o1=>declare_any w2 W0.heap.size wb O1 (openP s1) c1 a1 v6 o1.mem (by rw[cr_open];unfold lim at hb;omega) (by unfold openP;simp) x.name hxw.name x.pl _
 have HS3:Hid (∀s1 c1 a1 s2 c2 a2 w3,Told (8*szT n t0 - 2) r1 s 0 a s1 c1 a1→Told 2 (declP x.name x.pl 6 (openP s1)) (openP s1) c1 a1 s2 c2 a2→RWent wn W0.heap.size wb O s2 c2 a2 v6 w3→Calls Tryz.prog 12 #[.pointer (some ⟨wb,0,none⟩),v1] w3 (fun e w'=>e = .returned (.tuple #[])∧∃s3 c3 a3,Told (8*szT n t1 - 8) ((resR bi n).2.2 t1 s2) s2 c2 a2 s3 c3 a3∧RWent wn W0.heap.size wb O s3 c3 a3 v6 w')):=fun s1 c1 a1 s2 c2 a2 w3 ht ht2 hw=>by
  have hc:=ht.cr
  have hc2:=ht2.cr
  rw[cr_open] at hc2
  have hd1:=ht.lk.dp
  have hd2:=ht2.lk.dp
  have hb2:=ht2.lk.blen
  rw[hvv]
  exact relT hn hw fun O1 o1=>hB t1 k1 w3 wb O1 s2 c2 a2 v6 o1 (by omega) (by unfold dp openP at *;simp only[List.length_cons] at *;omega) (by rw[hb2];unfold openP;simp)
 have HS4:Hid (¬y1.kind=0→∀s1 c1 a1 s2 c2 a2 s3 c3 a3 w4,Told (8*szT n t0 - 2) r1 s 0 a s1 c1 a1→Told 2 (declP x.name x.pl 6 (openP s1)) (openP s1) c1 a1 s2 c2 a2→Told (8*szT n t1 - 8) ((resR bi n).2.2 t1 s2) s2 c2 a2 s3 c3 a3→RWent wn W0.heap.size wb O s3 c3 a3 v6 w4→Calls Tryz.prog 40 #[.pointer (some ⟨wb,0,none⟩)] w4 (fun e w'=>e = .returned (.tuple #[])∧w'.cell? ⟨w.heap.size,5,none⟩=some kv∧Below W0.heap.size W0 w'∧Calls Tryz.prog 20 #[.pointer (some ⟨wb,0,none⟩),.agg #[.int .i64 y2.kind,.int .i64 y2.pl,.string y2.name,.int .u64 y2.num,.string y2.op,v2]] w' (fun e w'=>e = .returned (.tuple #[])∧P e w'))):=fun q s1 c1 a1 s2 c2 a2 s3 c3 a3 w4 ht ht2 ht3 hw=>by
  have hb2:=ht2.lk.blen
  have hb3:=ht3.lk.blen
  refine(relG hn hw fun O1 o1=>shut_any w4 W0.heap.size wb O1 s3 c3 a3 v6 o1.mem (by rw[hb3,hb2];unfold openP;simp)).mono ?_
  rintro e w' ⟨he,hw5⟩
  have q1:=Told.bind (f:=fun s=>declP x.name x.pl 6 s) (g:=(resR bi n).2.2 t1) ht2 ht3
  have q2:=told_shut2 (f:=fun s=>(declP x.name x.pl 6 s).bind ((resR bi n).2.2 t1)) q1
  have q3:Told (8*szT n t0 - 2+(2+(8*szT n t1 - 8))) (r1.bind (catchP (ndR n) (resR bi n).2.2 x (some t1))) s 0 a _ _ _:=Told.bind (f:=fun _=>r1) (g:=catchP (ndR n) (resR bi n).2.2 x (some t1)) ht (by rw[hcat,if_neg q];exact q2)
  exact⟨he,(HCL w' _ _ _ hw5).2.2,HBL w' _ _ _ hw5,HS5.out (.returned (.tuple #[])) w' ⟨rfl,_,_,_,q3,hw5⟩⟩
 have HC0:=H0 wn hn.bel
 have HK1:Hid _:=H1
 have HK2:Hid _:=H2
 have HCL2:Hid _:=HCL
 have HBL2:Hid _:=HBL
 have hkv2:kv = .slice (some ⟨kb,off,none⟩) 3 sl.cap:=by rw[hkv,hat,hxs];rfl
 have e1:Value.slice sl.at' sl.xs.length sl.cap=kv:=hkv.symm
 rw[e1]
 generalize sl.cap=kc at *
 clear h hb hd hm hn hX hP hxw hso hkt hft hks hE hS hB hsz hkv hbl HFIN hr hr1 hlm e1 hlen hat hxs hs3 z0 z1 z2 k0 k1 k2 hv0 hv1 hv2 hvv H0 H1 H2 hy0 hy1 hy2 HCL HBL hcat HS5
 subst hkv2
 obtain⟨x0,x1,x2,x3,x4,x5⟩:=HC0
 rw[h35] at b0 hwn ⊢
 clear h35
 go_enter Tryz.func20,Tryz.ntmps20
 go_upto_region 1 with fail
 rw[←hwn]
 clear hwn
 go_wp2_with fail
 refine HE0.mono ?_
 rintro e w1 ⟨rfl,s1,c1,a1,ht',hw'⟩
 obtain⟨d1,d2,d5⟩:=HCL2.out w1 _ c1 a1 hw'
 obtain⟨p0,_,_,_,_,_⟩:=HK1.out w1 (HBL2.out w1 _ _ _ hw')
 by_cases cz:y1.kind=0
 ·have kz:=HSZ.out cz s1 c1 a1 w1 ht' hw'
  obtain⟨q0,q1,q2,q3,q4,q5⟩:=HK2.out w1 (HBL2.out w1 _ _ _ hw')
  rw[cz] at p0
  clear HE0 HS1 HS2 HS3 HS4 HSZ ht' hw' x0 x1 x2 x3 x4 x5 b0 b1 b2 b3 b4 b5 HK1 HK2 HCL2 HBL2
  go_wp2_with fail
  refine kz.mono ?_
  rintro e w3 ⟨rfl,hp⟩
  have HE:Hid (P (.returned (.tuple #[])) w3):=hp
  clear kz hp
  go_wp2_with fail
  go_end0
  exact HE.out
 have jz:(y1.kind == (0:Int))=false:=by simpa using cz
 have kop:=HS1.out s1 c1 a1 w1 ht' hw'
 have ht:Hid _:=ht'
 have HZ4:Hid _:=HS4.out cz
 clear HE0 HS1 HSZ HS4 ht' hw' x0 x1 x2 x3 x4 x5 b0 b1 b2 b3 b4 b5 cz
 go_wp2_with fail
 refine kop.mono ?_
 rintro e w2 ⟨rfl,hw'⟩
 clear d1 d2 d5 p0 jz
 obtain⟨d1,d2,d5⟩:=HCL2.out w2 _ c1 a1 hw'
 have kdl:=HS2.out s1 c1 a1 w2 ht.out hw'
 clear kop hw' HS2
 go_wp2_with fail
 refine kdl.mono ?_
 rintro e w3 ⟨rfl,s2,c2,a2,ht2',hw2'⟩
 clear d1 d2 d5
 obtain⟨_,_,d5⟩:=HCL2.out w3 s2 c2 a2 hw2'
 obtain⟨_,_,_,_,_,p5⟩:=HK1.out w3 (HBL2.out w3 s2 c2 a2 hw2')
 have klp:=HS3.out s1 c1 a1 s2 c2 a2 w3 ht.out ht2' hw2'
 have ht2:Hid _:=ht2'
 clear kdl hw2' ht2' HCL2 HBL2 HK1 HS3
 go_wp2_with fail
 refine klp.mono ?_
 rintro e w4 ⟨rfl,s3,c3,a3,ht3,hw3⟩
 have ksh:=HZ4.out s1 c1 a1 s2 c2 a2 s3 c3 a3 w4 ht.out ht2.out ht3 hw3
 clear klp HZ4 ht ht2 ht3 hw3 p5 d5
 go_wp2_with fail
 refine ksh.mono ?_
 rintro e w5 ⟨rfl,d5,bl5,kz⟩
 obtain⟨q0,q1,q2,q3,q4,q5⟩:=HK2.out w5 bl5
 clear ksh HK2 bl5
 go_wp2_with fail
 refine kz.mono ?_
 rintro e w6 ⟨rfl,hp⟩
 have HE:Hid (P (.returned (.tuple #[])) w6):=hp
 clear kz hp
 go_wp2_with fail
 go_end0
 exact HE.out
end Go.Proofs.YtihmdcdifakepaaGreat.Rv.Rx
