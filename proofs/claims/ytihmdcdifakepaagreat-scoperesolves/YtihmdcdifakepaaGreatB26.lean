/- MZ, NB, ND, NE -/
import Derived.Test.YtihmdcdifakepaaGreatB25
import Derived.Test.YtihmdcdifakepaaGreatB21
import Derived.Test.YtihmdcdifakepaaGreatB20
import Derived.Test.YtihmdcdifakepaaGreatB22
set_option linter.unusedVariables false
set_option linter.unusedSimpArgs false
set_option maxRecDepth 100000
set_option maxHeartbeats 40000000
namespace Go.Proofs.YtihmdcdifakepaaGreat.Rv
open Go.RowKit Go.Proofs.YtihmdcdifakepaaGreat.Sc Go.Proofs.YtihmdcdifakepaaGreat.Rz
theorem heads_keeps {α:Type}(nd:α→Nd):∀(l:List α)(s s':Rz.RS),headsP nd l s = .ok s'→s'.blocks.length=s.blocks.length
 | [],s,s',e=>by
   unfold headsP at e
   obtain rfl:=Except.ok.inj e
   rfl
 | k :: r,s,s',e=>by
   unfold headsP at e
   obtain⟨s2,e1,e2⟩:=bind_ok e
   rw[heads_keeps nd r s2 s' e2]
   exact(hd1_keeps (x:=nd k) (s:=s) (s':=s2) e1).1
theorem items_keeps {n:Nat}{l:List (Tr n)}{s s':Rz.RS}(e:itemsP (ndR n) (resP bi n).1 l s = .ok s'):s'.blocks.length=s.blocks.length:=by
 unfold itemsP at e
 obtain⟨s2,e1,e2⟩:=bind_ok e
 rw[(keeps_each (keeps_resP bi n).1 l s2 s' e2).blocks]
 exact heads_keeps _ l s s2 e1
theorem block_any (W0:World)(n:Nat)(hN:NC W0 n)(w:World)(rb:Nat)(O:Nat→Prop)(s:Rz.RS)(v6:Value)(h:On W0 rb O s v6 w)(sl:Sli (Tr n))(hok:sl.ok (encT n) 6 W0)(hks:∀y∈sl.xs,okF n W0 y)(hb:cr s+2+8*(sl.xs.map (szT n)).sum≤lim)(hd:dp s+2+4*n≤lim) :
  Calls Tryz.prog 16 #[.pointer (some ⟨rb,0,none⟩),.slice sl.at' sl.xs.length sl.cap] w (Out w W0.heap.size rb O v6 (.tuple #[]) (blockP (ndR n) (resP bi n).1 sl.xs s)):=by
 have ko:=open_any w W0.heap.size rb O s v6 h.mem (bg_of (by omega) (by omega))
 have HIT:Hid (∀w1,Went w W0.heap.size rb O (openP s) v6 w1→Calls Tryz.prog 27 #[.pointer (some ⟨rb,0,none⟩),.slice sl.at' sl.xs.length sl.cap] w1 (Out w W0.heap.size rb O v6 (.tuple #[]) (itemsP (ndR n) (resP bi n).1 sl.xs (openP s)))):=fun w1 hw=>rel h hw fun O1 o1=>items_any W0 n hN w1 rb O1 (openP s) v6 o1 sl hok hks (by rw[cr_open];exact hb) (by unfold dp openP at *;simp only[List.length_cons];omega) (by unfold openP;simp)
 have HSH:Hid (∀s2 w2,itemsP (ndR n) (resP bi n).1 sl.xs (openP s) = .ok s2→Went w W0.heap.size rb O s2 v6 w2→Calls Tryz.prog 28 #[.pointer (some ⟨rb,0,none⟩)] w2 (fun e w'=>e = .returned (.tuple #[])∧Went w W0.heap.size rb O (shutP s2) v6 w')):=fun s2 w2 e hw=>relW h hw fun O1 o1=>by
  have hl:=items_keeps e
  unfold openP at hl
  simp only[List.length_cons] at hl
  obtain⟨b0,bs,hbs⟩:∃b0 bs,s2.blocks=b0 :: bs:=by
   cases hq:s2.blocks with
   | nil=>rw[hq] at hl;simp at hl
   | cons a b=>exact⟨a,b,rfl⟩
  exact shut_any w2 W0.heap.size rb O1 s2 v6 o1.mem b0 bs hbs
 obtain⟨R,hR⟩:∃R,R=blockP (ndR n) (resP bi n).1 sl.xs s:=⟨_,rfl⟩
 rw[←hR]
 unfold blockP at hR
 have HR:Hid (R=(itemsP (ndR n) (resP bi n).1 sl.xs (openP s)).bind fun s => .ok (shutP s)):=hR
 generalize itemsP (ndR n) (resP bi n).1 sl.xs (openP s)=I at *
 generalize sl.at'=ka at *
 generalize sl.cap=kc at *
 generalize sl.xs.length=kl at *
 clear h hok hks hb hd hN hR
 go_enter Tryz.func16,Tryz.ntmps16
 go_wp2_with fail
 refine ko.mono ?_
 rintro e w1 ⟨rfl,h1⟩
 have ki:=HIT.out w1 h1
 clear ko h1 HIT
 go_wp2_with fail
 refine ki.mono ?_
 intro e w2 ho
 clear ki
 cases I with
 | error er =>
   obtain⟨rfl,g⟩:=ho
   refine⟨rfl,?_⟩
   rw[HR.out]
   exact⟨rfl,g⟩
 | ok s2 =>
   obtain⟨rfl,g⟩:=ho
   have ks:=HSH.out s2 w2 rfl g
   clear g HSH
   go_wp2_with fail
   refine ks.mono ?_
   rintro e w3 ⟨rfl,h3⟩
   have HG:Hid (Went w W0.heap.size rb O (shutP s2) v6 w3):=h3
   clear ks h3
   go_wp2_with fail
   go_end0
   rw[HR.out]
   exact⟨rfl,HG.out⟩
theorem jump_any (w:World)(B rb:Nat)(O:Nat→Prop)(s:Rz.RS)(v6:Value)(h:Mem w B rb O s v6)(x:Nd)(kv:Value) :
  Calls Tryz.prog 87 #[.pointer (some ⟨rb,0,none⟩),.agg #[.int .i64 x.kind,.int .i64 x.pl,.string x.name,.int .u64 x.num,.string x.op,kv]] w (Out w B rb O v6 (.tuple #[]) (jumpP x s)):=by
 obtain⟨wb,hwb⟩:∃wb,wb=w.alloc (.cells #[.int .i64 x.kind,.int .i64 x.pl,.string x.name,.int .u64 x.num,.string x.op,kv] 25):=⟨_,rfl⟩
 have hb:Below w.heap.size w wb:=by rw[hwb];exact(Below.refl _ _).alloc (Nat.le_refl _) _
 have hX:NdB w.heap.size x kv wb:=by rw[hwb];exact at_new _ _
 have b0:wb.cell? ⟨w.heap.size,0,none⟩=some (.int .i64 x.kind):=cell_of_row wb _ 0 _ _ (0,0) hX
 have b1:wb.cell? ⟨w.heap.size,1,none⟩=some (.int .i64 x.pl):=cell_of_row wb _ 1 _ _ (0,0) hX
 have b2:wb.cell? ⟨w.heap.size,2,none⟩=some (.string x.name):=cell_of_row wb _ 2 _ _ (0,0) hX
 have b3:wb.cell? ⟨w.heap.size,3,none⟩=some (.int .u64 x.num):=cell_of_row wb _ 3 _ _ (0,0) hX
 have b4:wb.cell? ⟨w.heap.size,4,none⟩=some (.string x.op):=cell_of_row wb _ 4 _ _ (0,0) hX
 have b5:wb.cell? ⟨w.heap.size,5,none⟩=some kv:=cell_of_row wb _ 5 _ _ (0,0) hX
 have kc:=canJump_any wb B rb O s v6 (h.below hb) x kv
 have HB:Hid (Below w.heap.size w wb):=hb
 have HW:Hid (∀W,Below w.heap.size w W→Went w B rb O s v6 W∧Chg O w W):=fun W hW=>⟨Went.same h hW,Chg.of_below hW⟩
 obtain⟨R,hR⟩:∃R,R=jumpP x s:=⟨_,rfl⟩
 rw[←hR]
 have HR:Hid (R=if jmB x s=true then .ok s else .error (x.pl,75)):=hR
 generalize jmB x s=q at *
 generalize x.kind=q0 at *
 generalize x.pl=q1 at *
 generalize x.name=q2 at *
 generalize x.num=q3 at *
 generalize x.op=q4 at *
 clear h hX hb hR
 go_enter Tryz.func87,Tryz.ntmps87
 go_upto_region 1 with fail
 rw[←hwb]
 clear hwb
 go_wp2_with fail
 refine kc.mono ?_
 rintro e w1 ⟨rfl,hb1⟩
 have HB1:Hid (Below w.heap.size w w1):=HB.out.trans (hb1.mono HB.out.size)
 have d1:=Sc.cells_below hb1 _ _ b1
 clear kc hb1 b0 b1 b2 b3 b4 b5
 cases q with
 | true =>
   go_wp2_with fail
   go_end0
   rw[HR.out]
   first | rw[if_pos trivial] | rw[if_pos rfl]
   exact⟨rfl,(HW.out w1 HB1.out).1⟩
 | false =>
   go_wp2_with fail
   refine⟨rfl,?_⟩
   rw[HR.out]
   first | rw[if_neg (fun q=>q)] | rw[if_neg (by decide)]
   exact⟨rfl,(HW.out w1 HB1.out).2⟩
theorem bg_lt {s:Rz.RS}(h1:cr s≤lim)(h2:dp s≤lim):bg s<1000000000:=by
 unfold cr dp bg lim at *
 omega
theorem NdB.chg {nb:Nat}{x:Nd}{kv:Value}{w w':World}{O:Nat→Prop}(h:NdB nb x kv w)(hc:Chg O w w')(hn:¬O nb):NdB nb x kv w':=by
 unfold NdB
 rw[hc.block nb (Array.getElem?_eq_some_iff.1 h).1 hn]
 exact h
theorem Went.chg {w w':World}{B rb:Nat}{O:Nat→Prop}{s:Rz.RS}{v6:Value}(h:Went w B rb O s v6 w'):Chg O w w':=by obtain⟨_,_,h2,_⟩:=h;exact h2
theorem NdB.cs {nb:Nat}{x:Nd}{kv:Value}{w:World}(h:NdB nb x kv w):w.cell? ⟨nb,0,none⟩=some (.int .i64 x.kind)∧w.cell? ⟨nb,1,none⟩=some (.int .i64 x.pl)∧w.cell? ⟨nb,2,none⟩=some (.string x.name)∧w.cell? ⟨nb,3,none⟩=some (.int .u64 x.num)∧w.cell? ⟨nb,4,none⟩=some (.string x.op)∧w.cell? ⟨nb,5,none⟩=some kv :=
 ⟨cell_of_row w _ 0 _ _ (0,0) h,cell_of_row w _ 1 _ _ (0,0) h,cell_of_row w _ 2 _ _ (0,0) h,cell_of_row w _ 3 _ _ (0,0) h,cell_of_row w _ 4 _ _ (0,0) h,cell_of_row w _ 5 _ _ (0,0) h⟩
theorem kid_val {n:Nat}{w:World}{b off kc:Nat}{xs:List (Tr n)}(h:Sli.ok (encT n) 6 w ⟨some ⟨b,off,none⟩,kc,xs⟩){k:Nat}{y:Tr n}(hy:xs[k]?=some y) :
  w.cell? ⟨b,off+k*6,none⟩=some (.int .i64 (ndT n y).kind)∧w.cell? ⟨b,off+k*6+1,none⟩=some (.int .i64 (ndT n y).pl)∧w.cell? ⟨b,off+k*6+2,none⟩=some (.string (ndT n y).name) ∧
   w.cell? ⟨b,off+k*6+3,none⟩=some (.int .u64 (ndT n y).num)∧w.cell? ⟨b,off+k*6+4,none⟩=some (.string (ndT n y).op)∧w.cell? ⟨b,off+k*6+5,none⟩=some (.slice (atT n y) (nkT n y) (capT n y)):=by
 have hk:k<xs.length:=(List.getElem?_eq_some_iff.1 hy).1
 obtain⟨y',b',off',k1,k2,x0,x1,x2,x3,x4,x5⟩:=kid_at h (k:=k) hk
 simp only[Option.some.injEq,Addr.mk.injEq,and_true] at k1 k2
 obtain⟨rfl,rfl⟩:=k1
 rw[hy] at k2
 obtain rfl:=Option.some.inj k2
 exact⟨x0,x1,x2,x3,x4,x5⟩
theorem each_one {n:Nat}(t:Tr n)(s:Rz.RS):eachP (resP bi n).1 [t] s=(resP bi n).1 t s:=by
 unfold eachP
 cases (resP bi n).1 t s with
 | error e=>rfl
 | ok s'=>rfl
theorem loopOf_any (W0:World)(n:Nat)(hN:NC W0 n)(w:World)(rb:Nat)(O:Nat→Prop)(s:Rz.RS)(v6:Value)(h0:On W0 rb O s v6 w)(x:Nd)(hnm:x.name.size≤maxLen)(sl:Sli (Tr n))(hok:sl.ok (encT n) 6 W0)(hks:∀y∈sl.xs,okF n W0 y)(hl:sl.xs.length=2)(hb:cr s+8+8*(sl.xs.map (szT n)).sum≤lim)(hd:dp s+4+4*n≤lim) :
  Calls Tryz.prog 85 #[.pointer (some ⟨rb,0,none⟩),.agg #[.int .i64 x.kind,.int .i64 x.pl,.string x.name,.int .u64 x.num,.string x.op,.slice sl.at' sl.xs.length sl.cap]] w (Out w W0.heap.size rb O v6 (.tuple #[]) (loopOfP (resP bi n).1 x sl.xs s)):=by
 obtain⟨ka,kc,kx⟩:=sl
 simp only at *
 obtain⟨t0,t1,rfl⟩:∃t0 t1,kx=[t0,t1]:=by
  match kx,hl with
  | [t0,t1],_=>exact⟨t0,t1,rfl⟩
 obtain⟨b,off,hka,_⟩:=hok.cells (by simp)
 simp only at hka
 subst hka
 have hkc:2≤kc:=by have:=hok.len;simpa using this
 obtain⟨kq,rfl⟩:∃kq,kc=kq+1:=⟨kc - 1,by omega⟩
 obtain⟨wb,hwb⟩:∃wb,wb=w.alloc (.cells #[.int .i64 x.kind,.int .i64 x.pl,.string x.name,.int .u64 x.num,.string x.op,.slice (some ⟨b,off,none⟩) 2 (kq+1)] 25):=⟨_,rfl⟩
 have hbl:Below w.heap.size w wb:=by rw[hwb];exact below_new (Below.refl _ _) (Nat.le_refl _) _
 have hX:NdB w.heap.size x (.slice (some ⟨b,off,none⟩) 2 (kq+1)) wb:=by rw[hwb];exact at_new _ _
 have h:=h0.below hbl
 have hnO:¬O w.heap.size:=fun q=>by have:=(h0.mem.lt _ q).2;omega
 have HX:Hid (∀W,Chg O wb W→NdB w.heap.size x (.slice (some ⟨b,off,none⟩) 2 (kq+1)) W):=fun W hc=>hX.chg hc hnO
 have HB:Hid (Below w.heap.size w wb):=hbl
 simp only[List.map_cons,List.map_nil,List.sum_cons,List.sum_nil] at hb
 have k1:=hN t0 (hks t0 (by simp)) wb rb O s v6 h (by omega) (by omega)
 obtain⟨x0,x1,x2,x3,x4,x5⟩:=kid_val (hok.kept (Sc.cells_below h.bel)) (k:=0) (y:=t0) (by simp)
 simp only[Nat.zero_mul,Nat.add_zero] at x0 x1 x2 x3 x4 x5
 have KO:Hid (∀s1 w1,(resP bi n).1 t0 s = .ok s1→Went wb W0.heap.size rb O s1 v6 w1→Calls Tryz.prog 26 #[.pointer (some ⟨rb,0,none⟩)] w1 (fun e w'=>e = .returned (.tuple #[])∧Went wb W0.heap.size rb O (openP s1) v6 w')):=fun s1 w1 e hw=>relW h hw fun O1 o1=>by
  have hc:=(cr_res bi n).1 t0 s s1 e
  have hk:=(keeps_resP bi n).1 t0 s s1 e
  exact open_any w1 W0.heap.size rb O1 s1 v6 o1.mem (bg_of (by omega) (by unfold dp at *;rw[hk.blocks,hk.labels,hk.loops];omega))
 have KD:Hid (∀s1 w1 (kd:Int),(resP bi n).1 t0 s = .ok s1→Went wb W0.heap.size rb O (openP s1) v6 w1→Calls Tryz.prog 49 #[.pointer (some ⟨rb,0,none⟩),.agg #[.int .i64 x.kind,.int .i64 x.pl,.string x.name,.int .u64 x.num,.string x.op,.slice (some ⟨b,off,none⟩) 2 (kq+1)],.int .i64 kd] w1 (Out wb W0.heap.size rb O v6 (.tuple #[]) (declP x.name x.pl kd (openP s1)))):=fun s1 w1 kd e hw=>rel h hw fun O1 o1=>by
  have hc:=(cr_res bi n).1 t0 s s1 e
  have hk:=(keeps_resP bi n).1 t0 s s1 e
  exact declare_any w1 W0.heap.size rb O1 (openP s1) v6 o1.mem (bg_lt (by rw[cr_open];omega) (by unfold dp openP at *;simp only[List.length_cons];rw[hk.blocks,hk.labels,hk.loops];omega)) [] s1.blocks rfl x.kind x.pl x.num x.name x.op _ hnm kd
 have KL:Hid (∀s1 s2 w1 (kd:Int),(resP bi n).1 t0 s = .ok s1→declP x.name x.pl kd (openP s1) = .ok s2→Went wb W0.heap.size rb O s2 v6 w1→Calls Tryz.prog 84 #[.pointer (some ⟨rb,0,none⟩),.slice (some ⟨b,rsO off kq,none⟩) 1 kq] w1 (Out wb W0.heap.size rb O v6 (.tuple #[]) (loopP (resP bi n).1 [t1] s2))):=fun s1 s2 w1 kd e e2 hw=>rel h hw fun O1 o1=>by
  have hc:=(cr_res bi n).1 t0 s s1 e
  have hk:=(keeps_resP bi n).1 t0 s s1 e
  have hc2:=cr_decl _ _ _ (openP s1) s2 e2
  obtain⟨p1,p2,p3,p4⟩:=decl_keeps e2
  rw[cr_open] at hc2
  exact loop_any W0 n hN w1 rb O1 s2 v6 o1 ⟨some ⟨b,rsO off kq,none⟩,kq,[t1]⟩ (kids_rest hok) (fun y hy=>hks y (List.mem_cons_of_mem _ hy)) (by simp only[List.map_cons,List.map_nil,List.sum_cons,List.sum_nil];omega) (by unfold dp at *;rw[p1,p2,p3];unfold openP;simp only[List.length_cons];rw[hk.blocks,hk.labels,hk.loops];omega)
 have KS:Hid (∀s1 s2 s3 w1 (kd:Int),(resP bi n).1 t0 s = .ok s1→declP x.name x.pl kd (openP s1) = .ok s2→loopP (resP bi n).1 [t1] s2 = .ok s3→Went wb W0.heap.size rb O s3 v6 w1→Calls Tryz.prog 28 #[.pointer (some ⟨rb,0,none⟩)] w1 (fun e w'=>e = .returned (.tuple #[])∧Went wb W0.heap.size rb O (shutP s3) v6 w')):=fun s1 s2 s3 w1 kd e e2 e3 hw=>relW h hw fun O1 o1=>by
  obtain⟨p1,_,_,_⟩:=decl_keeps e2
  have hq:s3.blocks=s2.blocks:=by
   unfold loopP at e3
   obtain⟨s4,f1,f2⟩:=bind_ok e3
   obtain rfl:=Except.ok.inj f2
   exact(keeps_each (keeps_resP bi n).1 [t1] _ s4 f1).blocks
  obtain⟨c0,cs,hbs⟩:∃c0 cs,s3.blocks=c0 :: cs:=by
   cases hz:s3.blocks with
   | nil=>rw[←hq,hz] at p1;unfold openP at p1;simp at p1
   | cons a b=>exact⟨a,b,rfl⟩
  exact shut_any w1 W0.heap.size rb O1 s3 v6 o1.mem c0 cs hbs
 obtain⟨R,hR⟩:∃R,R=loopOfP (resP bi n).1 x [t0,t1] s:=⟨_,rfl⟩
 rw[←hR]
 unfold loopOfP at hR
 simp only[List.take_succ_cons,List.take_zero,List.drop_succ_cons,List.drop_zero] at hR
 rw[each_one] at hR
 have HR:Hid (R=((resP bi n).1 t0 s).bind fun s1=>(declP x.name x.pl (if isS x.op [99,111,110,115,116] then 2 else 1) (openP s1)).bind fun s2=>(loopP (resP bi n).1 [t1] s2).bind fun s3 => .ok (shutP s3)):=hR
 have hsl:∀w:World,(Instr.slice 23 (.slice (some ⟨b,off,none⟩) 2 (kq+1)) (some (.int .i64 1)) none none).run Tryz.prog w = .ok (.slice (some ⟨b,rsO off kq,none⟩) 1 kq) w:=fun w=>run_rest w b off 1 kq (by omega)
 have KD':=(show Hid _ from KD.out)
 unfold valT at k1
 generalize (resP bi n).1 t0 s=I at *
 generalize (ndT n t0).kind=q0 at *
 generalize (ndT n t0).pl=q1 at *
 generalize (ndT n t0).name=q2 at *
 generalize (ndT n t0).num=q3 at *
 generalize (ndT n t0).op=q4 at *
 generalize atT n t0=q5 at *
 generalize nkT n t0=q6 at *
 generalize capT n t0=q7 at *
 unfold isS at HR
 obtain⟨_,_,_,_,_,a5⟩:=hX.cs
 clear h h0 hok hks hb hd hN hR hl hkc hbl hX hnm hnO KD'
 go_enter Tryz.func85,Tryz.ntmps85
 go_upto_region 1 with fail
 rw[←hwb]
 clear hwb
 go_wp2_with fail
 refine k1.mono ?_
 intro e w1 ho
 clear k1 x0 x1 x2 x3 x4 x5 a5
 cases I with
 | error er =>
   obtain⟨rfl,g9⟩:=ho
   refine⟨rfl,?_⟩
   rw[HR.out]
   exact⟨rfl,(Chg.of_below HB.out).trans g9 (fun _ _ q=>q)⟩
 | ok s1 =>
   obtain⟨rfl,g1⟩:=ho
   have ko:=KO.out s1 w1 rfl g1
   clear KO g1
   go_wp2_with fail
   refine ko.mono ?_
   rintro e w2 ⟨rfl,g2⟩
   obtain⟨a0,a1,a2,a3,a4,a5⟩:=(HX.out w2 g2.chg).cs
   clear ko
   by_cases cc:(x.op.toList == [99,111,110,115,116])=true
   ·have HR2:=HR.out
    rw[cc] at HR2
    have HR:Hid (R=(declP x.name x.pl 2 (openP s1)).bind fun s2=>(loopP (resP bi n).1 [t1] s2).bind fun s3 => .ok (shutP s3)):=HR2
    clear HR2
    have kd2:=KD.out s1 w2 2 rfl g2
    have KL2:=(show Hid _ from fun s2 w1=>KL.out s1 s2 w1 2 rfl)
    have KS2:=(show Hid _ from fun s2 s3 w1=>KS.out s1 s2 s3 w1 2 rfl)
    generalize declP x.name x.pl 2 (openP s1)=D at *
    clear KD KL KS g2
    go_wp2_with fail
    refine kd2.mono ?_
    intro e w3 ho
    clear kd2 a0 a1 a2 a3 a4 a5
    cases D with
    | error er =>
      obtain⟨rfl,g9⟩:=ho
      refine⟨rfl,?_⟩
      rw[HR.out]
      exact⟨rfl,(Chg.of_below HB.out).trans g9 (fun _ _ q=>q)⟩
    | ok s2 =>
      obtain⟨rfl,g3⟩:=ho
      have kl2:=KL2.out s2 w3 rfl g3
      obtain⟨_,_,_,_,_,a5⟩:=(HX.out w3 g3.chg).cs
      have HR:Hid (R=(loopP (resP bi n).1 [t1] s2).bind fun s3 => .ok (shutP s3)):=HR.out
      have KS3:=(show Hid _ from fun s3 w1=>KS2.out s2 s3 w1 rfl)
      generalize loopP (resP bi n).1 [t1] s2=L at *
      clear KL2 KS2 g3
      go_wp2_with fail
      refine kl2.mono ?_
      intro e w4 ho
      clear kl2 a5
      cases L with
      | error er =>
        obtain⟨rfl,g9⟩:=ho
        refine⟨rfl,?_⟩
        rw[HR.out]
        exact⟨rfl,(Chg.of_below HB.out).trans g9 (fun _ _ q=>q)⟩
      | ok s3 =>
        obtain⟨rfl,g4⟩:=ho
        have ks2:=KS3.out s3 w4 rfl g4
        clear KS3 g4
        go_wp2_with fail
        refine ks2.mono ?_
        rintro e w5 ⟨rfl,g5⟩
        have HG:Hid (Went w W0.heap.size rb O (shutP s3) v6 w5):=g5.behind HB.out
        clear ks2 g5
        go_wp2_with fail
        go_end0
        rw[HR.out]
        exact⟨rfl,HG.out⟩
   ·have cf:(x.op.toList == [99,111,110,115,116])=false:=by simpa using cc
    have HR2:=HR.out
    rw[cf] at HR2
    have HR:Hid (R=(declP x.name x.pl 1 (openP s1)).bind fun s2=>(loopP (resP bi n).1 [t1] s2).bind fun s3 => .ok (shutP s3)):=HR2
    clear HR2 cc
    have kd2:=KD.out s1 w2 1 rfl g2
    have KL2:=(show Hid _ from fun s2 w1=>KL.out s1 s2 w1 1 rfl)
    have KS2:=(show Hid _ from fun s2 s3 w1=>KS.out s1 s2 s3 w1 1 rfl)
    generalize declP x.name x.pl 1 (openP s1)=D at *
    clear KD KL KS g2
    go_wp2_with fail
    refine kd2.mono ?_
    intro e w3 ho
    clear kd2 a0 a1 a2 a3 a4 a5
    cases D with
    | error er =>
      obtain⟨rfl,g9⟩:=ho
      refine⟨rfl,?_⟩
      rw[HR.out]
      exact⟨rfl,(Chg.of_below HB.out).trans g9 (fun _ _ q=>q)⟩
    | ok s2 =>
      obtain⟨rfl,g3⟩:=ho
      have kl2:=KL2.out s2 w3 rfl g3
      obtain⟨_,_,_,_,_,a5⟩:=(HX.out w3 g3.chg).cs
      have HR:Hid (R=(loopP (resP bi n).1 [t1] s2).bind fun s3 => .ok (shutP s3)):=HR.out
      have KS3:=(show Hid _ from fun s3 w1=>KS2.out s2 s3 w1 rfl)
      generalize loopP (resP bi n).1 [t1] s2=L at *
      clear KL2 KS2 g3
      go_wp2_with fail
      refine kl2.mono ?_
      intro e w4 ho
      clear kl2 a5
      cases L with
      | error er =>
        obtain⟨rfl,g9⟩:=ho
        refine⟨rfl,?_⟩
        rw[HR.out]
        exact⟨rfl,(Chg.of_below HB.out).trans g9 (fun _ _ q=>q)⟩
      | ok s3 =>
        obtain⟨rfl,g4⟩:=ho
        have ks2:=KS3.out s3 w4 rfl g4
        clear KS3 g4
        go_wp2_with fail
        refine ks2.mono ?_
        rintro e w5 ⟨rfl,g5⟩
        have HG:Hid (Went w W0.heap.size rb O (shutP s3) v6 w5):=g5.behind HB.out
        clear ks2 g5
        go_wp2_with fail
        go_end0
        rw[HR.out]
        exact⟨rfl,HG.out⟩
theorem body_any (W0:World)(n:Nat)(hN:∀m,m<n→NC W0 m)(w:World)(rb:Nat)(O:Nat→Prop)(s:Rz.RS)(v6:Value)(h:On W0 rb O s v6 w)(c:Tr n)(hc:okF n W0 c)(hb:cr s+8*szT n c≤lim)(hd:dp s+1+4*n≤lim)(hne:1≤s.blocks.length) :
  Calls Tryz.prog 27 #[.pointer (some ⟨rb,0,none⟩),.slice (atT n c) (nkT n c) (capT n c)] w (Out w W0.heap.size rb O v6 (.tuple #[]) ((resP bi n).2 c s)):=by
 cases n with
 | zero=>exact nomatch (c:Empty)
 | succ m =>
   obtain⟨x,sl⟩:=c
   have hb2:cr s+8*(1+(sl.xs.map (szT m)).sum)≤lim:=hb
   exact items_any W0 m (hN m (Nat.lt_succ_self _)) w rb O s v6 h sl hc.1.2.1 (fun y hy=>⟨hc.1.2.2 y hy,hc.2.2.2.2 y hy⟩) (by omega) (by omega) hne
theorem body_keeps {n:Nat}{c:Tr n}{s s':Rz.RS}(e:(resP bi n).2 c s = .ok s'):s'.blocks.length=s.blocks.length:=by
 cases n with
 | zero=>exact nomatch (c:Empty)
 | succ m=>exact items_keeps (n:=m) e
structure TryK (W0:World)(n:Nat)(w1:World)(rb:Nat)(O1:Nat→Prop)(s1:Rz.RS)(v6:Value)(x:Nd)(kv:Value)(c t2:Tr n):Prop where
 opn:Calls Tryz.prog 26 #[.pointer (some ⟨rb,0,none⟩)] w1 (fun e w'=>e = .returned (.tuple #[])∧Went w1 W0.heap.size rb O1 (openP s1) v6 w')
 dcl:∀w2,Went w1 W0.heap.size rb O1 (openP s1) v6 w2→Calls Tryz.prog 49 #[.pointer (some ⟨rb,0,none⟩),.agg #[.int .i64 x.kind,.int .i64 x.pl,.string x.name,.int .u64 x.num,.string x.op,kv],.int .i64 6] w2 (Out w1 W0.heap.size rb O1 v6 (.tuple #[]) (declP x.name x.pl 6 (openP s1)))
 bod:∀s2 w2,declP x.name x.pl 6 (openP s1) = .ok s2→Went w1 W0.heap.size rb O1 s2 v6 w2→Calls Tryz.prog 27 #[.pointer (some ⟨rb,0,none⟩),.slice (atT n c) (nkT n c) (capT n c)] w2 (Out w1 W0.heap.size rb O1 v6 (.tuple #[]) ((resP bi n).2 c s2))
 sht:∀s2 s3 w2,declP x.name x.pl 6 (openP s1) = .ok s2→(resP bi n).2 c s2 = .ok s3→Went w1 W0.heap.size rb O1 s3 v6 w2→Calls Tryz.prog 28 #[.pointer (some ⟨rb,0,none⟩)] w2 (fun e w'=>e = .returned (.tuple #[])∧Went w1 W0.heap.size rb O1 (shutP s3) v6 w')
 nod:∀s4 w2,(s4=s1∨∃s2 s3,declP x.name x.pl 6 (openP s1) = .ok s2∧(resP bi n).2 c s2 = .ok s3∧s4=shutP s3)→Went w1 W0.heap.size rb O1 s4 v6 w2→Calls Tryz.prog 72 #[.pointer (some ⟨rb,0,none⟩),valT n t2] w2 (Out w1 W0.heap.size rb O1 v6 (.tuple #[]) ((resP bi n).1 t2 s4))
theorem catch_keeps {n:Nat}{c:Tr n}{nm:ByteArray}{pl:Int}{s1 s2 s3:Rz.RS}(e1:declP nm pl 6 (openP s1) = .ok s2)(e2:(resP bi n).2 c s2 = .ok s3):dp (shutP s3)=dp s1:=by
 obtain⟨p1,p2,p3,p4⟩:=decl_keeps e1
 have hp1:s2.blocks.length=s1.blocks.length+1:=by rw[p1];rfl
 have hl:=body_keeps e2
 have ht:=(keeps_resP bi n).2 c s2 s3 e2
 unfold dp shutP
 simp only[List.length_drop]
 rw[hl,hp1,ht.labels,ht.loops,p2,p3]
 unfold openP
 simp only
 omega
theorem tryK_of {W0:World}{n:Nat}(hN:∀m,m≤n→NC W0 m){w1:World}{rb:Nat}{O1:Nat→Prop}{s1:Rz.RS}{v6:Value}(h:On W0 rb O1 s1 v6 w1){x:Nd}(hnm:x.name.size≤maxLen){kv:Value}{c t2:Tr n}(hc:okF n W0 c)(h2:okF n W0 t2)(hb:cr s1+8+8*(szT n c+szT n t2)≤lim)(hd:dp s1+4+4*n≤lim):TryK W0 n w1 rb O1 s1 v6 x kv c t2:=by
 refine⟨open_any w1 W0.heap.size rb O1 s1 v6 h.mem (bg_of (by omega) (by omega)),fun w2 hw=>rel h hw fun O2 o2 => ?_,fun s2 w2 e hw=>rel h hw fun O2 o2 => ?_,fun s2 s3 w2 e e2 hw=>relW h hw fun O2 o2 => ?_,fun s4 w2 e hw=>rel h hw fun O2 o2 => ?_⟩
 ·exact declare_any w2 W0.heap.size rb O2 (openP s1) v6 o2.mem (bg_lt (by rw[cr_open];omega) (by unfold dp openP at *;simp only[List.length_cons];omega)) [] s1.blocks rfl x.kind x.pl x.num x.name x.op kv hnm 6
 ·have hc2:=cr_decl _ _ _ (openP s1) s2 e
  rw[cr_open] at hc2
  obtain⟨p1,p2,p3,p4⟩:=decl_keeps e
  have hp1:s2.blocks.length=s1.blocks.length+1:=by rw[p1];rfl
  exact body_any W0 n (fun m hm=>hN m (Nat.le_of_lt hm)) w2 rb O2 s2 v6 o2 c hc (by omega) (by unfold dp at *;rw[hp1,p2,p3];unfold openP;simp only;omega) (by omega)
 ·obtain⟨p1,_,_,_⟩:=decl_keeps e
  have hp1:s2.blocks.length=s1.blocks.length+1:=by rw[p1];rfl
  have hl:=body_keeps e2
  obtain⟨c0,cs,hbs⟩:∃c0 cs,s3.blocks=c0 :: cs:=by
   cases hz:s3.blocks with
   | nil=>rw[hz] at hl;simp at hl;omega
   | cons a b=>exact⟨a,b,rfl⟩
  exact shut_any w2 W0.heap.size rb O2 s3 v6 o2.mem c0 cs hbs
 ·have hq:cr s4≤cr s1+2+8*szT n c∧dp s4=dp s1:=by
   rcases e with rfl | ⟨s2,s3,e1,e2,rfl⟩
   ·exact⟨by omega,rfl⟩
   ·have a1:=cr_decl _ _ _ (openP s1) s2 e1
    rw[cr_open] at a1
    have a2:=(cr_res bi n).2 c s2 s3 e2
    have hka:=catch_keeps e1 e2
    exact⟨by rw[cr_shut];omega,hka⟩
  exact hN n (Nat.le_refl _) t2 h2 w2 rb O2 s4 v6 o2 (by omega) (by rw[hq.2];omega)
theorem try_any (W0:World)(n:Nat)(hN:∀m,m≤n→NC W0 m)(w:World)(rb:Nat)(O:Nat→Prop)(s:Rz.RS)(v6:Value)(h0:On W0 rb O s v6 w)(x:Nd)(hnm:x.name.size≤maxLen)(sl:Sli (Tr n))(hok:sl.ok (encT n) 6 W0)(hks:∀y∈sl.xs,okF n W0 y)(hl:sl.xs.length=3)(hb:cr s+8+8*(sl.xs.map (szT n)).sum≤lim)(hd:dp s+4+4*n≤lim) :
  Calls Tryz.prog 83 #[.pointer (some ⟨rb,0,none⟩),.agg #[.int .i64 x.kind,.int .i64 x.pl,.string x.name,.int .u64 x.num,.string x.op,.slice sl.at' sl.xs.length sl.cap]] w (Out w W0.heap.size rb O v6 (.tuple #[]) (tryP (ndR n) (resP bi n).1 (resP bi n).2 x sl.xs s)):=by
 obtain⟨ka,kc,kx⟩:=sl
 simp only at *
 obtain⟨t0,t1,t2,rfl⟩:∃t0 t1 t2,kx=[t0,t1,t2]:=by
  match kx,hl with
  | [t0,t1,t2],_=>exact⟨t0,t1,t2,rfl⟩
 obtain⟨b,off,hka,_⟩:=hok.cells (by simp)
 simp only at hka
 subst hka
 obtain⟨wb,hwb⟩:∃wb,wb=w.alloc (.cells #[.int .i64 x.kind,.int .i64 x.pl,.string x.name,.int .u64 x.num,.string x.op,.slice (some ⟨b,off,none⟩) 3 kc] 25):=⟨_,rfl⟩
 have hbl:Below w.heap.size w wb:=by rw[hwb];exact below_new (Below.refl _ _) (Nat.le_refl _) _
 have hX:NdB w.heap.size x (.slice (some ⟨b,off,none⟩) 3 kc) wb:=by rw[hwb];exact at_new _ _
 have h:=h0.below hbl
 have hwl:w.heap.size<wb.heap.size:=by rw[hwb,size_new];omega
 have hnO:¬O w.heap.size:=fun q=>by have:=(h0.mem.lt _ q).2;omega
 have HB:Hid (Below w.heap.size w wb):=hbl
 simp only[List.map_cons,List.map_nil,List.sum_cons,List.sum_nil] at hb
 have k1:=hN n (Nat.le_refl _) t0 (hks t0 (by simp)) wb rb O s v6 h (by omega) (by omega)
 obtain⟨x0,x1,x2,x3,x4,x5⟩:=kid_val (hok.kept (Sc.cells_below h.bel)) (k:=0) (y:=t0) (by simp)
 simp only[Nat.zero_mul,Nat.add_zero] at x0 x1 x2 x3 x4 x5
 have HK:Hid (∀W,Below W0.heap.size W0 W→Sli.ok (encT n) 6 W ⟨some ⟨b,off,none⟩,kc,[t0,t1,t2]⟩):=fun W hW=>hok.kept (Sc.cells_below hW)
 have HALL:Hid (∀s1 w1 o,(resP bi n).1 t0 s = .ok s1→Went wb W0.heap.size rb O s1 v6 w1→∃O1,On W0 rb O1 s1 v6 (w1.alloc o)∧Chg O wb (w1.alloc o)∧(∀b,O1 b→O b∨wb.heap.size≤b)∧¬O1 w.heap.size∧¬O1 w1.heap.size∧TryK W0 n (w1.alloc o) rb O1 s1 v6 x (.slice (some ⟨b,off,none⟩) 3 kc) t1 t2):=fun s1 w1 o e hw=>by
  obtain⟨O1,o1,o2,o3⟩:=h.went hw
  have hal:Below w1.heap.size w1 (w1.alloc o):=below_new (Below.refl _ _) (Nat.le_refl _) _
  have hc:=(cr_res bi n).1 t0 s s1 e
  have hk:=(keeps_resP bi n).1 t0 s s1 e
  refine⟨O1,o1.below hal,o2.trans (Chg.of_below hal) (fun _ _ (q:O _)=>q),o3,fun q => ?_,fun q => ?_,tryK_of hN (o1.below hal) hnm (hks t1 (by simp)) (hks t2 (by simp)) (by omega) (by unfold dp at *;rw[hk.blocks,hk.labels,hk.loops];omega)⟩
  ·rcases o3 _ q with c | c
   ·exact hnO c
   ·omega
  ·have:=(o1.mem.lt _ q).2;omega
 obtain⟨R,hR⟩:∃R,R=tryP (ndR n) (resP bi n).1 (resP bi n).2 x [t0,t1,t2] s:=⟨_,rfl⟩
 rw[←hR]
 unfold tryP catchP at hR
 simp only[List.take_succ_cons,List.take_zero,List.drop_succ_cons,List.drop_zero,List.getElem?_cons_succ,List.getElem?_cons_zero] at hR
 rw[each_one,nd_same] at hR
 have HR:Hid (R=((resP bi n).1 t0 s).bind fun s1=>(if (ndT n t1).kind=0 then .ok s1 else (declP x.name x.pl 6 (openP s1)).bind fun s2=>((resP bi n).2 t1 s2).bind fun s3 => .ok (shutP s3)).bind (fun s4=>(resP bi n).1 t2 s4)):=by
  show R=_
  rw[hR]
  congr 1
  funext s1
  congr 1
  funext s4
  exact each_one t2 s4
 unfold valT at k1
 generalize (resP bi n).1 t0 s=I at *
 obtain⟨_,_,_,_,_,a5⟩:=hX.cs
 have HX:Hid (NdB w.heap.size x (.slice (some ⟨b,off,none⟩) 3 kc) wb):=hX
 have HNO:Hid (¬O w.heap.size):=hnO
 have HBW:Hid (∀ {s1':Rz.RS} (W:World),Went wb W0.heap.size rb O s1' v6 W→Below W0.heap.size W0 W):=fun {s1'} W hw=>by obtain⟨_,q,_,_⟩:=h.went hw;exact q.bel
 clear h h0 hok hks hb hd hN hR hl hbl hX hnm hnO
 generalize (ndT n t0).kind=q0 at *
 generalize (ndT n t0).pl=q1 at *
 generalize (ndT n t0).name=q2 at *
 generalize (ndT n t0).num=q3 at *
 generalize (ndT n t0).op=q4 at *
 generalize atT n t0=q5 at *
 generalize nkT n t0=q6 at *
 generalize capT n t0=q7 at *
 go_enter Tryz.func83,Tryz.ntmps83
 go_upto_region 1 with fail
 rw[←hwb]
 clear hwb
 go_wp2_with fail
 refine k1.mono ?_
 intro e w1 ho
 clear k1 x0 x1 x2 x3 x4 x5 a5
 cases I with
 | error er =>
   obtain⟨rfl,g9⟩:=ho
   refine⟨rfl,?_⟩
   rw[HR.out]
   exact⟨rfl,(Chg.of_below HB.out).trans g9 (fun _ _ q=>q)⟩
 | ok s1 =>
   obtain⟨rfl,g1⟩:=ho
   obtain⟨w2,hw2⟩:∃w2,w2=w1.alloc (.cells #[.int .i64 (ndT n t1).kind,.int .i64 (ndT n t1).pl,.string (ndT n t1).name,.int .u64 (ndT n t1).num,.string (ndT n t1).op,.slice (atT n t1) (nkT n t1) (capT n t1)] 25):=⟨_,rfl⟩
   obtain⟨O1,o1,c1,o3,n1,n2,tk⟩:=HALL.out s1 w1 (.cells #[.int .i64 (ndT n t1).kind,.int .i64 (ndT n t1).pl,.string (ndT n t1).name,.int .u64 (ndT n t1).num,.string (ndT n t1).op,.slice (atT n t1) (nkT n t1) (capT n t1)] 25) rfl g1
   rw[←hw2] at o1 c1 tk
   have HC:Hid (Chg O wb w2∧∀b,O1 b→O b∨wb.heap.size≤b):=⟨c1,o3⟩
   have HO1:Hid (On W0 rb O1 s1 v6 w2∧¬O1 w.heap.size∧¬O1 w1.heap.size):=⟨o1,n1,n2⟩
   have TK:Hid (TryK W0 n w2 rb O1 s1 v6 x (.slice (some ⟨b,off,none⟩) 3 kc) t1 t2):=tk
   have hX2:NdB w.heap.size x (.slice (some ⟨b,off,none⟩) 3 kc) w2:=HX.out.chg c1 HNO.out
   have HX2:Hid (∀W,Chg O1 w2 W→NdB w.heap.size x (.slice (some ⟨b,off,none⟩) 3 kc) W):=fun W hc=>hX2.chg hc n1
   have hY2:NdB w1.heap.size (ndT n t1) (.slice (atT n t1) (nkT n t1) (capT n t1)) w2:=by rw[hw2];exact at_new _ _
   have HY2:Hid (∀W,Chg O1 w2 W→NdB w1.heap.size (ndT n t1) (.slice (atT n t1) (nkT n t1) (capT n t1)) W):=fun W hc=>hY2.chg hc n2
   obtain⟨_,_,_,_,_,a5⟩:=(HX.out.chg g1.chg HNO.out).cs
   have hbw1:Below W0.heap.size W0 w1:=HBW.out w1 g1
   obtain⟨y0,y1,y2,y3,y4,y5⟩:=kid_val (HK.out w1 hbw1) (k:=1) (y:=t1) (by simp)
   simp only[Nat.reduceMul] at y0 y1 y2 y3 y4 y5
   clear HALL g1 hbw1 o1 c1 o3 n1 n2 tk HX
   obtain⟨kd,hkd⟩:∃kd,kd=(ndT n t1).kind:=⟨_,rfl⟩
   obtain⟨e0,_,_,_,_,e5⟩:=hY2.cs
   rw[←hkd] at HR y0 hw2 e0
   clear hkd hY2
   go_upto_region 3 with fail
   rw[←hw2]
   clear hw2 y0 y1 y2 y3 y4 y5 a5
   by_cases ck:kd=0
   ·subst ck
    have HR:Hid (R=(resP bi n).1 t2 s1):=HR.out
    have kn:=TK.out.nod s1 w2 (Or.inl rfl) (Went.same HO1.out.1.mem (Below.refl _ _))
    obtain⟨_,_,_,_,_,a5⟩:=hX2.cs
    clear hX2
    obtain⟨z0,z1,z2,z3,z4,z5⟩:=kid_val (HK.out w2 HO1.out.1.bel) (k:=2) (y:=t2) (by simp)
    simp only[Nat.reduceMul] at z0 z1 z2 z3 z4 z5
    unfold valT at kn
    generalize (ndT n t2).kind=m0 at *
    generalize (ndT n t2).pl=m1 at *
    generalize (ndT n t2).name=m2 at *
    generalize (ndT n t2).num=m3 at *
    generalize (ndT n t2).op=m4 at *
    generalize atT n t2=m5 at *
    generalize nkT n t2=m6 at *
    generalize capT n t2=m7 at *
    generalize (resP bi n).1 t2 s1=N at *
    go_wp2_with fail
    refine kn.mono ?_
    intro e w6 ho
    have ho2:=Out.behind HB.out (Out.then HC.out.1 HC.out.2 ho)
    clear kn ho
    cases N with
    | error er =>
      obtain⟨rfl,g9⟩:=ho2
      refine⟨rfl,?_⟩
      rw[HR.out]
      exact⟨rfl,g9⟩
    | ok s5 =>
      obtain⟨rfl,g9⟩:=ho2
      have HG:Hid (Went w W0.heap.size rb O s5 v6 w6):=g9
      clear g9
      go_wp2_with fail
      go_end0
      rw[HR.out]
      exact⟨rfl,HG.out⟩
   ·have hck:(kd != (0:Int))=true:=by simpa using ck
    have HR2:=HR.out
    have HR:Hid (R=((declP x.name x.pl 6 (openP s1)).bind fun s2=>((resP bi n).2 t1 s2).bind fun s3 => .ok (shutP s3)).bind (fun s4=>(resP bi n).1 t2 s4)):=by
     show R=_
     rw[HR2]
     show(if kd=0 then _ else _:Except Er Rz.RS).bind _=_
     rw[if_neg ck]
    clear HR2 hX2 ck
    have HO1B:Hid (∀W,Chg O1 w2 W→Below W0.heap.size W0 W):=fun W hc=>hc.below HO1.out.1.bel HO1.out.1.bel.size (fun b q=>(HO1.out.1.mem.lt b q).1)
    have ko:=TK.out.opn
    go_wp2_with fail
    refine ko.mono ?_
    rintro e w3 ⟨rfl,g3⟩
    obtain⟨a0,a1,a2,a3,a4,a5⟩:=(HX2.out w3 g3.chg).cs
    have kd2:=TK.out.dcl w3 g3
    have BOD:=(show Hid _ from TK.out.bod)
    have SHT:=(show Hid _ from TK.out.sht)
    have NOD:Hid (∀s2 s3 w2',declP x.name x.pl 6 (openP s1) = .ok s2→(resP bi n).2 t1 s2 = .ok s3→Went w2 W0.heap.size rb O1 (shutP s3) v6 w2'→Calls Tryz.prog 72 #[.pointer (some ⟨rb,0,none⟩),valT n t2] w2' (Out w2 W0.heap.size rb O1 v6 (.tuple #[]) ((resP bi n).1 t2 (shutP s3)))):=fun s2 s3 w2' f1 f2 f3=>TK.out.nod _ w2' (Or.inr ⟨s2,s3,f1,f2,rfl⟩) f3
    generalize declP x.name x.pl 6 (openP s1)=D at *
    clear ko g3 TK e0 e5
    go_wp2_with fail
    refine kd2.mono ?_
    intro e w4 ho
    clear kd2 a0 a1 a2 a3 a4 a5
    cases D with
    | error er =>
      have ho2:=Out.behind HB.out (Out.then HC.out.1 HC.out.2 ho)
      obtain⟨rfl,g9⟩:=ho2
      refine⟨rfl,?_⟩
      rw[HR.out]
      exact⟨rfl,g9⟩
    | ok s2 =>
      obtain⟨rfl,g4⟩:=ho
      have HR:Hid (R=(((resP bi n).2 t1 s2).bind fun s3 => .ok (shutP s3)).bind (fun s4=>(resP bi n).1 t2 s4)):=HR.out
      have kb:=BOD.out s2 w4 rfl g4
      have SHT2:=(show Hid _ from fun s3 w2'=>SHT.out s2 s3 w2' rfl)
      have NOD2:=(show Hid _ from fun s3 w2'=>NOD.out s2 s3 w2' rfl)
      obtain⟨_,_,_,_,_,e5⟩:=(HY2.out w4 g4.chg).cs
      generalize (resP bi n).2 t1 s2=E at *
      clear g4 BOD SHT NOD
      go_wp2_with fail
      refine kb.mono ?_
      intro e w5 ho
      clear kb e5
      cases E with
      | error er =>
        have ho2:=Out.behind HB.out (Out.then HC.out.1 HC.out.2 ho)
        obtain⟨rfl,g9⟩:=ho2
        refine⟨rfl,?_⟩
        rw[HR.out]
        exact⟨rfl,g9⟩
      | ok s3 =>
        obtain⟨rfl,g5⟩:=ho
        have HR:Hid (R=(resP bi n).1 t2 (shutP s3)):=HR.out
        have ks:=SHT2.out s3 w5 rfl g5
        have NOD3:=(show Hid _ from fun w2'=>NOD2.out s3 w2' rfl)
        clear SHT2 NOD2 g5
        go_wp2_with fail
        refine ks.mono ?_
        rintro e w6 ⟨rfl,g6⟩
        have kn:=NOD3.out w6 g6
        obtain⟨_,_,_,_,_,a5⟩:=(HX2.out w6 g6.chg).cs
        have hbw6:Below W0.heap.size W0 w6:=HO1B.out w6 g6.chg
        obtain⟨z0,z1,z2,z3,z4,z5⟩:=kid_val (HK.out w6 hbw6) (k:=2) (y:=t2) (by simp)
        simp only[Nat.reduceMul] at z0 z1 z2 z3 z4 z5
        clear ks g6 NOD3 hbw6
        unfold valT at kn
        generalize (ndT n t2).kind=m0 at *
        generalize (ndT n t2).pl=m1 at *
        generalize (ndT n t2).name=m2 at *
        generalize (ndT n t2).num=m3 at *
        generalize (ndT n t2).op=m4 at *
        generalize atT n t2=m5 at *
        generalize nkT n t2=m6 at *
        generalize capT n t2=m7 at *
        generalize (resP bi n).1 t2 (shutP s3)=N at *
        go_wp2_with fail
        refine kn.mono ?_
        intro e w7 ho
        have ho2:=Out.behind HB.out (Out.then HC.out.1 HC.out.2 ho)
        clear kn ho
        cases N with
        | error er =>
          obtain⟨rfl,g9⟩:=ho2
          refine⟨rfl,?_⟩
          rw[HR.out]
          exact⟨rfl,g9⟩
        | ok s5 =>
          obtain⟨rfl,g9⟩:=ho2
          have HG:Hid (Went w W0.heap.size rb O s5 v6 w7):=g9
          clear g9
          go_wp2_with fail
          go_end0
          rw[HR.out]
          exact⟨rfl,HG.out⟩
end Go.Proofs.YtihmdcdifakepaaGreat.Rv
