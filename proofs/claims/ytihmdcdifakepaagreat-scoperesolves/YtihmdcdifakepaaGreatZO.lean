/- ZO -/
import Derived.Test.YtihmdcdifakepaaGreatZN
import Derived.Test.YtihmdcdifakepaaGreatB21
set_option linter.unusedVariables false
set_option linter.unusedSimpArgs false
set_option maxRecDepth 100000
set_option maxHeartbeats 40000000
namespace Go.Proofs.YtihmdcdifakepaaGreat.Rv.Rx
open Go.RowKit Go.Proofs.YtihmdcdifakepaaGreat.Sc Go.Proofs.YtihmdcdifakepaaGreat.Rz
theorem Tl.mono {W:World}{B wb:Nat}{O:Nat→Prop}{v6:Value}{k k':Nat}{r:Except Rz.Er Rz.RS}{s:Rz.RS}{c a:Int}{e:Ending}{w':World}(h:Tl W B wb O v6 k r s c a e w')(hk:k≤k'):Tl W B wb O v6 k' r s c a e w':=by
 obtain⟨h0,s',c',a',h1,h2⟩:=h
 exact⟨h0,s',c',a',h1.mono hk,h2⟩
theorem expr_any (W0:World)(n:Nat)(hE:ExC W0 n)(hB:BlC W0 n):ExC W0 (n+1):=by
 intro t hok w wb O s c a v6 h hb hd _
 obtain⟨x,sl⟩:=t
 obtain⟨⟨hxw,hso,hkt⟩,hft⟩:=hok
 have hks:∀y∈sl.xs,okD n W0 y:=fun y hy=>⟨hkt y hy,hft.2.2.2.2 y hy⟩
 have hsz:szT (n+1) ((x,sl):Nd×Sli (Tr n))=1+(sl.xs.map (szT n)).sum:=rfl
 rw[hsz] at hb ⊢
 rw[val_succ]
 obtain⟨kv,hkv⟩:∃kv,kv=Value.slice sl.at' sl.xs.length sl.cap:=⟨_,rfl⟩
 obtain⟨wn,hwn⟩:∃wn,wn=w.alloc (.cells #[.int .i64 x.kind,.int .i64 x.pl,.string x.name,.int .u64 x.num,.string x.op,kv] 25):=⟨_,rfl⟩
 have hbl:Below w.heap.size w wn:=by rw[hwn];exact below_new (Below.refl _ _) (Nat.le_refl _) _
 have hX:NdB w.heap.size x kv wn:=by rw[hwn];exact at_new _ _
 have hn:=h.below hbl
 have c7:=hn.mem.box.2.2.2.1
 obtain⟨P,hP⟩:∃P,P=Tl w W0.heap.size wb O v6 (8*(1+(sl.xs.map (szT n)).sum) - 2) ((resR bi (n+1)).1 ((x,sl):Nd×Sli (Tr n)) s) s c a:=⟨_,rfl⟩
 rw[←hP]
 by_cases hc:¬c=0
 ·have hc':(c == 0)=false:=by simpa using hc
  have HE:Hid (P (.returned (.tuple #[])) wn):=by rw[hP];exact⟨rfl,s,c,a,(Told.idle hc).mono (by omega),RWent.same h.mem hbl⟩
  rw[←hkv]
  clear h hb hd hn hX hP hxw hso hkt hft hks hE hB hsz hkv hbl
  go_enter Tryz.func37,Tryz.ntmps37
  go_upto_region 1 with fail
  rw[←hwn]
  clear hwn
  go_wp2_with fail
  go_end0
  exact HE.out
 have hc:=Decidable.not_not.1 hc
 subst hc
 have HFIN:Hid (∀(k:Nat) (r:Except Rz.Er Rz.RS),k≤8*(1+(sl.xs.map (szT n)).sum) - 2→(resR bi (n+1)).1 ((x,sl):Nd×Sli (Tr n)) s=r→∀e w',Tl wn W0.heap.size wb O v6 k r s 0 a e w'→P e w'):=fun k r hk hr e w' hT=>by
  rw[hP,hr]
  exact(hT.mono hk).behind hbl
 have b0:wn.cell? ⟨w.heap.size,0,none⟩=some (.int .i64 x.kind):=cell_of_row wn _ 0 _ _ (0,0) hX
 have b1:wn.cell? ⟨w.heap.size,1,none⟩=some (.int .i64 x.pl):=cell_of_row wn _ 1 _ _ (0,0) hX
 have b2:wn.cell? ⟨w.heap.size,2,none⟩=some (.string x.name):=cell_of_row wn _ 2 _ _ (0,0) hX
 have b3:wn.cell? ⟨w.heap.size,3,none⟩=some (.int .u64 x.num):=cell_of_row wn _ 3 _ _ (0,0) hX
 have b4:wn.cell? ⟨w.heap.size,4,none⟩=some (.string x.op):=cell_of_row wn _ 4 _ _ (0,0) hX
 have b5:wn.cell? ⟨w.heap.size,5,none⟩=some kv:=cell_of_row wn _ 5 _ _ (0,0) hX
 have hlm:cr s≤100000000:=by unfold lim at hb;omega
 by_cases h3:x.kind=3
 ·have ku:=use_any wn W0.heap.size wb O s a v6 hn.mem hlm x kv false
  have hr:(resR bi (n+1)).1 ((x,sl):Nd×Sli (Tr n)) s=Rz.useR bi x.name x.pl false s:=by show(if x.kind=3 then _ else _)=_;rw[if_pos h3]
  have hf:=fun e w'=>HFIN.out 1 _ (by omega) hr e w'
  have HF:Hid (∀e w',Tl wn W0.heap.size wb O v6 1 (Rz.useR bi x.name x.pl false s) s 0 a e w'→P e w'):=hf
  rw[←hkv]
  clear h hb hd hn hX hP hxw hso hkt hft hks hE hB hsz hkv hbl HFIN hf hr hlm
  generalize Rz.useR bi x.name x.pl false s=r at *
  rw[h3] at b0 ku hwn ⊢
  go_enter Tryz.func37,Tryz.ntmps37
  go_upto_region 1 with fail
  rw[←hwn]
  clear hwn
  go_wp2_with fail
  refine ku.mono ?_
  intro e w1 hT
  have he:e = .returned (.tuple #[]):=hT.1
  subst he
  have HE:Hid (P (.returned (.tuple #[])) w1):=HF.out _ _ hT
  clear ku hT HF
  go_wp2_with fail
  go_end0
  exact HE.out
 by_cases h12:x.kind=12
 ·have hlen:1≤sl.xs.length:=hft.1 (by omega)
  obtain⟨ps,bd,hxs⟩:∃ps bd,sl.xs=ps++[bd]:=by
   rcases List.eq_nil_or_concat sl.xs with e | ⟨p,q,e⟩
   ·rw[e] at hlen;simp at hlen
   ·exact⟨p,q,by rw[e,List.concat_eq_append]⟩
  obtain⟨kb,off,hat,_⟩:=hso.cells (by rw[hxs];simp)
  obtain⟨sa,kc,sx⟩:=sl
  simp only at *
  subst hat
  subst hxs
  have ku:=function_any W0 n hB x kb off kc ps bd hso hks hxw.name wn wb O s a v6 hn hb (by omega)
  have hr:(resR bi (n+1)).1 ((x,⟨some ⟨kb,off,none⟩,kc,ps++[bd]⟩):Nd×Sli (Tr n)) s=functionR (ndR n) (resR bi n).2.2 x (ps++[bd]) s:=by show(if x.kind=3 then _ else if x.kind=12 then _ else _)=_;rw[if_neg h3,if_pos h12]
  have hf:=fun e w'=>HFIN.out _ _ (Nat.le_refl _) hr e w'
  rw[show(ps++[bd]).length=ps.length+1 by simp] at hkv
  have HF:Hid (∀e w',Tl wn W0.heap.size wb O v6 (8*(1+((ps++[bd]).map (szT n)).sum) - 2) (functionR (ndR n) (resR bi n).2.2 x (ps++[bd]) s) s 0 a e w'→P e w'):=hf
  have e1:(Value.slice (some ⟨kb,off,none⟩) (ps++[bd]).length kc)=kv:=by rw[hkv];simp
  rw[e1]
  rw[←hkv] at ku
  have j3:(x.kind == (3:Int))=false:=by simpa using h3
  clear h hb hd hn hX hP hxw hso hkt hft hks hE hB hsz hkv hbl HFIN hf hr hlm e1 hlen
  generalize functionR (ndR n) (resR bi n).2.2 x (ps++[bd]) s=r at *
  rw[h12] at b0 ku hwn j3 ⊢
  go_enter Tryz.func37,Tryz.ntmps37
  go_upto_region 1 with fail
  rw[←hwn]
  clear hwn
  go_wp2_with fail
  refine ku.mono ?_
  intro e w1 hT
  have he:e = .returned (.tuple #[]):=hT.1
  subst he
  have HE:Hid (P (.returned (.tuple #[])) w1):=HF.out _ _ hT
  clear ku hT HF
  go_wp2_with fail
  go_end0
  exact HE.out
 by_cases h17:x.kind=17
 ·have hlen:1≤sl.xs.length:=hft.1 (by omega)
  obtain⟨t0,rs,hxs⟩:∃t0 rs,sl.xs=t0 :: rs:=by
   cases e:sl.xs with
   | nil=>rw[e] at hlen;simp at hlen
   | cons p q=>exact⟨p,q,rfl⟩
  obtain⟨kb,off,hat,_⟩:=hso.cells (by rw[hxs];simp)
  have hcap:=hso.len
  obtain⟨sa,kc,sx⟩:=sl
  simp only at *
  subst hat
  subst hxs
  obtain⟨kq,rfl⟩:∃kq,kc=kq+1:=⟨kc - 1,by simp only[List.length_cons] at hcap;omega⟩
  have hrq:rs.length≤kq:=by simp only[List.length_cons] at hcap;omega
  have hwn0:Below W0.heap.size W0 wn:=hn.bel
  obtain⟨y,b',off',k1,k2,x0,x1,x2,x3,x4,x5⟩:=kid_at (hso.kept (Sc.cells_below hwn0)) (k:=0) (by simp)
  cases k1
  simp at k2
  subst k2
  simp only[Nat.zero_mul,Nat.add_zero] at x0 x1 x2 x3 x4 x5
  have hsum:((t0 :: rs).map (szT n)).sum=szT n t0+(rs.map (szT n)).sum:=by simp
  rw[hsum] at hb
  have hz0:=sz_pos n t0
  obtain⟨r1,hr1⟩:∃r1,r1=(if (ndT n t0).kind=3 then Rz.useR bi (ndT n t0).name (ndT n t0).pl true s else (resR bi n).1 t0 s):=⟨_,rfl⟩
  have hr:(resR bi (n+1)).1 ((x,⟨some ⟨kb,off,none⟩,kq+1,t0 :: rs⟩):Nd×Sli (Tr n)) s=r1.bind (eachP (resR bi n).1 rs):=by
   show(if x.kind=3 then _ else if x.kind=12 then _ else if x.kind=17∨x.kind=21 then _ else _)=_
   rw[if_neg h3,if_neg h12,if_pos (Or.inl h17),hr1,←nd_same]
   rfl
  have HREST:Hid (∀e w1,Tl wn W0.heap.size wb O v6 (8*szT n t0 - 2) r1 s 0 a e w1→e = .returned (.tuple #[])∧w1.cell? ⟨w.heap.size,5,none⟩=some (.slice (some ⟨kb,off,none⟩) (rs.length+1) (kq+1))∧Calls Tryz.prog 36 #[.pointer (some ⟨wb,0,none⟩),.slice (some ⟨kb,rsO off kq,none⟩) rs.length kq] w1 (fun e w'=>e = .returned (.tuple #[])∧P e w')):=fun e w1 hT=>by
   obtain⟨he,s1,c1,a1,ht1,hw1⟩:=hT
   have hX1:=nd_went h.mem (Nat.le_refl _) hbl hX hw1
   have hcr:=ht1.cr
   have hdp:=ht1.lk.dp
   refine⟨he,by rw[cell_of_row w1 _ 5 _ 25 (0,0) hX1];rw[hkv];simp,?_⟩
   refine(relT hn hw1 fun O1 o1=>all_any W0 n hE w1 wb O1 s1 c1 a1 v6 o1 ⟨some ⟨kb,rsO off kq,none⟩,kq,rs⟩ (kids_rest hso) (fun y hy=>hks y (List.mem_cons_of_mem _ hy)) (by simp only;omega) (by omega)).mono ?_
   rintro e2 w2 ⟨he2,s2,c2,a2,ht2,hw2⟩
   refine⟨he2,?_⟩
   refine HFIN.out (8*szT n t0 - 2+(8*(rs.map (szT n)).sum - 2*rs.length)) _ (by rw[hsum];omega) hr e2 w2 ⟨he2,s2,c2,a2,?_,hw2⟩
   exact Told.bind (f:=fun _=>r1) (g:=eachP (resR bi n).1 rs) ht1 ht2
  have hsl:∀w:World,(Instr.slice 23 (.slice (some ⟨kb,off,none⟩) (rs.length+1) (kq+1)) (some (.int .i64 1)) none none).run Tryz.prog w = .ok (.slice (some ⟨kb,rsO off kq,none⟩) rs.length kq) w:=fun w=>run_rest w kb off rs.length kq hrq
  have j3:(x.kind == (3:Int))=false:=by simpa using h3
  have j12:(x.kind == (12:Int))=false:=by simpa using h12
  have hlz:(0:Int)<(rs.length:Int)+1:=by omega
  have hkv2:kv = .slice (some ⟨kb,off,none⟩) (rs.length+1) (kq+1):=by rw[hkv];simp
  have e1:(Value.slice (some ⟨kb,off,none⟩) (t0 :: rs).length (kq+1))=kv:=hkv.symm
  rw[e1]
  subst hkv2
  have HU:Hid ((ndT n t0).kind=3→Calls Tryz.prog 59 #[.pointer (some ⟨wb,0,none⟩),.agg #[.int .i64 (ndT n t0).kind,.int .i64 (ndT n t0).pl,.string (ndT n t0).name,.int .u64 (ndT n t0).num,.string (ndT n t0).op,.slice (atT n t0) (nkT n t0) (capT n t0)],.bool true] wn (Tl wn W0.heap.size wb O v6 (8*szT n t0 - 2) r1 s 0 a)):=fun q=>by
   rw[hr1,if_pos q]
   exact(use_any wn W0.heap.size wb O s a v6 hn.mem hlm (ndT n t0) _ true).mono fun e w' hT=>hT.mono (by omega)
  have HEX:Hid (¬(ndT n t0).kind=3→Calls Tryz.prog 37 #[.pointer (some ⟨wb,0,none⟩),.agg #[.int .i64 (ndT n t0).kind,.int .i64 (ndT n t0).pl,.string (ndT n t0).name,.int .u64 (ndT n t0).num,.string (ndT n t0).op,.slice (atT n t0) (nkT n t0) (capT n t0)]] wn (Tl wn W0.heap.size wb O v6 (8*szT n t0 - 2) r1 s 0 a)):=fun q=>by
   rw[hr1,if_neg q]
   exact hE t0 (hks t0 (List.mem_cons_self ..)) wn wb O s 0 a v6 hn (by omega) (by omega) (Nat.zero_le _)
  clear h hb hd hn hX hP hxw hso hkt hft hks hE hB hsz hkv hbl HFIN hr hlm e1 hlen hcap hrq hwn0 hr1 hsum hz0
  generalize (ndT n t0).kind=r0' at *
  generalize (ndT n t0).pl=r1' at *
  generalize (ndT n t0).name=r2' at *
  generalize (ndT n t0).num=r3' at *
  generalize (ndT n t0).op=r4' at *
  generalize atT n t0=r5' at *
  generalize nkT n t0=r6' at *
  generalize capT n t0=r7' at *
  rw[h17] at b0 hwn j3 j12 ⊢
  by_cases q3:r0'=3
  ·have ku:=HU.out q3
   subst q3
   clear HU HEX
   go_enter Tryz.func37,Tryz.ntmps37
   go_upto_region 1 with fail
   rw[←hwn]
   clear hwn
   go_wp2_with fail
   refine ku.mono ?_
   intro e w1 hT
   obtain⟨rfl,b5',ka⟩:=HREST.out e w1 hT
   clear ku hT HREST x0 x1 x2 x3 x4 x5 b0 b1 b2 b3 b4 b5
   go_wp2_with fail
   refine ka.mono ?_
   rintro e2 w2 ⟨rfl,hp⟩
   have HE:Hid (P (.returned (.tuple #[])) w2):=hp
   clear ka hp
   go_wp2_with fail
   go_end0
   exact HE.out
  ·have ku:=HEX.out q3
   have jq:(r0' == (3:Int))=false:=by simpa using q3
   clear HU HEX
   go_enter Tryz.func37,Tryz.ntmps37
   go_upto_region 1 with fail
   rw[←hwn]
   clear hwn
   go_wp2_with fail
   refine ku.mono ?_
   intro e w1 hT
   obtain⟨rfl,b5',ka⟩:=HREST.out e w1 hT
   clear ku hT HREST x0 x1 x2 x3 x4 x5 b0 b1 b2 b3 b4 b5
   go_wp2_with fail
   refine ka.mono ?_
   rintro e2 w2 ⟨rfl,hp⟩
   have HE:Hid (P (.returned (.tuple #[])) w2):=hp
   clear ka hp
   go_wp2_with fail
   go_end0
   exact HE.out
 by_cases h21:x.kind=21
 ·have hlen:1≤sl.xs.length:=hft.1 (by omega)
  obtain⟨t0,rs,hxs⟩:∃t0 rs,sl.xs=t0 :: rs:=by
   cases e:sl.xs with
   | nil=>rw[e] at hlen;simp at hlen
   | cons p q=>exact⟨p,q,rfl⟩
  obtain⟨kb,off,hat,_⟩:=hso.cells (by rw[hxs];simp)
  have hcap:=hso.len
  obtain⟨sa,kc,sx⟩:=sl
  simp only at *
  subst hat
  subst hxs
  obtain⟨kq,rfl⟩:∃kq,kc=kq+1:=⟨kc - 1,by simp only[List.length_cons] at hcap;omega⟩
  have hrq:rs.length≤kq:=by simp only[List.length_cons] at hcap;omega
  have hwn0:Below W0.heap.size W0 wn:=hn.bel
  obtain⟨y,b',off',k1,k2,x0,x1,x2,x3,x4,x5⟩:=kid_at (hso.kept (Sc.cells_below hwn0)) (k:=0) (by simp)
  cases k1
  simp at k2
  subst k2
  simp only[Nat.zero_mul,Nat.add_zero] at x0 x1 x2 x3 x4 x5
  have hsum:((t0 :: rs).map (szT n)).sum=szT n t0+(rs.map (szT n)).sum:=by simp
  rw[hsum] at hb
  have hz0:=sz_pos n t0
  obtain⟨r1,hr1⟩:∃r1,r1=(if (ndT n t0).kind=3 then Rz.useR bi (ndT n t0).name (ndT n t0).pl true s else (resR bi n).1 t0 s):=⟨_,rfl⟩
  have hr:(resR bi (n+1)).1 ((x,⟨some ⟨kb,off,none⟩,kq+1,t0 :: rs⟩):Nd×Sli (Tr n)) s=r1.bind (eachP (resR bi n).1 rs):=by
   show(if x.kind=3 then _ else if x.kind=12 then _ else if x.kind=17∨x.kind=21 then _ else _)=_
   rw[if_neg h3,if_neg h12,if_pos (Or.inr h21),hr1,←nd_same]
   rfl
  have HREST:Hid (∀e w1,Tl wn W0.heap.size wb O v6 (8*szT n t0 - 2) r1 s 0 a e w1→e = .returned (.tuple #[])∧w1.cell? ⟨w.heap.size,5,none⟩=some (.slice (some ⟨kb,off,none⟩) (rs.length+1) (kq+1))∧Calls Tryz.prog 36 #[.pointer (some ⟨wb,0,none⟩),.slice (some ⟨kb,rsO off kq,none⟩) rs.length kq] w1 (fun e w'=>e = .returned (.tuple #[])∧P e w')):=fun e w1 hT=>by
   obtain⟨he,s1,c1,a1,ht1,hw1⟩:=hT
   have hX1:=nd_went h.mem (Nat.le_refl _) hbl hX hw1
   have hcr:=ht1.cr
   have hdp:=ht1.lk.dp
   refine⟨he,by rw[cell_of_row w1 _ 5 _ 25 (0,0) hX1];rw[hkv];simp,?_⟩
   refine(relT hn hw1 fun O1 o1=>all_any W0 n hE w1 wb O1 s1 c1 a1 v6 o1 ⟨some ⟨kb,rsO off kq,none⟩,kq,rs⟩ (kids_rest hso) (fun y hy=>hks y (List.mem_cons_of_mem _ hy)) (by simp only;omega) (by omega)).mono ?_
   rintro e2 w2 ⟨he2,s2,c2,a2,ht2,hw2⟩
   refine⟨he2,?_⟩
   refine HFIN.out (8*szT n t0 - 2+(8*(rs.map (szT n)).sum - 2*rs.length)) _ (by rw[hsum];omega) hr e2 w2 ⟨he2,s2,c2,a2,?_,hw2⟩
   exact Told.bind (f:=fun _=>r1) (g:=eachP (resR bi n).1 rs) ht1 ht2
  have hsl:∀w:World,(Instr.slice 23 (.slice (some ⟨kb,off,none⟩) (rs.length+1) (kq+1)) (some (.int .i64 1)) none none).run Tryz.prog w = .ok (.slice (some ⟨kb,rsO off kq,none⟩) rs.length kq) w:=fun w=>run_rest w kb off rs.length kq hrq
  have j3:(x.kind == (3:Int))=false:=by simpa using h3
  have j12:(x.kind == (12:Int))=false:=by simpa using h12
  have hlz:(0:Int)<(rs.length:Int)+1:=by omega
  have hkv2:kv = .slice (some ⟨kb,off,none⟩) (rs.length+1) (kq+1):=by rw[hkv];simp
  have e1:(Value.slice (some ⟨kb,off,none⟩) (t0 :: rs).length (kq+1))=kv:=hkv.symm
  rw[e1]
  subst hkv2
  have HU:Hid ((ndT n t0).kind=3→Calls Tryz.prog 59 #[.pointer (some ⟨wb,0,none⟩),.agg #[.int .i64 (ndT n t0).kind,.int .i64 (ndT n t0).pl,.string (ndT n t0).name,.int .u64 (ndT n t0).num,.string (ndT n t0).op,.slice (atT n t0) (nkT n t0) (capT n t0)],.bool true] wn (Tl wn W0.heap.size wb O v6 (8*szT n t0 - 2) r1 s 0 a)):=fun q=>by
   rw[hr1,if_pos q]
   exact(use_any wn W0.heap.size wb O s a v6 hn.mem hlm (ndT n t0) _ true).mono fun e w' hT=>hT.mono (by omega)
  have HEX:Hid (¬(ndT n t0).kind=3→Calls Tryz.prog 37 #[.pointer (some ⟨wb,0,none⟩),.agg #[.int .i64 (ndT n t0).kind,.int .i64 (ndT n t0).pl,.string (ndT n t0).name,.int .u64 (ndT n t0).num,.string (ndT n t0).op,.slice (atT n t0) (nkT n t0) (capT n t0)]] wn (Tl wn W0.heap.size wb O v6 (8*szT n t0 - 2) r1 s 0 a)):=fun q=>by
   rw[hr1,if_neg q]
   exact hE t0 (hks t0 (List.mem_cons_self ..)) wn wb O s 0 a v6 hn (by omega) (by omega) (Nat.zero_le _)
  clear h hb hd hn hX hP hxw hso hkt hft hks hE hB hsz hkv hbl HFIN hr hlm e1 hlen hcap hrq hwn0 hr1 hsum hz0
  generalize (ndT n t0).kind=r0' at *
  generalize (ndT n t0).pl=r1' at *
  generalize (ndT n t0).name=r2' at *
  generalize (ndT n t0).num=r3' at *
  generalize (ndT n t0).op=r4' at *
  generalize atT n t0=r5' at *
  generalize nkT n t0=r6' at *
  generalize capT n t0=r7' at *
  rw[h21] at b0 hwn j3 j12 ⊢
  by_cases q3:r0'=3
  ·have ku:=HU.out q3
   subst q3
   clear HU HEX
   go_enter Tryz.func37,Tryz.ntmps37
   go_upto_region 1 with fail
   rw[←hwn]
   clear hwn
   go_wp2_with fail
   refine ku.mono ?_
   intro e w1 hT
   obtain⟨rfl,b5',ka⟩:=HREST.out e w1 hT
   clear ku hT HREST x0 x1 x2 x3 x4 x5 b0 b1 b2 b3 b4 b5
   go_wp2_with fail
   refine ka.mono ?_
   rintro e2 w2 ⟨rfl,hp⟩
   have HE:Hid (P (.returned (.tuple #[])) w2):=hp
   clear ka hp
   go_wp2_with fail
   go_end0
   exact HE.out
  ·have ku:=HEX.out q3
   have jq:(r0' == (3:Int))=false:=by simpa using q3
   clear HU HEX
   go_enter Tryz.func37,Tryz.ntmps37
   go_upto_region 1 with fail
   rw[←hwn]
   clear hwn
   go_wp2_with fail
   refine ku.mono ?_
   intro e w1 hT
   obtain⟨rfl,b5',ka⟩:=HREST.out e w1 hT
   clear ku hT HREST x0 x1 x2 x3 x4 x5 b0 b1 b2 b3 b4 b5
   go_wp2_with fail
   refine ka.mono ?_
   rintro e2 w2 ⟨rfl,hp⟩
   have HE:Hid (P (.returned (.tuple #[])) w2):=hp
   clear ka hp
   go_wp2_with fail
   go_end0
   exact HE.out
 have ku:=all_any W0 n hE wn wb O s 0 a v6 hn sl hso hks (by omega) (by omega)
 have hr:(resR bi (n+1)).1 ((x,sl):Nd×Sli (Tr n)) s=eachP (resR bi n).1 sl.xs s:=by
  show(if x.kind=3 then _ else if x.kind=12 then _ else if x.kind=17∨x.kind=21 then _ else _)=_
  rw[if_neg h3,if_neg h12,if_neg (by omega)]
 have hf:=fun e w'=>HFIN.out (8*(sl.xs.map (szT n)).sum - 2*sl.xs.length) _ (by omega) hr e w'
 have HF:Hid (∀e w',Tl wn W0.heap.size wb O v6 (8*(sl.xs.map (szT n)).sum - 2*sl.xs.length) (eachP (resR bi n).1 sl.xs s) s 0 a e w'→P e w'):=hf
 rw[←hkv] at ku ⊢
 have j3:(x.kind == (3:Int))=false:=by simpa using h3
 have j12:(x.kind == (12:Int))=false:=by simpa using h12
 have j17:(x.kind == (17:Int))=false:=by simpa using h17
 have j21:(x.kind == (21:Int))=false:=by simpa using h21
 clear h hb hd hn hX hP hxw hso hkt hft hks hE hB hsz hkv hbl HFIN hf hr hlm h3 h12 h17 h21
 generalize eachP (resR bi n).1 sl.xs s=r at *
 generalize x.kind=kd at *
 go_enter Tryz.func37,Tryz.ntmps37
 go_upto_region 1 with fail
 rw[←hwn]
 clear hwn
 go_wp2_with fail
 refine ku.mono ?_
 intro e w1 hT
 have he:e = .returned (.tuple #[]):=hT.1
 subst he
 have HE:Hid (P (.returned (.tuple #[])) w1):=HF.out _ _ hT
 clear ku hT HF
 go_wp2_with fail
 go_end0
 exact HE.out
end Go.Proofs.YtihmdcdifakepaaGreat.Rv.Rx
