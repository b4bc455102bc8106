/- NO -/
import Derived.Test.YtihmdcdifakepaaGreatNN
set_option linter.unusedVariables false
set_option linter.unusedSimpArgs false
set_option maxRecDepth 100000
set_option maxHeartbeats 40000000
namespace Go.Proofs.YtihmdcdifakepaaGreat.Rv
open Go.RowKit Go.Proofs.YtihmdcdifakepaaGreat.Sc Go.Proofs.YtihmdcdifakepaaGreat.Rz
def usR (u:Except Rz.Er (Option Nat×Rz.RS)):Except Rz.Er Rz.RS:=match u with
 | .error e => .error e
 | .ok (_,s1) => .ok s1
structure NoK (W0:World)(n:Nat)(w wb:World)(rb:Nat)(O:Nat→Prop)(s:Rz.RS)(v6:Value)(x:Nd)(sl:Sli (Tr n)):Prop where
 hN:∀m,m≤n→NC W0 m
 ht:okF (n+1) W0 ((x,sl):Nd×Sli (Tr n))
 on:On W0 rb O s v6 wb
 hb:cr s+8+8*(sl.xs.map (szT n)).sum≤lim
 hd:dp s+4+4*n≤lim
 bl:Below w.heap.size w wb
theorem NoK.kids {W0:World}{n:Nat}{w wb:World}{rb:Nat}{O:Nat→Prop}{s:Rz.RS}{v6:Value}{x:Nd}{sl:Sli (Tr n)}(h:NoK W0 n w wb rb O s v6 x sl):sl.ok (encT n) 6 W0∧(∀y∈sl.xs,okF n W0 y)∧x.name.size≤maxLen:=⟨h.ht.1.2.1,fun y hy=>⟨h.ht.1.2.2 y hy,h.ht.2.2.2.2 y hy⟩,h.ht.1.1.name⟩
theorem node_3 {W0:World}{n:Nat}{w wb:World}{rb:Nat}{O:Nat→Prop}{s:Rz.RS}{v6:Value}{x:Nd}{sl:Sli (Tr n)}(H:NoK W0 n w wb rb O s v6 x sl)(hwb:wb=w.alloc (.cells #[.int .i64 x.kind,.int .i64 x.pl,.string x.name,.int .u64 x.num,.string x.op,.slice sl.at' sl.xs.length sl.cap] 25))(hk:x.kind=3) :
  Calls Tryz.prog 72 #[.pointer (some ⟨rb,0,none⟩),.agg #[.int .i64 x.kind,.int .i64 x.pl,.string x.name,.int .u64 x.num,.string x.op,.slice sl.at' sl.xs.length sl.cap]] w (Out w W0.heap.size rb O v6 (.tuple #[]) ((resP bi (n+1)).1 ((x,sl):Nd×Sli (Tr n)) s)):=by
 obtain⟨g1,g2,g3⟩:=H.kids
 have hX:NdB w.heap.size x (.slice sl.at' sl.xs.length sl.cap) wb:=by rw[hwb];exact at_new _ _
 obtain⟨R,hR⟩:∃R,R=(resP bi (n+1)).1 ((x,sl):Nd×Sli (Tr n)) s:=⟨_,rfl⟩
 rw[←hR]
 have hR2:R=usR (useP bi x.name x.pl s):=by
  rw[hR,resP]
  simp only
  rw[if_pos hk]
  cases useP bi x.name x.pl s with
  | error e=>rfl
  | ok p=>rfl
 have kc:Calls Tryz.prog 80 #[.pointer (some ⟨rb,0,none⟩),.agg #[.int .i64 x.kind,.int .i64 x.pl,.string x.name,.int .u64 x.num,.string x.op,.slice sl.at' sl.xs.length sl.cap]] wb (UOut wb W0.heap.size rb O v6 (useP bi x.name x.pl s)):=use_any wb W0.heap.size rb O s v6 H.on.mem (bg_of (by have:=H.hb;omega) (by have:=H.hd;omega)) x.kind x.pl x.num x.name x.op _ g3
 generalize useP bi x.name x.pl s=U at *
 have HR:Hid (R=usR U):=hR2
 clear hR2
 have HB:Hid (Below w.heap.size w wb):=H.bl
 obtain⟨a0,a1,a2,a3,a4,a5⟩:=hX.cs
 clear hX H g1 g2 g3 hR
 rw[hk] at a0 hwb kc ⊢
 clear hk
 generalize sl.at'=ka at *
 generalize sl.cap=kc' at *
 generalize sl.xs.length=kl at *
 go_enter Tryz.func72,Tryz.ntmps72
 go_upto_region 1 with fail
 rw[←hwb]
 clear hwb
 go_wp2_with fail
 refine kc.mono ?_
 intro e w1 ho
 clear kc a0 a1 a2 a3 a4 a5
 cases U with
 | error er =>
   obtain⟨rfl,g9⟩:=ho
   refine⟨rfl,?_⟩
   rw[HR.out]
   exact⟨rfl,(Chg.of_below HB.out).trans g9 (fun _ _ q=>q)⟩
 | ok p =>
   obtain⟨v,s'⟩:=p
   obtain⟨rfl,g9⟩:=ho
   have HG:Hid (Went w W0.heap.size rb O s' v6 w1):=g9.behind HB.out
   clear g9
   go_wp2_with fail
   go_end0
   rw[HR.out]
   exact⟨rfl,HG.out⟩
theorem node_21 {W0:World}{n:Nat}{w wb:World}{rb:Nat}{O:Nat→Prop}{s:Rz.RS}{v6:Value}{x:Nd}{sl:Sli (Tr n)}(H:NoK W0 n w wb rb O s v6 x sl)(hwb:wb=w.alloc (.cells #[.int .i64 x.kind,.int .i64 x.pl,.string x.name,.int .u64 x.num,.string x.op,.slice sl.at' sl.xs.length sl.cap] 25))(hk:x.kind=21) :
  Calls Tryz.prog 72 #[.pointer (some ⟨rb,0,none⟩),.agg #[.int .i64 x.kind,.int .i64 x.pl,.string x.name,.int .u64 x.num,.string x.op,.slice sl.at' sl.xs.length sl.cap]] w (Out w W0.heap.size rb O v6 (.tuple #[]) ((resP bi (n+1)).1 ((x,sl):Nd×Sli (Tr n)) s)):=by
 obtain⟨g1,g2,g3⟩:=H.kids
 have hX:NdB w.heap.size x (.slice sl.at' sl.xs.length sl.cap) wb:=by rw[hwb];exact at_new _ _
 obtain⟨R,hR⟩:∃R,R=(resP bi (n+1)).1 ((x,sl):Nd×Sli (Tr n)) s:=⟨_,rfl⟩
 rw[←hR]
 have hR2:R=giveP bi (ndR n) (resP bi n).1 sl.xs s:=by
  rw[hR,resP]
  simp only
  rw[if_neg (by rw[hk];decide),if_pos (by simp[hk])]
 have kc:Calls Tryz.prog 81 #[.pointer (some ⟨rb,0,none⟩),.agg #[.int .i64 x.kind,.int .i64 x.pl,.string x.name,.int .u64 x.num,.string x.op,.slice sl.at' sl.xs.length sl.cap]] wb (Out wb W0.heap.size rb O v6 (.tuple #[]) R):=by
  rw[hR2]
  clear hR hR2 hX hwb
  obtain⟨ka,kc,kx⟩:=sl
  obtain⟨t0,r0,rfl⟩:=cons_of_len (l:=kx) (H.ht.2.1 (by rw[hk];simp))
  have q:=give_any W0 n (H.hN n (Nat.le_refl _)) wb rb O s v6 H.on x ka kc t0 r0 g1 g2 (by have:=H.hb;simp only at this ⊢;omega) (by have:=H.hd;omega)
  exact q
 clear hR2
 have HB:Hid (Below w.heap.size w wb):=H.bl
 obtain⟨a0,a1,a2,a3,a4,a5⟩:=hX.cs
 clear hX H g1 g2 g3 hR
 rw[hk] at a0 hwb kc ⊢
 clear hk
 generalize sl.at'=ka at *
 generalize sl.cap=kc' at *
 generalize sl.xs.length=kl at *
 go_enter Tryz.func72,Tryz.ntmps72
 go_upto_region 1 with fail
 rw[←hwb]
 clear hwb
 go_wp2_with fail
 refine kc.mono ?_
 intro e w1 ho
 clear kc a0 a1 a2 a3 a4 a5
 cases R with
 | error er =>
   obtain⟨rfl,g9⟩:=ho
   exact⟨rfl,rfl,(Chg.of_below HB.out).trans g9 (fun _ _ q=>q)⟩
 | ok s' =>
   obtain⟨rfl,g9⟩:=ho
   have HG:Hid (Went w W0.heap.size rb O s' v6 w1):=g9.behind HB.out
   clear g9
   go_wp2_with fail
   go_end0
   exact⟨rfl,HG.out⟩
theorem node_17 {W0:World}{n:Nat}{w wb:World}{rb:Nat}{O:Nat→Prop}{s:Rz.RS}{v6:Value}{x:Nd}{sl:Sli (Tr n)}(H:NoK W0 n w wb rb O s v6 x sl)(hwb:wb=w.alloc (.cells #[.int .i64 x.kind,.int .i64 x.pl,.string x.name,.int .u64 x.num,.string x.op,.slice sl.at' sl.xs.length sl.cap] 25))(hk:x.kind=17) :
  Calls Tryz.prog 72 #[.pointer (some ⟨rb,0,none⟩),.agg #[.int .i64 x.kind,.int .i64 x.pl,.string x.name,.int .u64 x.num,.string x.op,.slice sl.at' sl.xs.length sl.cap]] w (Out w W0.heap.size rb O v6 (.tuple #[]) ((resP bi (n+1)).1 ((x,sl):Nd×Sli (Tr n)) s)):=by
 obtain⟨g1,g2,g3⟩:=H.kids
 have hX:NdB w.heap.size x (.slice sl.at' sl.xs.length sl.cap) wb:=by rw[hwb];exact at_new _ _
 obtain⟨R,hR⟩:∃R,R=(resP bi (n+1)).1 ((x,sl):Nd×Sli (Tr n)) s:=⟨_,rfl⟩
 rw[←hR]
 have hR2:R=giveP bi (ndR n) (resP bi n).1 sl.xs s:=by
  rw[hR,resP]
  simp only
  rw[if_neg (by rw[hk];decide),if_pos (by simp[hk])]
 have kc:Calls Tryz.prog 81 #[.pointer (some ⟨rb,0,none⟩),.agg #[.int .i64 x.kind,.int .i64 x.pl,.string x.name,.int .u64 x.num,.string x.op,.slice sl.at' sl.xs.length sl.cap]] wb (Out wb W0.heap.size rb O v6 (.tuple #[]) R):=by
  rw[hR2]
  clear hR hR2 hX hwb
  obtain⟨ka,kc,kx⟩:=sl
  obtain⟨t0,r0,rfl⟩:=cons_of_len (l:=kx) (H.ht.2.1 (by rw[hk];simp))
  have q:=give_any W0 n (H.hN n (Nat.le_refl _)) wb rb O s v6 H.on x ka kc t0 r0 g1 g2 (by have:=H.hb;simp only at this ⊢;omega) (by have:=H.hd;omega)
  exact q
 clear hR2
 have HB:Hid (Below w.heap.size w wb):=H.bl
 obtain⟨a0,a1,a2,a3,a4,a5⟩:=hX.cs
 clear hX H g1 g2 g3 hR
 rw[hk] at a0 hwb kc ⊢
 clear hk
 generalize sl.at'=ka at *
 generalize sl.cap=kc' at *
 generalize sl.xs.length=kl at *
 go_enter Tryz.func72,Tryz.ntmps72
 go_upto_region 1 with fail
 rw[←hwb]
 clear hwb
 go_wp2_with fail
 refine kc.mono ?_
 intro e w1 ho
 clear kc a0 a1 a2 a3 a4 a5
 cases R with
 | error er =>
   obtain⟨rfl,g9⟩:=ho
   exact⟨rfl,rfl,(Chg.of_below HB.out).trans g9 (fun _ _ q=>q)⟩
 | ok s' =>
   obtain⟨rfl,g9⟩:=ho
   have HG:Hid (Went w W0.heap.size rb O s' v6 w1):=g9.behind HB.out
   clear g9
   go_wp2_with fail
   go_end0
   exact⟨rfl,HG.out⟩
theorem node_12 {W0:World}{n:Nat}{w wb:World}{rb:Nat}{O:Nat→Prop}{s:Rz.RS}{v6:Value}{x:Nd}{sl:Sli (Tr n)}(H:NoK W0 n w wb rb O s v6 x sl)(hwb:wb=w.alloc (.cells #[.int .i64 x.kind,.int .i64 x.pl,.string x.name,.int .u64 x.num,.string x.op,.slice sl.at' sl.xs.length sl.cap] 25))(hk:x.kind=12) :
  Calls Tryz.prog 72 #[.pointer (some ⟨rb,0,none⟩),.agg #[.int .i64 x.kind,.int .i64 x.pl,.string x.name,.int .u64 x.num,.string x.op,.slice sl.at' sl.xs.length sl.cap]] w (Out w W0.heap.size rb O v6 (.tuple #[]) ((resP bi (n+1)).1 ((x,sl):Nd×Sli (Tr n)) s)):=by
 obtain⟨g1,g2,g3⟩:=H.kids
 have hX:NdB w.heap.size x (.slice sl.at' sl.xs.length sl.cap) wb:=by rw[hwb];exact at_new _ _
 obtain⟨R,hR⟩:∃R,R=(resP bi (n+1)).1 ((x,sl):Nd×Sli (Tr n)) s:=⟨_,rfl⟩
 rw[←hR]
 have hR2:R=functionP (ndR n) (resP bi n).2 x sl.xs s:=by
  rw[hR,resP]
  simp only
  rw[if_neg (by rw[hk];decide),if_neg (by rw[hk];decide),if_pos (by simp[hk])]
 have kc:Calls Tryz.prog 82 #[.pointer (some ⟨rb,0,none⟩),.agg #[.int .i64 x.kind,.int .i64 x.pl,.string x.name,.int .u64 x.num,.string x.op,.slice sl.at' sl.xs.length sl.cap]] wb (Out wb W0.heap.size rb O v6 (.tuple #[]) R):=by
  rw[hR2]
  clear hR hR2 hX hwb
  exact function_any W0 n H.hN wb rb O s v6 H.on x g3 sl g1 g2 (H.ht.2.1 (by rw[hk];simp)) H.hb H.hd
 clear hR2
 have HB:Hid (Below w.heap.size w wb):=H.bl
 obtain⟨a0,a1,a2,a3,a4,a5⟩:=hX.cs
 clear hX H g1 g2 g3 hR
 rw[hk] at a0 hwb kc ⊢
 clear hk
 generalize sl.at'=ka at *
 generalize sl.cap=kc' at *
 generalize sl.xs.length=kl at *
 go_enter Tryz.func72,Tryz.ntmps72
 go_upto_region 1 with fail
 rw[←hwb]
 clear hwb
 go_wp2_with fail
 refine kc.mono ?_
 intro e w1 ho
 clear kc a0 a1 a2 a3 a4 a5
 cases R with
 | error er =>
   obtain⟨rfl,g9⟩:=ho
   exact⟨rfl,rfl,(Chg.of_below HB.out).trans g9 (fun _ _ q=>q)⟩
 | ok s' =>
   obtain⟨rfl,g9⟩:=ho
   have HG:Hid (Went w W0.heap.size rb O s' v6 w1):=g9.behind HB.out
   clear g9
   go_wp2_with fail
   go_end0
   exact⟨rfl,HG.out⟩
theorem node_33 {W0:World}{n:Nat}{w wb:World}{rb:Nat}{O:Nat→Prop}{s:Rz.RS}{v6:Value}{x:Nd}{sl:Sli (Tr n)}(H:NoK W0 n w wb rb O s v6 x sl)(hwb:wb=w.alloc (.cells #[.int .i64 x.kind,.int .i64 x.pl,.string x.name,.int .u64 x.num,.string x.op,.slice sl.at' sl.xs.length sl.cap] 25))(hk:x.kind=33) :
  Calls Tryz.prog 72 #[.pointer (some ⟨rb,0,none⟩),.agg #[.int .i64 x.kind,.int .i64 x.pl,.string x.name,.int .u64 x.num,.string x.op,.slice sl.at' sl.xs.length sl.cap]] w (Out w W0.heap.size rb O v6 (.tuple #[]) ((resP bi (n+1)).1 ((x,sl):Nd×Sli (Tr n)) s)):=by
 obtain⟨g1,g2,g3⟩:=H.kids
 have hX:NdB w.heap.size x (.slice sl.at' sl.xs.length sl.cap) wb:=by rw[hwb];exact at_new _ _
 obtain⟨R,hR⟩:∃R,R=(resP bi (n+1)).1 ((x,sl):Nd×Sli (Tr n)) s:=⟨_,rfl⟩
 rw[←hR]
 have hR2:R=functionP (ndR n) (resP bi n).2 x sl.xs s:=by
  rw[hR,resP]
  simp only
  rw[if_neg (by rw[hk];decide),if_neg (by rw[hk];decide),if_pos (by simp[hk])]
 have kc:Calls Tryz.prog 82 #[.pointer (some ⟨rb,0,none⟩),.agg #[.int .i64 x.kind,.int .i64 x.pl,.string x.name,.int .u64 x.num,.string x.op,.slice sl.at' sl.xs.length sl.cap]] wb (Out wb W0.heap.size rb O v6 (.tuple #[]) R):=by
  rw[hR2]
  clear hR hR2 hX hwb
  exact function_any W0 n H.hN wb rb O s v6 H.on x g3 sl g1 g2 (H.ht.2.1 (by rw[hk];simp)) H.hb H.hd
 clear hR2
 have HB:Hid (Below w.heap.size w wb):=H.bl
 obtain⟨a0,a1,a2,a3,a4,a5⟩:=hX.cs
 clear hX H g1 g2 g3 hR
 rw[hk] at a0 hwb kc ⊢
 clear hk
 generalize sl.at'=ka at *
 generalize sl.cap=kc' at *
 generalize sl.xs.length=kl at *
 go_enter Tryz.func72,Tryz.ntmps72
 go_upto_region 1 with fail
 rw[←hwb]
 clear hwb
 go_wp2_with fail
 refine kc.mono ?_
 intro e w1 ho
 clear kc a0 a1 a2 a3 a4 a5
 cases R with
 | error er =>
   obtain⟨rfl,g9⟩:=ho
   exact⟨rfl,rfl,(Chg.of_below HB.out).trans g9 (fun _ _ q=>q)⟩
 | ok s' =>
   obtain⟨rfl,g9⟩:=ho
   have HG:Hid (Went w W0.heap.size rb O s' v6 w1):=g9.behind HB.out
   clear g9
   go_wp2_with fail
   go_end0
   exact⟨rfl,HG.out⟩
theorem node_44 {W0:World}{n:Nat}{w wb:World}{rb:Nat}{O:Nat→Prop}{s:Rz.RS}{v6:Value}{x:Nd}{sl:Sli (Tr n)}(H:NoK W0 n w wb rb O s v6 x sl)(hwb:wb=w.alloc (.cells #[.int .i64 x.kind,.int .i64 x.pl,.string x.name,.int .u64 x.num,.string x.op,.slice sl.at' sl.xs.length sl.cap] 25))(hk:x.kind=44) :
  Calls Tryz.prog 72 #[.pointer (some ⟨rb,0,none⟩),.agg #[.int .i64 x.kind,.int .i64 x.pl,.string x.name,.int .u64 x.num,.string x.op,.slice sl.at' sl.xs.length sl.cap]] w (Out w W0.heap.size rb O v6 (.tuple #[]) ((resP bi (n+1)).1 ((x,sl):Nd×Sli (Tr n)) s)):=by
 obtain⟨g1,g2,g3⟩:=H.kids
 have hX:NdB w.heap.size x (.slice sl.at' sl.xs.length sl.cap) wb:=by rw[hwb];exact at_new _ _
 obtain⟨R,hR⟩:∃R,R=(resP bi (n+1)).1 ((x,sl):Nd×Sli (Tr n)) s:=⟨_,rfl⟩
 rw[←hR]
 have hR2:R=blockP (ndR n) (resP bi n).1 sl.xs s:=by
  rw[hR,resP]
  simp only
  rw[if_neg (by rw[hk];decide),if_neg (by rw[hk];decide),if_neg (by rw[hk];decide),if_pos (by simp[hk])]
 have kc:Calls Tryz.prog 16 #[.pointer (some ⟨rb,0,none⟩),.slice sl.at' sl.xs.length sl.cap] wb (Out wb W0.heap.size rb O v6 (.tuple #[]) R):=by
  rw[hR2]
  clear hR hR2 hX hwb
  exact block_any W0 n (H.hN n (Nat.le_refl _)) wb rb O s v6 H.on sl g1 g2 (by have:=H.hb;omega) (by have:=H.hd;omega)
 clear hR2
 have HB:Hid (Below w.heap.size w wb):=H.bl
 obtain⟨a0,a1,a2,a3,a4,a5⟩:=hX.cs
 clear hX H g1 g2 g3 hR
 rw[hk] at a0 hwb ⊢
 clear hk
 generalize sl.at'=ka at *
 generalize sl.cap=kc' at *
 generalize sl.xs.length=kl at *
 go_enter Tryz.func72,Tryz.ntmps72
 go_upto_region 1 with fail
 rw[←hwb]
 clear hwb
 go_wp2_with fail
 refine kc.mono ?_
 intro e w1 ho
 clear kc a0 a1 a2 a3 a4 a5
 cases R with
 | error er =>
   obtain⟨rfl,g9⟩:=ho
   exact⟨rfl,rfl,(Chg.of_below HB.out).trans g9 (fun _ _ q=>q)⟩
 | ok s' =>
   obtain⟨rfl,g9⟩:=ho
   have HG:Hid (Went w W0.heap.size rb O s' v6 w1):=g9.behind HB.out
   clear g9
   go_wp2_with fail
   go_end0
   exact⟨rfl,HG.out⟩
theorem node_43 {W0:World}{n:Nat}{w wb:World}{rb:Nat}{O:Nat→Prop}{s:Rz.RS}{v6:Value}{x:Nd}{sl:Sli (Tr n)}(H:NoK W0 n w wb rb O s v6 x sl)(hwb:wb=w.alloc (.cells #[.int .i64 x.kind,.int .i64 x.pl,.string x.name,.int .u64 x.num,.string x.op,.slice sl.at' sl.xs.length sl.cap] 25))(hk:x.kind=43) :
  Calls Tryz.prog 72 #[.pointer (some ⟨rb,0,none⟩),.agg #[.int .i64 x.kind,.int .i64 x.pl,.string x.name,.int .u64 x.num,.string x.op,.slice sl.at' sl.xs.length sl.cap]] w (Out w W0.heap.size rb O v6 (.tuple #[]) ((resP bi (n+1)).1 ((x,sl):Nd×Sli (Tr n)) s)):=by
 obtain⟨g1,g2,g3⟩:=H.kids
 have hX:NdB w.heap.size x (.slice sl.at' sl.xs.length sl.cap) wb:=by rw[hwb];exact at_new _ _
 obtain⟨R,hR⟩:∃R,R=(resP bi (n+1)).1 ((x,sl):Nd×Sli (Tr n)) s:=⟨_,rfl⟩
 rw[←hR]
 have hR2:R=tryP (ndR n) (resP bi n).1 (resP bi n).2 x sl.xs s:=by
  rw[hR,resP]
  simp only
  rw[if_neg (by rw[hk];decide),if_neg (by rw[hk];decide),if_neg (by rw[hk];decide),if_neg (by rw[hk];decide),if_pos (by simp[hk])]
 have kc:Calls Tryz.prog 83 #[.pointer (some ⟨rb,0,none⟩),.agg #[.int .i64 x.kind,.int .i64 x.pl,.string x.name,.int .u64 x.num,.string x.op,.slice sl.at' sl.xs.length sl.cap]] wb (Out wb W0.heap.size rb O v6 (.tuple #[]) R):=by
  rw[hR2]
  clear hR hR2 hX hwb
  exact try_any W0 n H.hN wb rb O s v6 H.on x g3 sl g1 g2 (H.ht.2.2.2.1 hk) H.hb H.hd
 clear hR2
 have HB:Hid (Below w.heap.size w wb):=H.bl
 obtain⟨a0,a1,a2,a3,a4,a5⟩:=hX.cs
 clear hX H g1 g2 g3 hR
 rw[hk] at a0 hwb kc ⊢
 clear hk
 generalize sl.at'=ka at *
 generalize sl.cap=kc' at *
 generalize sl.xs.length=kl at *
 go_enter Tryz.func72,Tryz.ntmps72
 go_upto_region 1 with fail
 rw[←hwb]
 clear hwb
 go_wp2_with fail
 refine kc.mono ?_
 intro e w1 ho
 clear kc a0 a1 a2 a3 a4 a5
 cases R with
 | error er =>
   obtain⟨rfl,g9⟩:=ho
   exact⟨rfl,rfl,(Chg.of_below HB.out).trans g9 (fun _ _ q=>q)⟩
 | ok s' =>
   obtain⟨rfl,g9⟩:=ho
   have HG:Hid (Went w W0.heap.size rb O s' v6 w1):=g9.behind HB.out
   clear g9
   go_wp2_with fail
   go_end0
   exact⟨rfl,HG.out⟩
theorem node_36 {W0:World}{n:Nat}{w wb:World}{rb:Nat}{O:Nat→Prop}{s:Rz.RS}{v6:Value}{x:Nd}{sl:Sli (Tr n)}(H:NoK W0 n w wb rb O s v6 x sl)(hwb:wb=w.alloc (.cells #[.int .i64 x.kind,.int .i64 x.pl,.string x.name,.int .u64 x.num,.string x.op,.slice sl.at' sl.xs.length sl.cap] 25))(hk:x.kind=36) :
  Calls Tryz.prog 72 #[.pointer (some ⟨rb,0,none⟩),.agg #[.int .i64 x.kind,.int .i64 x.pl,.string x.name,.int .u64 x.num,.string x.op,.slice sl.at' sl.xs.length sl.cap]] w (Out w W0.heap.size rb O v6 (.tuple #[]) ((resP bi (n+1)).1 ((x,sl):Nd×Sli (Tr n)) s)):=by
 obtain⟨g1,g2,g3⟩:=H.kids
 have hX:NdB w.heap.size x (.slice sl.at' sl.xs.length sl.cap) wb:=by rw[hwb];exact at_new _ _
 obtain⟨R,hR⟩:∃R,R=(resP bi (n+1)).1 ((x,sl):Nd×Sli (Tr n)) s:=⟨_,rfl⟩
 rw[←hR]
 have hR2:R=loopP (resP bi n).1 sl.xs s:=by
  rw[hR,resP]
  simp only
  rw[if_neg (by rw[hk];decide),if_neg (by rw[hk];decide),if_neg (by rw[hk];decide),if_neg (by rw[hk];decide),if_neg (by rw[hk];decide),if_pos (by simp[hk])]
 have kc:Calls Tryz.prog 84 #[.pointer (some ⟨rb,0,none⟩),.slice sl.at' sl.xs.length sl.cap] wb (Out wb W0.heap.size rb O v6 (.tuple #[]) R):=by
  rw[hR2]
  clear hR hR2 hX hwb
  exact loop_any W0 n (H.hN n (Nat.le_refl _)) wb rb O s v6 H.on sl g1 g2 (by have:=H.hb;omega) (by have:=H.hd;omega)
 clear hR2
 have HB:Hid (Below w.heap.size w wb):=H.bl
 obtain⟨a0,a1,a2,a3,a4,a5⟩:=hX.cs
 clear hX H g1 g2 g3 hR
 rw[hk] at a0 hwb ⊢
 clear hk
 generalize sl.at'=ka at *
 generalize sl.cap=kc' at *
 generalize sl.xs.length=kl at *
 go_enter Tryz.func72,Tryz.ntmps72
 go_upto_region 1 with fail
 rw[←hwb]
 clear hwb
 go_wp2_with fail
 refine kc.mono ?_
 intro e w1 ho
 clear kc a0 a1 a2 a3 a4 a5
 cases R with
 | error er =>
   obtain⟨rfl,g9⟩:=ho
   exact⟨rfl,rfl,(Chg.of_below HB.out).trans g9 (fun _ _ q=>q)⟩
 | ok s' =>
   obtain⟨rfl,g9⟩:=ho
   have HG:Hid (Went w W0.heap.size rb O s' v6 w1):=g9.behind HB.out
   clear g9
   go_wp2_with fail
   go_end0
   exact⟨rfl,HG.out⟩
theorem node_37 {W0:World}{n:Nat}{w wb:World}{rb:Nat}{O:Nat→Prop}{s:Rz.RS}{v6:Value}{x:Nd}{sl:Sli (Tr n)}(H:NoK W0 n w wb rb O s v6 x sl)(hwb:wb=w.alloc (.cells #[.int .i64 x.kind,.int .i64 x.pl,.string x.name,.int .u64 x.num,.string x.op,.slice sl.at' sl.xs.length sl.cap] 25))(hk:x.kind=37) :
  Calls Tryz.prog 72 #[.pointer (some ⟨rb,0,none⟩),.agg #[.int .i64 x.kind,.int .i64 x.pl,.string x.name,.int .u64 x.num,.string x.op,.slice sl.at' sl.xs.length sl.cap]] w (Out w W0.heap.size rb O v6 (.tuple #[]) ((resP bi (n+1)).1 ((x,sl):Nd×Sli (Tr n)) s)):=by
 obtain⟨g1,g2,g3⟩:=H.kids
 have hX:NdB w.heap.size x (.slice sl.at' sl.xs.length sl.cap) wb:=by rw[hwb];exact at_new _ _
 obtain⟨R,hR⟩:∃R,R=(resP bi (n+1)).1 ((x,sl):Nd×Sli (Tr n)) s:=⟨_,rfl⟩
 rw[←hR]
 have hR2:R=loopP (resP bi n).1 sl.xs s:=by
  rw[hR,resP]
  simp only
  rw[if_neg (by rw[hk];decide),if_neg (by rw[hk];decide),if_neg (by rw[hk];decide),if_neg (by rw[hk];decide),if_neg (by rw[hk];decide),if_pos (by simp[hk])]
 have kc:Calls Tryz.prog 84 #[.pointer (some ⟨rb,0,none⟩),.slice sl.at' sl.xs.length sl.cap] wb (Out wb W0.heap.size rb O v6 (.tuple #[]) R):=by
  rw[hR2]
  clear hR hR2 hX hwb
  exact loop_any W0 n (H.hN n (Nat.le_refl _)) wb rb O s v6 H.on sl g1 g2 (by have:=H.hb;omega) (by have:=H.hd;omega)
 clear hR2
 have HB:Hid (Below w.heap.size w wb):=H.bl
 obtain⟨a0,a1,a2,a3,a4,a5⟩:=hX.cs
 clear hX H g1 g2 g3 hR
 rw[hk] at a0 hwb ⊢
 clear hk
 generalize sl.at'=ka at *
 generalize sl.cap=kc' at *
 generalize sl.xs.length=kl at *
 go_enter Tryz.func72,Tryz.ntmps72
 go_upto_region 1 with fail
 rw[←hwb]
 clear hwb
 go_wp2_with fail
 refine kc.mono ?_
 intro e w1 ho
 clear kc a0 a1 a2 a3 a4 a5
 cases R with
 | error er =>
   obtain⟨rfl,g9⟩:=ho
   exact⟨rfl,rfl,(Chg.of_below HB.out).trans g9 (fun _ _ q=>q)⟩
 | ok s' =>
   obtain⟨rfl,g9⟩:=ho
   have HG:Hid (Went w W0.heap.size rb O s' v6 w1):=g9.behind HB.out
   clear g9
   go_wp2_with fail
   go_end0
   exact⟨rfl,HG.out⟩
theorem node_38 {W0:World}{n:Nat}{w wb:World}{rb:Nat}{O:Nat→Prop}{s:Rz.RS}{v6:Value}{x:Nd}{sl:Sli (Tr n)}(H:NoK W0 n w wb rb O s v6 x sl)(hwb:wb=w.alloc (.cells #[.int .i64 x.kind,.int .i64 x.pl,.string x.name,.int .u64 x.num,.string x.op,.slice sl.at' sl.xs.length sl.cap] 25))(hk:x.kind=38) :
  Calls Tryz.prog 72 #[.pointer (some ⟨rb,0,none⟩),.agg #[.int .i64 x.kind,.int .i64 x.pl,.string x.name,.int .u64 x.num,.string x.op,.slice sl.at' sl.xs.length sl.cap]] w (Out w W0.heap.size rb O v6 (.tuple #[]) ((resP bi (n+1)).1 ((x,sl):Nd×Sli (Tr n)) s)):=by
 obtain⟨g1,g2,g3⟩:=H.kids
 have hX:NdB w.heap.size x (.slice sl.at' sl.xs.length sl.cap) wb:=by rw[hwb];exact at_new _ _
 obtain⟨R,hR⟩:∃R,R=(resP bi (n+1)).1 ((x,sl):Nd×Sli (Tr n)) s:=⟨_,rfl⟩
 rw[←hR]
 have hR2:R=loopOfP (resP bi n).1 x sl.xs s:=by
  rw[hR,resP]
  simp only
  rw[if_neg (by rw[hk];decide),if_neg (by rw[hk];decide),if_neg (by rw[hk];decide),if_neg (by rw[hk];decide),if_neg (by rw[hk];decide),if_neg (by rw[hk];decide),if_pos (by simp[hk])]
 have kc:Calls Tryz.prog 85 #[.pointer (some ⟨rb,0,none⟩),.agg #[.int .i64 x.kind,.int .i64 x.pl,.string x.name,.int .u64 x.num,.string x.op,.slice sl.at' sl.xs.length sl.cap]] wb (Out wb W0.heap.size rb O v6 (.tuple #[]) R):=by
  rw[hR2]
  clear hR hR2 hX hwb
  exact loopOf_any W0 n (H.hN n (Nat.le_refl _)) wb rb O s v6 H.on x g3 sl g1 g2 (H.ht.2.2.1 hk) H.hb H.hd
 clear hR2
 have HB:Hid (Below w.heap.size w wb):=H.bl
 obtain⟨a0,a1,a2,a3,a4,a5⟩:=hX.cs
 clear hX H g1 g2 g3 hR
 rw[hk] at a0 hwb kc ⊢
 clear hk
 generalize sl.at'=ka at *
 generalize sl.cap=kc' at *
 generalize sl.xs.length=kl at *
 go_enter Tryz.func72,Tryz.ntmps72
 go_upto_region 1 with fail
 rw[←hwb]
 clear hwb
 go_wp2_with fail
 refine kc.mono ?_
 intro e w1 ho
 clear kc a0 a1 a2 a3 a4 a5
 cases R with
 | error er =>
   obtain⟨rfl,g9⟩:=ho
   exact⟨rfl,rfl,(Chg.of_below HB.out).trans g9 (fun _ _ q=>q)⟩
 | ok s' =>
   obtain⟨rfl,g9⟩:=ho
   have HG:Hid (Went w W0.heap.size rb O s' v6 w1):=g9.behind HB.out
   clear g9
   go_wp2_with fail
   go_end0
   exact⟨rfl,HG.out⟩
theorem node_41 {W0:World}{n:Nat}{w wb:World}{rb:Nat}{O:Nat→Prop}{s:Rz.RS}{v6:Value}{x:Nd}{sl:Sli (Tr n)}(H:NoK W0 n w wb rb O s v6 x sl)(hwb:wb=w.alloc (.cells #[.int .i64 x.kind,.int .i64 x.pl,.string x.name,.int .u64 x.num,.string x.op,.slice sl.at' sl.xs.length sl.cap] 25))(hk:x.kind=41) :
  Calls Tryz.prog 72 #[.pointer (some ⟨rb,0,none⟩),.agg #[.int .i64 x.kind,.int .i64 x.pl,.string x.name,.int .u64 x.num,.string x.op,.slice sl.at' sl.xs.length sl.cap]] w (Out w W0.heap.size rb O v6 (.tuple #[]) ((resP bi (n+1)).1 ((x,sl):Nd×Sli (Tr n)) s)):=by
 obtain⟨g1,g2,g3⟩:=H.kids
 have hX:NdB w.heap.size x (.slice sl.at' sl.xs.length sl.cap) wb:=by rw[hwb];exact at_new _ _
 obtain⟨R,hR⟩:∃R,R=(resP bi (n+1)).1 ((x,sl):Nd×Sli (Tr n)) s:=⟨_,rfl⟩
 rw[←hR]
 have hR2:R=labelP (resP bi n).1 x (leadT (n+1) ((x,sl):Nd×Sli (Tr n))) sl.xs s:=by
  rw[hR,resP]
  simp only
  rw[if_neg (by rw[hk];decide),if_neg (by rw[hk];decide),if_neg (by rw[hk];decide),if_neg (by rw[hk];decide),if_neg (by rw[hk];decide),if_neg (by rw[hk];decide),if_neg (by rw[hk];decide),if_pos (by simp[hk])]
 have kc:Calls Tryz.prog 86 #[.pointer (some ⟨rb,0,none⟩),.agg #[.int .i64 x.kind,.int .i64 x.pl,.string x.name,.int .u64 x.num,.string x.op,.slice sl.at' sl.xs.length sl.cap]] wb (Out wb W0.heap.size rb O v6 (.tuple #[]) R):=by
  rw[hR2]
  clear hR hR2 hX hwb
  exact label_any W0 n (H.hN n (Nat.le_refl _)) wb rb O s v6 H.on x sl H.ht H.hb H.hd
 clear hR2
 have HB:Hid (Below w.heap.size w wb):=H.bl
 obtain⟨a0,a1,a2,a3,a4,a5⟩:=hX.cs
 clear hX H g1 g2 g3 hR
 rw[hk] at a0 hwb kc ⊢
 clear hk
 generalize sl.at'=ka at *
 generalize sl.cap=kc' at *
 generalize sl.xs.length=kl at *
 go_enter Tryz.func72,Tryz.ntmps72
 go_upto_region 1 with fail
 rw[←hwb]
 clear hwb
 go_wp2_with fail
 refine kc.mono ?_
 intro e w1 ho
 clear kc a0 a1 a2 a3 a4 a5
 cases R with
 | error er =>
   obtain⟨rfl,g9⟩:=ho
   exact⟨rfl,rfl,(Chg.of_below HB.out).trans g9 (fun _ _ q=>q)⟩
 | ok s' =>
   obtain⟨rfl,g9⟩:=ho
   have HG:Hid (Went w W0.heap.size rb O s' v6 w1):=g9.behind HB.out
   clear g9
   go_wp2_with fail
   go_end0
   exact⟨rfl,HG.out⟩
theorem node_39 {W0:World}{n:Nat}{w wb:World}{rb:Nat}{O:Nat→Prop}{s:Rz.RS}{v6:Value}{x:Nd}{sl:Sli (Tr n)}(H:NoK W0 n w wb rb O s v6 x sl)(hwb:wb=w.alloc (.cells #[.int .i64 x.kind,.int .i64 x.pl,.string x.name,.int .u64 x.num,.string x.op,.slice sl.at' sl.xs.length sl.cap] 25))(hk:x.kind=39) :
  Calls Tryz.prog 72 #[.pointer (some ⟨rb,0,none⟩),.agg #[.int .i64 x.kind,.int .i64 x.pl,.string x.name,.int .u64 x.num,.string x.op,.slice sl.at' sl.xs.length sl.cap]] w (Out w W0.heap.size rb O v6 (.tuple #[]) ((resP bi (n+1)).1 ((x,sl):Nd×Sli (Tr n)) s)):=by
 obtain⟨g1,g2,g3⟩:=H.kids
 have hX:NdB w.heap.size x (.slice sl.at' sl.xs.length sl.cap) wb:=by rw[hwb];exact at_new _ _
 obtain⟨R,hR⟩:∃R,R=(resP bi (n+1)).1 ((x,sl):Nd×Sli (Tr n)) s:=⟨_,rfl⟩
 rw[←hR]
 have hR2:R=jumpP x s:=by
  rw[hR,resP]
  simp only
  rw[if_neg (by rw[hk];decide),if_neg (by rw[hk];decide),if_neg (by rw[hk];decide),if_neg (by rw[hk];decide),if_neg (by rw[hk];decide),if_neg (by rw[hk];decide),if_neg (by rw[hk];decide),if_neg (by rw[hk];decide),if_pos (by simp[hk])]
 have kc:Calls Tryz.prog 87 #[.pointer (some ⟨rb,0,none⟩),.agg #[.int .i64 x.kind,.int .i64 x.pl,.string x.name,.int .u64 x.num,.string x.op,.slice sl.at' sl.xs.length sl.cap]] wb (Out wb W0.heap.size rb O v6 (.tuple #[]) R):=by
  rw[hR2]
  clear hR hR2 hX hwb
  exact jump_any wb W0.heap.size rb O s v6 H.on.mem x _
 clear hR2
 have HB:Hid (Below w.heap.size w wb):=H.bl
 obtain⟨a0,a1,a2,a3,a4,a5⟩:=hX.cs
 clear hX H g1 g2 g3 hR
 rw[hk] at a0 hwb kc ⊢
 clear hk
 generalize sl.at'=ka at *
 generalize sl.cap=kc' at *
 generalize sl.xs.length=kl at *
 go_enter Tryz.func72,Tryz.ntmps72
 go_upto_region 1 with fail
 rw[←hwb]
 clear hwb
 go_wp2_with fail
 refine kc.mono ?_
 intro e w1 ho
 clear kc a0 a1 a2 a3 a4 a5
 cases R with
 | error er =>
   obtain⟨rfl,g9⟩:=ho
   exact⟨rfl,rfl,(Chg.of_below HB.out).trans g9 (fun _ _ q=>q)⟩
 | ok s' =>
   obtain⟨rfl,g9⟩:=ho
   have HG:Hid (Went w W0.heap.size rb O s' v6 w1):=g9.behind HB.out
   clear g9
   go_wp2_with fail
   go_end0
   exact⟨rfl,HG.out⟩
theorem node_40 {W0:World}{n:Nat}{w wb:World}{rb:Nat}{O:Nat→Prop}{s:Rz.RS}{v6:Value}{x:Nd}{sl:Sli (Tr n)}(H:NoK W0 n w wb rb O s v6 x sl)(hwb:wb=w.alloc (.cells #[.int .i64 x.kind,.int .i64 x.pl,.string x.name,.int .u64 x.num,.string x.op,.slice sl.at' sl.xs.length sl.cap] 25))(hk:x.kind=40) :
  Calls Tryz.prog 72 #[.pointer (some ⟨rb,0,none⟩),.agg #[.int .i64 x.kind,.int .i64 x.pl,.string x.name,.int .u64 x.num,.string x.op,.slice sl.at' sl.xs.length sl.cap]] w (Out w W0.heap.size rb O v6 (.tuple #[]) ((resP bi (n+1)).1 ((x,sl):Nd×Sli (Tr n)) s)):=by
 obtain⟨g1,g2,g3⟩:=H.kids
 have hX:NdB w.heap.size x (.slice sl.at' sl.xs.length sl.cap) wb:=by rw[hwb];exact at_new _ _
 obtain⟨R,hR⟩:∃R,R=(resP bi (n+1)).1 ((x,sl):Nd×Sli (Tr n)) s:=⟨_,rfl⟩
 rw[←hR]
 have hR2:R=jumpP x s:=by
  rw[hR,resP]
  simp only
  rw[if_neg (by rw[hk];decide),if_neg (by rw[hk];decide),if_neg (by rw[hk];decide),if_neg (by rw[hk];decide),if_neg (by rw[hk];decide),if_neg (by rw[hk];decide),if_neg (by rw[hk];decide),if_neg (by rw[hk];decide),if_pos (by simp[hk])]
 have kc:Calls Tryz.prog 87 #[.pointer (some ⟨rb,0,none⟩),.agg #[.int .i64 x.kind,.int .i64 x.pl,.string x.name,.int .u64 x.num,.string x.op,.slice sl.at' sl.xs.length sl.cap]] wb (Out wb W0.heap.size rb O v6 (.tuple #[]) R):=by
  rw[hR2]
  clear hR hR2 hX hwb
  exact jump_any wb W0.heap.size rb O s v6 H.on.mem x _
 clear hR2
 have HB:Hid (Below w.heap.size w wb):=H.bl
 obtain⟨a0,a1,a2,a3,a4,a5⟩:=hX.cs
 clear hX H g1 g2 g3 hR
 rw[hk] at a0 hwb kc ⊢
 clear hk
 generalize sl.at'=ka at *
 generalize sl.cap=kc' at *
 generalize sl.xs.length=kl at *
 go_enter Tryz.func72,Tryz.ntmps72
 go_upto_region 1 with fail
 rw[←hwb]
 clear hwb
 go_wp2_with fail
 refine kc.mono ?_
 intro e w1 ho
 clear kc a0 a1 a2 a3 a4 a5
 cases R with
 | error er =>
   obtain⟨rfl,g9⟩:=ho
   exact⟨rfl,rfl,(Chg.of_below HB.out).trans g9 (fun _ _ q=>q)⟩
 | ok s' =>
   obtain⟨rfl,g9⟩:=ho
   have HG:Hid (Went w W0.heap.size rb O s' v6 w1):=g9.behind HB.out
   clear g9
   go_wp2_with fail
   go_end0
   exact⟨rfl,HG.out⟩
theorem node_34 {W0:World}{n:Nat}{w wb:World}{rb:Nat}{O:Nat→Prop}{s:Rz.RS}{v6:Value}{x:Nd}{sl:Sli (Tr n)}(H:NoK W0 n w wb rb O s v6 x sl)(hwb:wb=w.alloc (.cells #[.int .i64 x.kind,.int .i64 x.pl,.string x.name,.int .u64 x.num,.string x.op,.slice sl.at' sl.xs.length sl.cap] 25))(hk:x.kind=34) :
  Calls Tryz.prog 72 #[.pointer (some ⟨rb,0,none⟩),.agg #[.int .i64 x.kind,.int .i64 x.pl,.string x.name,.int .u64 x.num,.string x.op,.slice sl.at' sl.xs.length sl.cap]] w (Out w W0.heap.size rb O v6 (.tuple #[]) ((resP bi (n+1)).1 ((x,sl):Nd×Sli (Tr n)) s)):=by
 obtain⟨g1,g2,g3⟩:=H.kids
 have hX:NdB w.heap.size x (.slice sl.at' sl.xs.length sl.cap) wb:=by rw[hwb];exact at_new _ _
 obtain⟨R,hR⟩:∃R,R=(resP bi (n+1)).1 ((x,sl):Nd×Sli (Tr n)) s:=⟨_,rfl⟩
 rw[←hR]
 have hR2:R=leaveP (resP bi n).1 x sl.xs s:=by
  rw[hR,resP]
  simp only
  rw[if_neg (by rw[hk];decide),if_neg (by rw[hk];decide),if_neg (by rw[hk];decide),if_neg (by rw[hk];decide),if_neg (by rw[hk];decide),if_neg (by rw[hk];decide),if_neg (by rw[hk];decide),if_neg (by rw[hk];decide),if_neg (by rw[hk];decide),if_pos (by simp[hk])]
 have kc:Calls Tryz.prog 88 #[.pointer (some ⟨rb,0,none⟩),.agg #[.int .i64 x.kind,.int .i64 x.pl,.string x.name,.int .u64 x.num,.string x.op,.slice sl.at' sl.xs.length sl.cap]] wb (Out wb W0.heap.size rb O v6 (.tuple #[]) R):=by
  rw[hR2]
  clear hR hR2 hX hwb
  exact leave_any W0 n (H.hN n (Nat.le_refl _)) wb rb O s v6 H.on x sl g1 g2 (by have:=H.hb;omega) (by have:=H.hd;omega)
 clear hR2
 have HB:Hid (Below w.heap.size w wb):=H.bl
 obtain⟨a0,a1,a2,a3,a4,a5⟩:=hX.cs
 clear hX H g1 g2 g3 hR
 rw[hk] at a0 hwb kc ⊢
 clear hk
 generalize sl.at'=ka at *
 generalize sl.cap=kc' at *
 generalize sl.xs.length=kl at *
 go_enter Tryz.func72,Tryz.ntmps72
 go_upto_region 1 with fail
 rw[←hwb]
 clear hwb
 go_wp2_with fail
 refine kc.mono ?_
 intro e w1 ho
 clear kc a0 a1 a2 a3 a4 a5
 cases R with
 | error er =>
   obtain⟨rfl,g9⟩:=ho
   exact⟨rfl,rfl,(Chg.of_below HB.out).trans g9 (fun _ _ q=>q)⟩
 | ok s' =>
   obtain⟨rfl,g9⟩:=ho
   have HG:Hid (Went w W0.heap.size rb O s' v6 w1):=g9.behind HB.out
   clear g9
   go_wp2_with fail
   go_end0
   exact⟨rfl,HG.out⟩
theorem node_else {W0:World}{n:Nat}{w wb:World}{rb:Nat}{O:Nat→Prop}{s:Rz.RS}{v6:Value}{x:Nd}{sl:Sli (Tr n)}(H:NoK W0 n w wb rb O s v6 x sl)(hwb:wb=w.alloc (.cells #[.int .i64 x.kind,.int .i64 x.pl,.string x.name,.int .u64 x.num,.string x.op,.slice sl.at' sl.xs.length sl.cap] 25))(h3:x.kind≠3)(h21:x.kind≠21)(h17:x.kind≠17)(h12:x.kind≠12)(h33:x.kind≠33)(h44:x.kind≠44)(h43:x.kind≠43)(h36:x.kind≠36)(h37:x.kind≠37)(h38:x.kind≠38)(h41:x.kind≠41)(h39:x.kind≠39)(h40:x.kind≠40)(h34:x.kind≠34) :
  Calls Tryz.prog 72 #[.pointer (some ⟨rb,0,none⟩),.agg #[.int .i64 x.kind,.int .i64 x.pl,.string x.name,.int .u64 x.num,.string x.op,.slice sl.at' sl.xs.length sl.cap]] w (Out w W0.heap.size rb O v6 (.tuple #[]) ((resP bi (n+1)).1 ((x,sl):Nd×Sli (Tr n)) s)):=by
 obtain⟨g1,g2,g3⟩:=H.kids
 have hX:NdB w.heap.size x (.slice sl.at' sl.xs.length sl.cap) wb:=by rw[hwb];exact at_new _ _
 obtain⟨R,hR⟩:∃R,R=(resP bi (n+1)).1 ((x,sl):Nd×Sli (Tr n)) s:=⟨_,rfl⟩
 rw[←hR]
 have hR2:R=eachP (resP bi n).1 sl.xs s:=by
  rw[hR,resP]
  simp only
  rw[if_neg h3,if_neg (fun q=>q.elim h21 h17),if_neg (fun q=>q.elim h12 h33),if_neg h44,if_neg h43,if_neg (fun q=>q.elim h36 h37),if_neg h38,if_neg h41,if_neg (fun q=>q.elim h39 h40),if_neg h34]
 have kc:Calls Tryz.prog 50 #[.pointer (some ⟨rb,0,none⟩),.slice sl.at' sl.xs.length sl.cap] wb (Out wb W0.heap.size rb O v6 (.tuple #[]) R):=by
  rw[hR2]
  clear hR hR2 hX hwb
  exact each_any W0 n (H.hN n (Nat.le_refl _)) wb rb O s v6 H.on sl g1 g2 (by have:=H.hb;omega) (by have:=H.hd;omega)
 clear hR2
 have HB:Hid (Below w.heap.size w wb):=H.bl
 obtain⟨a0,a1,a2,a3,a4,a5⟩:=hX.cs
 clear hX H g1 g2 g3 hR
 generalize x.kind=kd at *
 have j3:(kd == (3:Int))=false:=by simpa using h3
 have j21:(kd == (21:Int))=false:=by simpa using h21
 have j17:(kd == (17:Int))=false:=by simpa using h17
 have j12:(kd == (12:Int))=false:=by simpa using h12
 have j33:(kd == (33:Int))=false:=by simpa using h33
 have j44:(kd == (44:Int))=false:=by simpa using h44
 have j43:(kd == (43:Int))=false:=by simpa using h43
 have j36:(kd == (36:Int))=false:=by simpa using h36
 have j37:(kd == (37:Int))=false:=by simpa using h37
 have j38:(kd == (38:Int))=false:=by simpa using h38
 have j41:(kd == (41:Int))=false:=by simpa using h41
 have j39:(kd == (39:Int))=false:=by simpa using h39
 have j40:(kd == (40:Int))=false:=by simpa using h40
 have j34:(kd == (34:Int))=false:=by simpa using h34
 clear h3 h21 h17 h12 h33 h44 h43 h36 h37 h38 h41 h39 h40 h34
 generalize sl.at'=ka at *
 generalize sl.cap=kc' at *
 generalize sl.xs.length=kl at *
 go_enter Tryz.func72,Tryz.ntmps72
 go_upto_region 1 with fail
 rw[←hwb]
 clear hwb
 go_wp2_with fail
 refine kc.mono ?_
 intro e w1 ho
 clear kc a0 a1 a2 a3 a4 a5
 cases R with
 | error er =>
   obtain⟨rfl,g9⟩:=ho
   exact⟨rfl,rfl,(Chg.of_below HB.out).trans g9 (fun _ _ q=>q)⟩
 | ok s' =>
   obtain⟨rfl,g9⟩:=ho
   have HG:Hid (Went w W0.heap.size rb O s' v6 w1):=g9.behind HB.out
   clear g9
   go_wp2_with fail
   go_end0
   exact⟨rfl,HG.out⟩
theorem node_any (W0:World)(n:Nat)(hN:∀m,m≤n→NC W0 m):NC W0 (n+1):=by
 intro t ht w rb O s v6 h0 hb hd
 obtain⟨x,sl⟩:=t
 have hb2:cr s+8*(1+(sl.xs.map (szT n)).sum)≤lim:=hb
 obtain⟨wb,hwb⟩:∃wb,wb=w.alloc (.cells #[.int .i64 x.kind,.int .i64 x.pl,.string x.name,.int .u64 x.num,.string x.op,.slice sl.at' sl.xs.length sl.cap] 25):=⟨_,rfl⟩
 have hbl:Below w.heap.size w wb:=by rw[hwb];exact below_new (Below.refl _ _) (Nat.le_refl _) _
 have H:NoK W0 n w wb rb O s v6 x sl:=⟨hN,ht,h0.below hbl,by omega,by omega,hbl⟩
 show Calls Tryz.prog 72 #[.pointer (some ⟨rb,0,none⟩),.agg #[.int .i64 x.kind,.int .i64 x.pl,.string x.name,.int .u64 x.num,.string x.op,.slice sl.at' sl.xs.length sl.cap]] w _
 by_cases h3:x.kind=3
 ·exact node_3 H hwb h3
 by_cases h21:x.kind=21
 ·exact node_21 H hwb h21
 by_cases h17:x.kind=17
 ·exact node_17 H hwb h17
 by_cases h12:x.kind=12
 ·exact node_12 H hwb h12
 by_cases h33:x.kind=33
 ·exact node_33 H hwb h33
 by_cases h44:x.kind=44
 ·exact node_44 H hwb h44
 by_cases h43:x.kind=43
 ·exact node_43 H hwb h43
 by_cases h36:x.kind=36
 ·exact node_36 H hwb h36
 by_cases h37:x.kind=37
 ·exact node_37 H hwb h37
 by_cases h38:x.kind=38
 ·exact node_38 H hwb h38
 by_cases h41:x.kind=41
 ·exact node_41 H hwb h41
 by_cases h39:x.kind=39
 ·exact node_39 H hwb h39
 by_cases h40:x.kind=40
 ·exact node_40 H hwb h40
 by_cases h34:x.kind=34
 ·exact node_34 H hwb h34
 exact node_else H hwb h3 h21 h17 h12 h33 h44 h43 h36 h37 h38 h41 h39 h40 h34
theorem nodes_all (W0:World):∀n m,m≤n→NC W0 m
 | 0,m,h=>by
   obtain rfl:m=0:=by omega
   exact fun t=>nomatch (t:Empty)
 | n+1,m,h=>by
   rcases Nat.lt_or_ge m (n+1) with c | c
   ·exact nodes_all W0 n m (by omega)
   ·obtain rfl:m=n+1:=by omega
    exact node_any W0 n (nodes_all W0 n)
theorem node_all (W0:World)(n:Nat):NC W0 n:=nodes_all W0 n n (Nat.le_refl _)
end Go.Proofs.YtihmdcdifakepaaGreat.Rv
