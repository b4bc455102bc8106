/- MQ, MR, MW, ZG -/
import Derived.Test.YtihmdcdifakepaaGreatB19
import Derived.Test.YtihmdcdifakepaaGreatB7
import Derived.Test.YtihmdcdifakepaaGreatZF
set_option linter.unusedVariables false
set_option linter.unusedSimpArgs false
set_option maxRecDepth 100000
set_option maxHeartbeats 40000000
namespace Go.Proofs.YtihmdcdifakepaaGreat.Rv
open Go.RowKit Go.Proofs.YtihmdcdifakepaaGreat.Sc Go.Proofs.YtihmdcdifakepaaGreat.Rz
def lim:Nat:=100000000
structure On (W0:World)(rb:Nat)(O:Nat→Prop)(s:Rz.RS)(v6:Value)(w:World):Prop where
 mem:Mem w W0.heap.size rb O s v6
 bel:Below W0.heap.size W0 w
theorem On.below {W0 w w':World}{rb:Nat}{O:Nat→Prop}{s:Rz.RS}{v6:Value}(h:On W0 rb O s v6 w)(hb:Below w.heap.size w w'):On W0 rb O s v6 w':=⟨h.mem.below hb,h.bel.trans (hb.mono h.bel.size)⟩
theorem On.went {W0 w w':World}{rb:Nat}{O:Nat→Prop}{s s':Rz.RS}{v6 v6':Value}(h:On W0 rb O s v6 w)(hw:Went w W0.heap.size rb O s' v6' w'):∃O',On W0 rb O' s' v6' w'∧Chg O w w'∧∀b,O' b→O b∨w.heap.size≤b:=by
 have hlt:=h.mem.lt
 obtain⟨O',h1,h2,h3⟩:=hw
 exact⟨O',⟨h1,h2.below h.bel h.bel.size (fun b q=>(hlt b q).1)⟩,h2,h3⟩
theorem bg_of {s:Rz.RS}(h1:cr s≤lim)(h2:dp s≤lim):bg s≤1000000000:=by
 unfold cr dp bg lim at *
 omega
def Fit:(n:Nat)→Tr n→Prop
 | 0,t=>nomatch (t:Empty)
 | n+1,(x,s)=>((x.kind=21∨x.kind=17∨x.kind=12∨x.kind=33∨x.kind=41∨x.kind=38∨x.kind=43)→1≤s.xs.length)∧(x.kind=38→s.xs.length=2)∧(x.kind=43→s.xs.length=3)∧∀k∈s.xs,Fit n k
def okF (n:Nat)(W0:World)(t:Tr n):Prop:=okT n W0 t∧Fit n t
def NC (W0:World)(n:Nat):Prop:=∀(t:Tr n),okF n W0 t→∀(w:World)(rb:Nat)(O:Nat→Prop)(s:Rz.RS)(v6:Value),On W0 rb O s v6 w→cr s+8*szT n t≤lim→dp s+4*n≤lim →
 Calls Tryz.prog 72 #[.pointer (some ⟨rb,0,none⟩),valT n t] w (Out w W0.heap.size rb O v6 (.tuple #[]) ((resP bi n).1 t s))
theorem each_app {α:Type}(f:α→RM):∀(l:List α)(k:α)(r:List α)(s s1:Rz.RS),eachP f l s = .ok s1→eachP f (l++k :: r) s=(f k s1).bind (eachP f r)
 | [],k,r,s,s1,e=>by
   unfold eachP at e
   obtain rfl:=Except.ok.inj e
   rfl
 | x :: l,k,r,s,s1,e=>by
   unfold eachP at e
   obtain⟨s2,e1,e2⟩:=bind_ok e
   rw[List.cons_append,eachP,e1]
   exact each_app f l k r s2 s1 e2
structure EaAt (W0:World)(n:Nat)(w:World)(rb:Nat)(O:Nat→Prop)(s:Rz.RS)(v6:Value)(xs:List (Tr n))(i:Nat)(wr:World):Prop where
 le:i≤xs.length
 went:∃s1,eachP (resP bi n).1 (xs.take i) s = .ok s1∧(∃O1,On W0 rb O1 s1 v6 wr∧Chg O w wr∧(∀b,O1 b→O b∨w.heap.size≤b))∧cr s1+2+8*((xs.drop i).map (szT n)).sum≤lim+2*(xs.drop i).length∧dp s1=dp s
theorem EaAt.start {W0:World}{n:Nat}{w:World}{rb:Nat}{O:Nat→Prop}{s:Rz.RS}{v6:Value}{xs:List (Tr n)}(h:On W0 rb O s v6 w)(hb:cr s+2+8*(xs.map (szT n)).sum≤lim+2*xs.length):EaAt W0 n w rb O s v6 xs 0 w :=
 ⟨Nat.zero_le _,s,rfl,⟨O,h,Chg.refl _ _,fun b q=>Or.inl q⟩,by simpa using hb,rfl⟩
theorem EaAt.step {W0:World}{n:Nat}(hN:NC W0 n){w:World}{rb:Nat}{O:Nat→Prop}{s:Rz.RS}{v6:Value}{xs:List (Tr n)}{i:Nat}{wr:World}(h:EaAt W0 n w rb O s v6 xs i wr){t:Tr n}(ht:xs[i]?=some t)(hok:okF n W0 t)(hd:dp s+4*n≤lim){wb:World}(hb:Below wr.heap.size wr wb) :
  Calls Tryz.prog 72 #[.pointer (some ⟨rb,0,none⟩),valT n t] wb fun e w'=>(e = .returned (.tuple #[])∧EaAt W0 n w rb O s v6 xs (i+1) w')∨∃er,e = .panicked (thrown er)∧eachP (resP bi n).1 xs s = .error er∧Chg O w w':=by
 have hil:i<xs.length:=(List.getElem?_eq_some_iff.1 ht).1
 obtain⟨hle,s1,e1,⟨O1,o1,o2,o3⟩,b1,b2⟩:=h
 have hdr:xs.drop i=t :: xs.drop (i+1):=by
  rw[List.drop_eq_getElem_cons hil]
  congr 1
  exact(List.getElem?_eq_some_iff.1 ht).2
 have hsp:xs=xs.take i++t :: xs.drop (i+1):=by rw[←hdr,List.take_append_drop]
 rw[hdr,List.map_cons,List.sum_cons,List.length_cons] at b1
 have hsl:=sum_len (szT n) (sz_pos n) (xs.drop (i+1))
 have hc2:Chg O w wb:=o2.trans (Chg.of_below hb) (fun _ _ (q:O _)=>q)
 refine(hN t hok wb rb O1 s1 v6 (o1.below hb) (by omega) (by omega)).mono ?_
 intro e w' ho
 have hea:=each_app (resP bi n).1 (xs.take i) t (xs.drop (i+1)) s s1 e1
 rw[←hsp] at hea
 have hsub:∀a,a<w.heap.size→O1 a→O a:=fun a ha q=>by
  rcases o3 a q with c | c
  ·exact c
  ·omega
 cases hr:(resP bi n).1 t s1 with
 | error er =>
   rw[hr] at ho hea
   obtain⟨rfl,g2⟩:=ho
   exact Or.inr ⟨er,rfl,hea,hc2.trans g2 hsub⟩
 | ok s2 =>
   rw[hr] at ho
   obtain⟨rfl,g2⟩:=ho
   obtain⟨O2,k1,k2,k3⟩:=(o1.below hb).went g2
   have hcr:=(cr_res bi n).1 t s1 s2 hr
   have hks:=(keeps_resP bi n).1 t s1 s2 hr
   refine Or.inl ⟨rfl,hil,s2,?_,⟨O2,k1,hc2.trans k2 hsub,fun b q => ?_⟩,by omega,?_⟩
   ·have htk:xs.take (i+1)=xs.take i++t :: []:=by
     rw[List.take_add_one,ht]
     rfl
    rw[htk,each_app (resP bi n).1 (xs.take i) t [] s s1 e1,hr]
    rfl
   ·rcases k3 b q with c | c
    ·exact o3 b c
    ·exact Or.inr (Nat.le_trans hc2.size c)
   ·rw[←b2]
    unfold dp
    rw[hks.blocks,hks.labels,hks.loops]
theorem EaAt.last {W0:World}{n:Nat}{w:World}{rb:Nat}{O:Nat→Prop}{s:Rz.RS}{v6:Value}{xs:List (Tr n)}{i:Nat}{wr:World}(h:EaAt W0 n w rb O s v6 xs i wr)(hi:xs.length≤i):Out w W0.heap.size rb O v6 (.tuple #[]) (eachP (resP bi n).1 xs s) (.returned (.tuple #[])) wr:=by
 obtain⟨hle,s1,e1,⟨O1,o1,o2,o3⟩,b1,b2⟩:=h
 rw[List.take_of_length_le hi] at e1
 rw[e1]
 exact⟨rfl,O1,o1.mem,o2,o3⟩
theorem EaAt.bel {W0:World}{n:Nat}{w:World}{rb:Nat}{O:Nat→Prop}{s:Rz.RS}{v6:Value}{xs:List (Tr n)}{i:Nat}{wr:World}(h:EaAt W0 n w rb O s v6 xs i wr):Below W0.heap.size W0 wr:=by
 obtain⟨hle,s1,e1,⟨O1,o1,o2,o3⟩,b1,b2⟩:=h
 exact o1.bel
theorem each_any (W0:World)(n:Nat)(hN:NC W0 n)(w:World)(rb:Nat)(O:Nat→Prop)(s:Rz.RS)(v6:Value)(h:On W0 rb O s v6 w)(sl:Sli (Tr n))(hok:sl.ok (encT n) 6 W0)(hks:∀y∈sl.xs,okF n W0 y)(hb:cr s+2+8*(sl.xs.map (szT n)).sum≤lim+2*sl.xs.length)(hd:dp s+4*n≤lim) :
  Calls Tryz.prog 50 #[.pointer (some ⟨rb,0,none⟩),.slice sl.at' sl.xs.length sl.cap] w (Out w W0.heap.size rb O v6 (.tuple #[]) (eachP (resP bi n).1 sl.xs s)):=by
 obtain⟨ka,kc,kx⟩:=sl
 simp only at *
 have HS:Hid (EaAt W0 n w rb O s v6 kx 0 w):=EaAt.start h hb
 have HST:Hid (∀(i:Nat) (t:Tr n),kx[i]?=some t→∀wr wb,EaAt W0 n w rb O s v6 kx i wr→Below wr.heap.size wr wb→Calls Tryz.prog 72 #[.pointer (some ⟨rb,0,none⟩),valT n t] wb fun e w'=>(e = .returned (.tuple #[])∧EaAt W0 n w rb O s v6 kx (i+1) w')∨∃er,e = .panicked (thrown er)∧eachP (resP bi n).1 kx s = .error er∧Chg O w w'):=fun i t ht wr wb he hb'=>he.step hN ht (hks t (List.mem_of_getElem? ht)) hd hb'
 have HK:Hid (∀W,Below W0.heap.size W0 W→Sli.ok (encT n) 6 W ⟨ka,kc,kx⟩):=fun W hW=>hok.kept (Sc.cells_below hW)
 have hlim:(kx.length:Int)≤9223372036854775806:=by
  have h1:=sum_len (szT n) (sz_pos n) kx
  unfold lim at hb
  omega
 clear h hok hks hb hd hN
 go_enter Tryz.func50,Tryz.ntmps50
 go_wp2_with fail
 go_loopw [8] (fun i wr=>∃k:Nat,EaAt W0 n w rb O s v6 kx k wr∧i = .int .i64 (k:Int)) (fun i wr=>kx.length - (intOf i).toNat)
 case atStart=>exact⟨0,HS.out,rfl⟩
 case round =>
  clear HS
  obtain⟨i,he,rfl⟩:=hrel
  have HE:Hid (EaAt W0 n w rb O s v6 kx i wr):=he
  clear he
  rcases Nat.lt_or_ge i kx.length with c | c
  ·obtain⟨y,b,off,k1,k2,x0,x1,x2,x3,x4,x5⟩:=kid_at (HK.out wr HE.out.bel) (k:=i) c
   simp only at k1 k2
   subst k1
   have hil:(i:Int)<kx.length:=by omega
   obtain⟨wb,hwb⟩:∃wb,wb=wr.alloc (.cells #[.int .i64 (ndT n y).kind,.int .i64 (ndT n y).pl,.string (ndT n y).name,.int .u64 (ndT n y).num,.string (ndT n y).op,.slice (atT n y) (nkT n y) (capT n y)] 25):=⟨_,rfl⟩
   have hbl:Below wr.heap.size wr wb:=by rw[hwb];exact below_new (Below.refl _ _) (Nat.le_refl _) _
   have hu:=HST.out i y k2 wr wb HE.out hbl
   unfold valT at hu
   obtain⟨b0,b1,b2,b3,b4,b5⟩:=six_new hwb
   have HQ:Hid (i<kx.length):=c
   clear hbl k2 HE HST c
   generalize (ndT n y).kind=q0 at *
   generalize (ndT n y).pl=q1 at *
   generalize (ndT n y).name=q2 at *
   generalize (ndT n y).num=q3 at *
   generalize (ndT n y).op=q4 at *
   generalize atT n y=q5 at *
   generalize nkT n y=q6 at *
   generalize capT n y=q7 at *
   go_upto_region 3 with fail
   rw[←hwb]
   clear hwb x0 x1 x2 x3 x4 x5
   go_wp2_with fail
   refine hu.mono ?_
   rintro e w1 (⟨rfl,h1⟩ | ⟨er,rfl,h1,h2⟩)
   ·have HN1:Hid (EaAt W0 n w rb O s v6 kx (i+1) w1):=h1
    clear hu h1
    go_wp2_with fail
    refine⟨⟨i+1,HN1.out,by go_num⟩,?_⟩
    simp[intOf]
    have:=HQ.out
    omega
   ·refine⟨rfl,?_⟩
    rw[h1]
    exact⟨rfl,h2⟩
  ·have hil:¬(i:Int)<kx.length:=by omega
   have HF:Hid (Out w W0.heap.size rb O v6 (.tuple #[]) (eachP (resP bi n).1 kx s) (.returned (.tuple #[])) wr):=HE.out.last c
   clear HE HST HK
   go_wp2_with fail
   go_end0
   exact HF.out
section
variable {w w':World}{B rb:Nat}{tg:Nat→Nat}{s:Rz.RS}{v0 v1 v2 v3 v6:Value}{ms:List (Option Nat)}
theorem MemAt.loops (h:MemAt w B rb tg s v0 v1 v2 v3 v6 ms)(k:Nat):MemAt (w.setCell ⟨rb,5,none⟩ (.int .i64 (k:Int))) B rb tg { s with loops:=k } v0 v1 v2 v3 v6 ms∧Chg (Ow rb v0 v1 v2 v3 v6 ms) w (w.setCell ⟨rb,5,none⟩ (.int .i64 (k:Int))):=by
 have hc:Chg (fun b=>b=rb) w (w.setCell ⟨rb,5,none⟩ (.int .i64 (k:Int))):=Chg.set w _ _ rfl
 have hset:=heap_setCell_same w rb 5 _ 45 (.int .i64 (k:Int)) h.box
 refine⟨⟨hset,h.r0.kept hc (fun b q e=>by have h1:=h.t1 b q;have h2:=h.t0;rw[e] at h1;omega),h.r1.kept hc (fun b q e=>by have h1:=h.t2 b q;have h2:=h.t0;rw[e] at h1;omega),h.r2.kept hc (fun b q e=>by have h1:=h.t3 b q;have h2:=h.t0;rw[e] at h1;omega),h.r3.kept hc (fun b q e=>by have h1:=h.t4 b q;have h2:=h.t0;rw[e] at h1;omega),h.r6.kept hc (fun b q e=>by have h1:=h.t5 b q;have h2:=h.t0;rw[e] at h1;omega),h.t0,h.t1,h.t2,h.t3,h.t4,h.t5,fun i b q => ?_,h.ml,fun i m b q1 q2=>(h.mp i m b q1 q2).kept (fun mb e => ?_),⟨h.gd.fnl,h.gd.blk,h.gd.wf⟩,h.lo⟩,Chg.set w _ _ (Or.inl rfl)⟩
 ·obtain⟨a1,a2,a3⟩:=h.tm i b q
  exact⟨a1,a2,Nat.lt_of_lt_of_le a3 hc.size⟩
 ·subst e
  obtain⟨a1,a2,a3⟩:=h.tm i mb q1
  exact hc.block mb a3 (fun e=>by have h2:=h.t0;rw[e] at a1;omega)
theorem Mem.loops {O:Nat→Prop}(h:Mem w B rb O s v6)(k:Nat):Went w B rb O { s with loops:=k } v6 (w.setCell ⟨rb,5,none⟩ (.int .i64 (k:Int))):=by
 obtain⟨tg,v0,v1,v2,v3,ms,h,hO⟩:=h
 obtain⟨h1,h2⟩:=h.loops k
 exact went_of hO h1 h2 (fun b q=>Or.inl q)
theorem Mem.cells {O:Nat→Prop}(h:Mem w B rb O s v6):w.cell? ⟨rb,4,none⟩=some (.int .i64 (s.fn:Int))∧w.cell? ⟨rb,5,none⟩=some (.int .i64 (s.loops:Int))∧w.cell? ⟨rb,6,none⟩=some v6∧∀j,w.frozen? ⟨rb,j,none⟩=false:=by
 obtain⟨tg,v0,v1,v2,v3,ms,h,hO⟩:=h
 exact⟨h.c.2.2.2.2.1,h.c.2.2.2.2.2.1,h.c.2.2.2.2.2.2,h.f⟩
end
theorem Out.behind {w w1 w':World}{B rb:Nat}{O:Nat→Prop}{v6 val:Value}{r:Except Rz.Er Rz.RS}{e:Ending}(hb:Below w.heap.size w w1)(h:Out w1 B rb O v6 val r e w'):Out w B rb O v6 val r e w':=by
 cases r with
 | error er=>exact⟨h.1,(Chg.of_below hb).trans h.2 (fun _ _ q=>q)⟩
 | ok s'=>exact⟨h.1,h.2.behind hb⟩
theorem leave_any (W0:World)(n:Nat)(hN:NC W0 n)(w:World)(rb:Nat)(O:Nat→Prop)(s:Rz.RS)(v6:Value)(h:On W0 rb O s v6 w)(x:Nd)(sl:Sli (Tr n))(hok:sl.ok (encT n) 6 W0)(hks:∀y∈sl.xs,okF n W0 y)(hb:cr s+2+8*(sl.xs.map (szT n)).sum≤lim)(hd:dp s+4*n≤lim) :
  Calls Tryz.prog 88 #[.pointer (some ⟨rb,0,none⟩),.agg #[.int .i64 x.kind,.int .i64 x.pl,.string x.name,.int .u64 x.num,.string x.op,.slice sl.at' sl.xs.length sl.cap]] w (Out w W0.heap.size rb O v6 (.tuple #[]) (leaveP (resP bi n).1 x sl.xs s)):=by
 obtain⟨wb,hwb⟩:∃wb,wb=w.alloc (.cells #[.int .i64 x.kind,.int .i64 x.pl,.string x.name,.int .u64 x.num,.string x.op,.slice sl.at' sl.xs.length sl.cap] 25):=⟨_,rfl⟩
 have hbl:Below w.heap.size w wb:=by rw[hwb];exact below_new (Below.refl _ _) (Nat.le_refl _) _
 have b1:wb.cell? ⟨w.heap.size,1,none⟩=some (.int .i64 x.pl):=by rw[hwb];exact box_new w _ _ 1 _ rfl
 have b5:wb.cell? ⟨w.heap.size,5,none⟩=some (.slice sl.at' sl.xs.length sl.cap):=by rw[hwb];exact box_new w _ _ 5 _ rfl
 have c4:=(h.mem.below hbl).cells.1
 have HB:Hid (Below w.heap.size w wb):=hbl
 have ke:=each_any W0 n hN wb rb O s v6 (h.below hbl) sl hok hks (by omega) hd
 unfold leaveP
 by_cases c:s.fn=0
 ·rw[if_pos c]
  rw[c] at c4
  have HC:Hid (Chg O w wb):=Chg.of_below hbl
  clear h hok hks hb hd hN ke hbl c
  go_enter Tryz.func88,Tryz.ntmps88
  go_upto_region 1 with fail
  rw[←hwb]
  clear hwb
  go_wp2_with fail
  exact⟨rfl,rfl,HC.out⟩
 ·rw[if_neg c]
  have c':((s.fn:Int) == 0)=false:=by simp;exact c
  clear h hok hks hb hd hN hbl c
  generalize eachP (resP bi n).1 sl.xs s=r at *
  go_enter Tryz.func88,Tryz.ntmps88
  go_upto_region 1 with fail
  rw[←hwb]
  clear hwb
  go_wp2_with fail
  refine ke.mono ?_
  intro e w1 ho
  have ho2:=ho.behind HB.out
  clear ke ho
  cases r with
  | error er =>
    obtain⟨rfl,g⟩:=ho2
    exact⟨rfl,rfl,g⟩
  | ok s' =>
    obtain⟨rfl,g⟩:=ho2
    have HG:Hid (Went w W0.heap.size rb O s' v6 w1):=g
    clear g
    go_wp2_with fail
    go_end0
    exact⟨rfl,HG.out⟩
theorem loop_any (W0:World)(n:Nat)(hN:NC W0 n)(w:World)(rb:Nat)(O:Nat→Prop)(s:Rz.RS)(v6:Value)(h:On W0 rb O s v6 w)(sl:Sli (Tr n))(hok:sl.ok (encT n) 6 W0)(hks:∀y∈sl.xs,okF n W0 y)(hb:cr s+2+8*(sl.xs.map (szT n)).sum≤lim)(hd:dp s+1+4*n≤lim) :
  Calls Tryz.prog 84 #[.pointer (some ⟨rb,0,none⟩),.slice sl.at' sl.xs.length sl.cap] w (Out w W0.heap.size rb O v6 (.tuple #[]) (loopP (resP bi n).1 sl.xs s)):=by
 have c5:=h.mem.cells.2.1
 have f5:=h.mem.cells.2.2.2 5
 have hl:(s.loops:Int)≤9223372036854775806:=by unfold dp lim at hd;omega
 obtain⟨O1,h1,h2,h3⟩:=h.went (h.mem.loops (s.loops+1))
 have ke:=each_any W0 n hN _ rb O1 _ v6 h1 sl hok hks (by show cr s+2+_≤_;omega) (by unfold dp at *;simp only;omega)
 have HK:Hid (∀s1,eachP (resP bi n).1 sl.xs { s with loops:=s.loops+1 } = .ok s1→s1.loops=s.loops+1):=fun s1 e=>(keeps_each (keeps_resP bi n).1 sl.xs _ s1 e).loops
 have HC:Hid (Chg O w (w.setCell ⟨rb,5,none⟩ (.int .i64 ((s.loops+1:Nat):Int)))∧(∀b,O1 b→O b∨w.heap.size≤b)):=⟨h2,h3⟩
 unfold loopP
 generalize hr:eachP (resP bi n).1 sl.xs { s with loops:=s.loops+1 }=r at *
 have e1:((s.loops+1:Nat):Int)=(s.loops:Int)+1:=by omega
 rw[e1] at ke HC
 clear h hok hks hb hd hN h1 h2 h3 e1
 go_enter Tryz.func84,Tryz.ntmps84
 go_wp2_with fail
 refine ke.mono ?_
 intro e w1 ho
 clear ke
 have hsub:∀a,a<w.heap.size→O1 a→O a:=fun a ha q=>by
  rcases HC.out.2 a q with c | c
  ·exact c
  ·omega
 cases r with
 | error er =>
   obtain⟨rfl,g⟩:=ho
   exact⟨rfl,rfl,HC.out.1.trans g hsub⟩
 | ok s1 =>
   obtain⟨rfl,O2,g1,g2,g3⟩:=ho
   have hlp:=HK.out s1 rfl
   have c5:=g1.cells.2.1
   have f5:=g1.cells.2.2.2 5
   rw[hlp] at c5
   have hw:=g1.loops (s1.loops - 1)
   have e2:((s1.loops - 1:Nat):Int)=(s.loops:Int):=by omega
   rw[e2] at hw
   have HW:Hid (Went w W0.heap.size rb O { s1 with loops:=s1.loops - 1 } v6 (w1.setCell ⟨rb,5,none⟩ (.int .i64 (s.loops:Int)))):=by
    obtain⟨O3,k1,k2,k3⟩:=hw
    have hc1:Chg O w w1:=HC.out.1.trans g2 hsub
    have h12:∀b,O2 b→O b∨w.heap.size≤b:=fun b q=>by
     rcases g3 b q with c | c
     ·exact HC.out.2 b c
     ·exact Or.inr (Nat.le_trans HC.out.1.size c)
    refine⟨O3,k1,hc1.trans k2 (fun a ha q => ?_),fun b q => ?_⟩
    ·rcases h12 a q with c | c
     ·exact c
     ·omega
    ·rcases k3 b q with c | c
     ·exact h12 b c
     ·exact Or.inr (Nat.le_trans hc1.size c)
   have c5':w1.cell? ⟨rb,5,none⟩=some (.int .i64 ((s.loops:Int)+1)):=by rw[c5];simp
   clear g1 g2 g3 hw hlp c5 e2 HC hsub
   go_wp2_with fail
   go_end0
   exact⟨rfl,HW.out⟩
theorem went_then {w W w':World}{B rb:Nat}{O O1:Nat→Prop}{s':Rz.RS}{v6:Value}(h1:Chg O w W)(h3:∀b,O1 b→O b∨w.heap.size≤b)(k:Went W B rb O1 s' v6 w'):Went w B rb O s' v6 w':=by
 obtain⟨O2,k1,k2,k3⟩:=k
 refine⟨O2,k1,h1.trans k2 (fun a ha q => ?_),fun b q => ?_⟩
 ·rcases h3 a q with c | c
  ·exact c
  ·omega
 ·rcases k3 b q with c | c
  ·exact h3 b c
  ·exact Or.inr (Nat.le_trans h1.size c)
theorem Out.then {w W w':World}{B rb:Nat}{O O1:Nat→Prop}{v6 val:Value}{r:Except Rz.Er Rz.RS}{e:Ending}(h1:Chg O w W)(h3:∀b,O1 b→O b∨w.heap.size≤b)(k:Out W B rb O1 v6 val r e w'):Out w B rb O v6 val r e w':=by
 cases r with
 | error er =>
   exact⟨k.1,h1.trans k.2 (fun a ha q=>by
    rcases h3 a q with c | c
    ·exact c
    ·omega)⟩
 | ok s'=>exact⟨k.1,went_then h1 h3 k.2⟩
section
variable {W0 w w1:World}{rb f:Nat}{O:Nat→Prop}{s s1 s2:Rz.RS}{v6 v1 v2 val:Value}{args:Array Value}{r:Except Rz.Er Rz.RS}
theorem rel (h:On W0 rb O s v6 w)(hw:Went w W0.heap.size rb O s1 v1 w1)(k:∀O1,On W0 rb O1 s1 v1 w1→Calls Tryz.prog f args w1 (Out w1 W0.heap.size rb O1 v2 val r)):Calls Tryz.prog f args w1 (Out w W0.heap.size rb O v2 val r):=by
 obtain⟨O1,o1,o2,o3⟩:=h.went hw
 exact(k O1 o1).mono fun e w' q=>Out.then o2 o3 q
theorem relW (h:On W0 rb O s v6 w)(hw:Went w W0.heap.size rb O s1 v1 w1)(k:∀O1,On W0 rb O1 s1 v1 w1→Calls Tryz.prog f args w1 (fun e w'=>e = .returned val∧Went w1 W0.heap.size rb O1 s2 v2 w')):Calls Tryz.prog f args w1 (fun e w'=>e = .returned val∧Went w W0.heap.size rb O s2 v2 w'):=by
 obtain⟨O1,o1,o2,o3⟩:=h.went hw
 exact(k O1 o1).mono fun e w' q=>⟨q.1,went_then o2 o3 q.2⟩
theorem relR {P:Ending→Prop}(h:On W0 rb O s v6 w)(hw:Went w W0.heap.size rb O s1 v1 w1)(k:∀O1,On W0 rb O1 s1 v1 w1→Calls Tryz.prog f args w1 (fun e w'=>P e∧Below w1.heap.size w1 w')):Calls Tryz.prog f args w1 (fun e w'=>P e∧Went w W0.heap.size rb O s1 v1 w'):=by
 obtain⟨O1,o1,o2,o3⟩:=h.went hw
 exact(k O1 o1).mono fun e w' q=>⟨q.1,went_then o2 o3 (Went.same o1.mem q.2)⟩
end
end Go.Proofs.YtihmdcdifakepaaGreat.Rv
namespace Go.Proofs.YtihmdcdifakepaaGreat.Rv.Rx
open Go.RowKit Go.Proofs.YtihmdcdifakepaaGreat.Sc Go.Proofs.YtihmdcdifakepaaGreat.Rz
def CalF (W0:World)(n F:Nat)(f:Tr n→RM)(m:Nat):Prop:=∀(t:Tr n),okD n W0 t→∀(w:World)(wb:Nat)(O:Nat→Prop)(s:Rz.RS)(c a:Int)(v6:Value),OnD W0 wb O s c a v6 w→cr s+8*szT n t≤lim+2→dp s+4*n≤lim→m≤s.blocks.length →
 Calls Tryz.prog F #[.pointer (some ⟨wb,0,none⟩),valT n t] w (Tl w W0.heap.size wb O v6 (8*szT n t - 2) (f t s) s c a)
def ExC (W0:World)(n:Nat):Prop:=CalF W0 n 37 (resR bi n).1 0
def StC (W0:World)(n:Nat):Prop:=CalF W0 n 20 (resR bi n).2.1 1
def BlC (W0:World)(n:Nat):Prop:=∀(t:Tr n),okD n W0 t→∀(w:World)(wb:Nat)(O:Nat→Prop)(s:Rz.RS)(c a:Int)(v6:Value),OnD W0 wb O s c a v6 w→cr s+8*szT n t≤lim+2→dp s+4*n≤lim→1≤s.blocks.length →
 Calls Tryz.prog 12 #[.pointer (some ⟨wb,0,none⟩),.slice (atT n t) (nkT n t) (capT n t)] w (Tl w W0.heap.size wb O v6 (8*szT n t - 8) ((resR bi n).2.2 t s) s c a)
def hdD (x:Nd)(s:Rz.RS):Except Rz.Er Rz.RS:=if x.kind=31 then declP x.name x.pl 1 s else if x.kind=32 then declP x.name x.pl 2 s else if x.kind=33 then declP x.name x.pl 4 s else .ok s
theorem each_snoc {α:Type}(f:α→RM):∀(l:List α)(k:α)(s:Rz.RS),eachP f (l++[k]) s=(eachP f l s).bind (f k)
 | [],k,s=>by
   show(f k s).bind (eachP f [])=(Except.ok s).bind (f k)
   show(f k s).bind (eachP f [])=f k s
   cases f k s <;> rfl
 | x :: l,k,s=>by
   show(f x s).bind (eachP f (l++[k]))=((f x s).bind (eachP f l)).bind (f k)
   cases f x s with
   | error e=>rfl
   | ok s1=>exact each_snoc f l k s1
theorem heads_snoc {α:Type}(nd:α→Nd):∀(l:List α)(k:α)(s:Rz.RS),headsP nd (l++[k]) s=(headsP nd l s).bind (hdD (nd k))
 | [],k,s=>by
   show(hdD (nd k) s).bind (headsP nd [])=hdD (nd k) s
   cases hdD (nd k) s <;> rfl
 | x :: l,k,s=>by
   show(hdD (nd x) s).bind (headsP nd (l++[k]))=((hdD (nd x) s).bind (headsP nd l)).bind (hdD (nd k))
   cases hdD (nd x) s with
   | error e=>rfl
   | ok s1=>exact heads_snoc nd l k s1
structure AlAt {n:Nat}(f:Tr n→RM)(W0 w:World)(wb:Nat)(O:Nat→Prop)(s:Rz.RS)(c a:Int)(v6:Value)(xs:List (Tr n))(i:Nat)(wr:World):Prop where
 le:i≤xs.length
 st:∃s1 c1 a1,Told (8*((xs.take i).map (szT n)).sum - 2*i) (eachP f (xs.take i) s) s c a s1 c1 a1∧RWent w W0.heap.size wb O s1 c1 a1 v6 wr
section
variable {n F m:Nat}{f:Tr n→RM}{W0 w:World}{wb:Nat}{O:Nat→Prop}{s:Rz.RS}{c a:Int}{v6:Value}{xs:List (Tr n)}{i:Nat}{wr:World}
theorem AlAt.start (h:OnD W0 wb O s c a v6 w):AlAt f W0 w wb O s c a v6 xs 0 w :=
 ⟨Nat.zero_le _,s,c,a,Told.ok s c a,RWent.same h.mem (Below.refl _ _)⟩
theorem AlAt.bel (h:OnD W0 wb O s c a v6 w)(k:AlAt f W0 w wb O s c a v6 xs i wr):Below W0.heap.size W0 wr:=by
 obtain⟨s1,c1,a1,_,hw⟩:=k.st
 obtain⟨O1,o1,_,_⟩:=h.went hw
 exact o1.bel
theorem take_sum {n:Nat}{xs:List (Tr n)}{i:Nat}{t:Tr n}(ht:xs[i]?=some t):((xs.take (i+1)).map (szT n)).sum=((xs.take i).map (szT n)).sum+szT n t∧((xs.take i).map (szT n)).sum+szT n t+(xs.length - (i+1))≤(xs.map (szT n)).sum∧i≤((xs.take i).map (szT n)).sum∧1≤szT n t:=by
 have hil:i<xs.length:=(List.getElem?_eq_some_iff.1 ht).1
 have h1:((xs.take (i+1)).map (szT n)).sum=((xs.take i).map (szT n)).sum+szT n t:=by
  rw[List.take_add_one,ht];simp
 have h2:=sum_take_drop (szT n) xs (i+1)
 have h3:=sum_len (szT n) (sz_pos n) (xs.take i)
 rw[List.length_take] at h3
 have h4:=sum_len (szT n) (sz_pos n) (xs.drop (i+1))
 rw[List.length_drop] at h4
 exact⟨h1,by omega,by omega,sz_pos n t⟩
theorem AlAt.step (hF:CalF W0 n F f m)(h0:OnD W0 wb O s c a v6 w)(k:AlAt f W0 w wb O s c a v6 xs i wr){t:Tr n}(ht:xs[i]?=some t)(hok:okD n W0 t)(hb:cr s+8*(xs.map (szT n)).sum≤lim)(hd:dp s+4*n≤lim)(hm:m≤s.blocks.length){wc:World}(hc:Below wr.heap.size wr wc) :
  Calls Tryz.prog F #[.pointer (some ⟨wb,0,none⟩),valT n t] wc fun e w'=>e = .returned (.tuple #[])∧AlAt f W0 w wb O s c a v6 xs (i+1) w':=by
 have hil:i<xs.length:=(List.getElem?_eq_some_iff.1 ht).1
 obtain⟨q1,q2,q3,q4⟩:=take_sum ht
 obtain⟨s1,c1,a1,ht1,hw⟩:=k.st
 have hcr:=ht1.cr
 have hdp:=ht1.lk.dp
 have hbl:=ht1.lk.blen
 refine(relT h0 (hw.then hc) fun O1 o1=>hF t hok wc wb O1 s1 c1 a1 v6 o1 (by omega) (by omega) (by omega)).mono ?_
 rintro e w' ⟨he,s2,c2,a2,ht2,hw2⟩
 refine⟨he,hil,s2,c2,a2,?_,hw2⟩
 rw[List.take_add_one,ht,Option.toList_some,each_snoc]
 refine(Told.bind (f:=eachP f (xs.take i)) (g:=f t) ht1 ht2).mono ?_
 have:((xs.take i++[t]).map (szT n)).sum=((xs.take i).map (szT n)).sum+szT n t:=by simp
 omega
theorem AlAt.last (k:AlAt f W0 w wb O s c a v6 xs i wr)(hi:xs.length≤i):∃s1 c1 a1,Told (8*(xs.map (szT n)).sum - 2*xs.length) (eachP f xs s) s c a s1 c1 a1∧RWent w W0.heap.size wb O s1 c1 a1 v6 wr:=by
 obtain⟨s1,c1,a1,h1,h2⟩:=k.st
 have e:i=xs.length:=by have:=k.le;omega
 rw[e,List.take_length] at h1
 exact⟨s1,c1,a1,h1,h2⟩
end
theorem all_any (W0:World)(n:Nat)(hE:ExC W0 n)(w:World)(wb:Nat)(O:Nat→Prop)(s:Rz.RS)(c a:Int)(v6:Value)(h:OnD W0 wb O s c a v6 w)(sl:Sli (Tr n))(hok:sl.ok (encT n) 6 W0)(hks:∀y∈sl.xs,okD n W0 y)(hb:cr s+8*(sl.xs.map (szT n)).sum≤lim)(hd:dp s+4*n≤lim) :
  Calls Tryz.prog 36 #[.pointer (some ⟨wb,0,none⟩),.slice sl.at' sl.xs.length sl.cap] w (Tl w W0.heap.size wb O v6 (8*(sl.xs.map (szT n)).sum - 2*sl.xs.length) (eachP (resR bi n).1 sl.xs s) s c a):=by
 obtain⟨ka,kc,kx⟩:=sl
 simp only at *
 obtain⟨f,hf⟩:∃f,f=(resR bi n).1:=⟨_,rfl⟩
 have hE:CalF W0 n 37 f 0:=by rw[hf];exact hE
 rw[←hf]
 have HS:Hid (AlAt f W0 w wb O s c a v6 kx 0 w):=AlAt.start h
 have HST:Hid (∀(i:Nat) (t:Tr n),kx[i]?=some t→∀wr,AlAt f W0 w wb O s c a v6 kx i wr→Calls Tryz.prog 37 #[.pointer (some ⟨wb,0,none⟩),valT n t] wr fun e w'=>e = .returned (.tuple #[])∧AlAt f W0 w wb O s c a v6 kx (i+1) w'):=fun i t ht wr he=>he.step hE h ht (hks t (List.mem_of_getElem? ht)) hb hd (Nat.zero_le _) (Below.refl _ _)
 have HK:Hid (∀i wr,AlAt f W0 w wb O s c a v6 kx i wr→Sli.ok (encT n) 6 wr ⟨ka,kc,kx⟩):=fun i wr he=>hok.kept (Sc.cells_below (he.bel h))
 have HLA:Hid (∀i wr,AlAt f W0 w wb O s c a v6 kx i wr→kx.length≤i→Tl w W0.heap.size wb O v6 (8*(kx.map (szT n)).sum - 2*kx.length) (eachP f kx s) s c a (.returned (.tuple #[])) wr):=fun i wr he hi=>⟨rfl,he.last hi⟩
 have hlim:(kx.length:Int)≤9223372036854775806:=by
  have h1:=sum_len (szT n) (sz_pos n) kx
  unfold lim at hb
  omega
 obtain⟨P,hP⟩:∃P,P=Tl w W0.heap.size wb O v6 (8*(kx.map (szT n)).sum - 2*kx.length) (eachP f kx s) s c a:=⟨_,rfl⟩
 rw[←hP] at HLA ⊢
 clear h hok hks hb hd hE hf hP
 go_enter Tryz.func36,Tryz.ntmps36
 go_wp2_with fail
 go_loopw [4] (fun i wr=>∃k:Nat,Hid (AlAt f W0 w wb O s c a v6 kx k wr)∧i = .int .i64 (k:Int)) (fun i wr=>kx.length - (intOf i).toNat)
 case atStart=>exact⟨0,HS,rfl⟩
 case round =>
  clear HS
  obtain⟨i,HE,rfl⟩:=hrel
  rcases Nat.lt_or_ge i kx.length with c | c
  ·obtain⟨y,b,off,k1,k2,x0,x1,x2,x3,x4,x5⟩:=kid_at (HK.out i wr HE.out) (k:=i) c
   simp only at k1 k2
   subst k1
   have hil:(i:Int)<kx.length:=by omega
   have hu:=HST.out i y k2 wr HE.out
   unfold valT at hu
   have HQ:Hid (i<kx.length):=c
   clear k2 HE HST HLA HK c
   go_wp2_with fail
   refine hu.mono ?_
   rintro e w1 ⟨rfl,h1⟩
   have HN1:Hid (AlAt f W0 w wb O s c a v6 kx (i+1) w1):=h1
   clear hu h1 x0 x1 x2 x3 x4 x5
   go_wp2_with fail
   refine⟨⟨i+1,HN1,by go_num⟩,?_⟩
   simp[intOf]
   have:=HQ.out
   omega
  ·have hil:¬(i:Int)<kx.length:=by omega
   have HF:=HLA.out i wr HE.out c
   have HF2:Hid (P (.returned (.tuple #[])) wr):=HF
   clear HE HST HK HLA HF
   go_wp2_with fail
   go_end0
   exact HF2.out
end Go.Proofs.YtihmdcdifakepaaGreat.Rv.Rx
