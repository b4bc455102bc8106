/- MS, ZH, MT, MU -/
import Derived.Test.YtihmdcdifakepaaGreatB20
import Derived.Deep.RegionWith
import Derived.Deep.RegionHeldLaw
import Derived.Test.YtihmdcdifakepaaGreatMD
import Derived.Test.YtihmdcdifakepaaGreatB9
set_option linter.unusedVariables false
set_option linter.unusedSimpArgs false
set_option maxRecDepth 100000
set_option maxHeartbeats 40000000
namespace Go.Proofs.YtihmdcdifakepaaGreat.Rv
open Go.RowKit Go.Proofs.YtihmdcdifakepaaGreat.Sc Go.Proofs.YtihmdcdifakepaaGreat.Rz
def rsO (off kq:Nat):Nat:=if kq=0 then off else off+6
theorem run_rest (w:World)(b off m kq:Nat)(h:m≤kq):(Instr.slice 23 (.slice (some ⟨b,off,none⟩) (m+1) (kq+1)) (some (.int .i64 1)) none none).run Tryz.prog w = .ok (.slice (some ⟨b,rsO off kq,none⟩) m kq) w:=by
 have h1:(1:Int)≤(m:Int)+1:=by omega
 unfold rsO
 by_cases c:kq=0
 ·subst c
  obtain rfl:m=0:=by omega
  simp[Instr.slice,Instr.sliceBounds,Instr.sliceBound,asIntOf,run_underlying Tryz.underlying23,go_sem,h1]
 ·simp[Instr.slice,Instr.sliceBounds,Instr.sliceBound,asIntOf,run_underlying Tryz.underlying23,go_sem,h1,c]
theorem kids_rest {n:Nat}{w:World}{b off kq:Nat}{t:Tr n}{r:List (Tr n)}(h:Sli.ok (encT n) 6 w ⟨some ⟨b,off,none⟩,kq+1,t :: r⟩):Sli.ok (encT n) 6 w ⟨some ⟨b,rsO off kq,none⟩,kq,r⟩:=by
 have h1:=h.len
 have h2:=h.cap
 simp only[List.length_cons] at h1 h2
 refine⟨by simp only;omega,by simp only;omega,fun h0 => ?_⟩
 have hk:kq≠0:=by
  intro q
  have:r.length=0:=by omega
  exact h0 (List.eq_nil_of_length_eq_zero this)
 unfold rsO
 rw[if_neg hk]
 refine⟨b,off+6,rfl,fun i y hi j u hj => ?_⟩
 obtain⟨b',off',e1,hc⟩:=h.cells (by simp)
 cases e1
 have:=hc (i+1) y (by simpa using hi) j u hj
 rw[show off+6+i*6+j=off+(i+1)*6+j by omega]
 exact this
theorem nd_same:∀(n:Nat)(t:Tr n),ndR n t=ndT n t
 | 0,t=>nomatch (t:Empty)
 | n+1,(x,s)=>rfl
theorem okT_name {n:Nat}{w:World}{t:Tr n}(h:okT n w t):(ndT n t).name.size≤maxLen:=by
 cases n with
 | zero=>exact nomatch (t:Empty)
 | succ n=>obtain⟨x,s⟩:=t;exact h.1.name
theorem use_lt {s s1:Rz.RS}(h:Gd s){nm:ByteArray}{pl:Int}{v:Option Nat}(e:useP bi nm pl s = .ok (v,s1)):∀i,v=some i→i<s1.vars.length:=by
 intro i hi
 subst hi
 unfold useP at e
 split at e
 ·rename_i v' hf
  have e:=Except.ok.inj e
  have e1:=(Prod.mk.inj e).1
  have e2:=(Prod.mk.inj e).2
  obtain rfl:v'=i:=Option.some.inj e1
  have:=find_lt nm _ s.blocks v' h.blk hf
  rw[←e2]
  split
  ·simpa [capP] using this
  ·exact this
 ·split at e
  ·have e:=Except.ok.inj e
   have e1:=(Prod.mk.inj e).1
   cases e1
  ·cases e
theorem give_any (W0:World)(n:Nat)(hN:NC W0 n)(w:World)(rb:Nat)(O:Nat→Prop)(s:Rz.RS)(v6:Value)(h:On W0 rb O s v6 w)(x:Nd)(ka:Option Addr)(kc:Nat)(t:Tr n)(r:List (Tr n))(hok:Sli.ok (encT n) 6 W0 ⟨ka,kc,t :: r⟩)(hks:∀y∈t :: r,okF n W0 y)(hb:cr s+3+8*((t :: r).map (szT n)).sum≤lim)(hd:dp s+4*n≤lim) :
  Calls Tryz.prog 81 #[.pointer (some ⟨rb,0,none⟩),.agg #[.int .i64 x.kind,.int .i64 x.pl,.string x.name,.int .u64 x.num,.string x.op,.slice ka (r.length+1) kc]] w (Out w W0.heap.size rb O v6 (.tuple #[]) (giveP bi (ndR n) (resP bi n).1 (t :: r) s)):=by
 obtain⟨y,b,off,k1,k2,x0,x1,x2,x3,x4,x5⟩:=kid_at (hok.kept (Sc.cells_below h.bel)) (k:=0) (by simp)
 simp only at k1 k2
 subst k1
 obtain rfl:t=y:=by simpa using k2
 simp only[Nat.zero_mul,Nat.add_zero] at x0 x1 x2 x3 x4 x5
 have hcl:=hok.len
 have hcm:=hok.cap
 simp only[List.length_cons] at hcl hcm
 obtain⟨kq,rfl⟩:∃kq,kc=kq+1:=⟨kc - 1,by omega⟩
 obtain⟨w0,hw0⟩:∃w0,w0=w.alloc (.cells #[.int .i64 x.kind,.int .i64 x.pl,.string x.name,.int .u64 x.num,.string x.op,.slice (some ⟨b,off,none⟩) (r.length+1) (kq+1)] 25):=⟨_,rfl⟩
 have hbl0:Below w.heap.size w w0:=by rw[hw0];exact below_new (Below.refl _ _) (Nat.le_refl _) _
 have a5:w0.cell? ⟨w.heap.size,5,none⟩=some (.slice (some ⟨b,off,none⟩) (r.length+1) (kq+1)):=by rw[hw0];exact box_new w _ _ 5 _ rfl
 have z0:=Sc.cells_below hbl0 _ _ x0
 have z1:=Sc.cells_below hbl0 _ _ x1
 have z2:=Sc.cells_below hbl0 _ _ x2
 have z3:=Sc.cells_below hbl0 _ _ x3
 have z4:=Sc.cells_below hbl0 _ _ x4
 have z5:=Sc.cells_below hbl0 _ _ x5
 have hsz0:w0.heap.size=w.heap.size+1:=by rw[hw0,size_new]
 obtain⟨wb,hwb⟩:∃wb,wb=w0.alloc (.cells #[.int .i64 (ndT n t).kind,.int .i64 (ndT n t).pl,.string (ndT n t).name,.int .u64 (ndT n t).num,.string (ndT n t).op,.slice (atT n t) (nkT n t) (capT n t)] 25):=⟨_,rfl⟩
 have hblb:Below w0.heap.size w0 wb:=by rw[hwb];exact below_new (Below.refl _ _) (Nat.le_refl _) _
 have hbl:Below w.heap.size w wb:=hbl0.trans (hblb.mono hbl0.size)
 have b5:=Sc.cells_below hblb _ _ a5
 have hbx:wb.heap[w0.heap.size]?=some (.cells #[.int .i64 (ndT n t).kind,.int .i64 (ndT n t).pl,.string (ndT n t).name,.int .u64 (ndT n t).num,.string (ndT n t).op,.slice (atT n t) (nkT n t) (capT n t)] 25 (0,0)):=by rw[hwb];exact at_new _ _
 clear x0 x1 x2 x3 x4 x5
 have g0:wb.cell? ⟨w0.heap.size,0,none⟩=some (.int .i64 (ndT n t).kind):=by rw[cell_of_row wb _ 0 _ 25 (0,0) hbx];rfl
 have g1:wb.cell? ⟨w0.heap.size,1,none⟩=some (.int .i64 (ndT n t).pl):=by rw[cell_of_row wb _ 1 _ 25 (0,0) hbx];rfl
 have g2:wb.cell? ⟨w0.heap.size,2,none⟩=some (.string (ndT n t).name):=by rw[cell_of_row wb _ 2 _ 25 (0,0) hbx];rfl
 have g3:wb.cell? ⟨w0.heap.size,3,none⟩=some (.int .u64 (ndT n t).num):=by rw[cell_of_row wb _ 3 _ 25 (0,0) hbx];rfl
 have g4:wb.cell? ⟨w0.heap.size,4,none⟩=some (.string (ndT n t).op):=by rw[cell_of_row wb _ 4 _ 25 (0,0) hbx];rfl
 have g5:wb.cell? ⟨w0.heap.size,5,none⟩=some (.slice (atT n t) (nkT n t) (capT n t)):=by rw[cell_of_row wb _ 5 _ 25 (0,0) hbx];rfl
 have HB:Hid (Below w.heap.size w wb):=hbl
 have hon:=h.below hbl
 have hrl:(r.length:Int)+1≤9223372036854775807:=by unfold maxLen at hcm;omega
 have hkc:(r.length:Int)+1≤(kq+1:Nat):=by omega
 have hkm:((kq+1:Nat):Int)≤9223372036854775807:=by unfold maxLen at hcm;omega
 obtain⟨R,hR⟩:∃R,R=giveP bi (ndR n) (resP bi n).1 (t :: r) s:=⟨_,rfl⟩
 rw[←hR]
 unfold giveP at hR
 simp only at hR
 rw[nd_same] at hR
 by_cases c:(ndT n t).kind=3
 ·rw[if_pos c] at hR
  have HRe:Hid (∀er,useP bi (ndT n t).name (ndT n t).pl s = .error er→R = .error er):=fun er e=>by rw[hR,e]
  have HRs:Hid (∀v s1,useP bi (ndT n t).name (ndT n t).pl s = .ok (v,s1)→staysP v s1=true→R = .error ((ndT n t).pl,74)):=fun v s1 e e2=>by rw[hR,e];simp only[e2,if_true]
  have HRn:Hid (∀v s1,useP bi (ndT n t).name (ndT n t).pl s = .ok (v,s1)→staysP v s1=false→R=eachP (resP bi n).1 r s1):=fun v s1 e e2=>by rw[hR,e];simp only[e2,Bool.false_eq_true,if_false]
  clear hR
  have c':((ndT n t).kind != 3)=false:=by rw[c];rfl
  have hbgs:bg s≤1000000000:=bg_of (by simp only[List.map_cons,List.sum_cons] at hb;omega) (by omega)
  have ku:=use_any wb W0.heap.size rb O s v6 hon.mem hbgs (ndT n t).kind (ndT n t).pl (ndT n t).num (ndT n t).name (ndT n t).op (.slice (atT n t) (nkT n t) (capT n t)) (okT_name (hks t (List.mem_cons_self ..)).1)
  have HOL:Hid (∀b,O b→b<w.heap.size):=fun b q=>(h.mem.lt b q).2
  have HREST:Hid (∀v s1 w1,useP bi (ndT n t).name (ndT n t).pl s = .ok (v,s1)→Went wb W0.heap.size rb O s1 v6 w1→(Calls Tryz.prog 93 #[.pointer (some ⟨rb,0,none⟩),.int .i64 ((v.map (fun i=>(i:Int))).getD (-1))] w1 fun e w'=>e = .returned (.bool (staysP v s1))∧w'=w1)∧(Calls Tryz.prog 50 #[.pointer (some ⟨rb,0,none⟩),.slice (some ⟨b,rsO off kq,none⟩) r.length kq] w1 (Out w W0.heap.size rb O v6 (.tuple #[]) (eachP (resP bi n).1 r s1)))):=fun v s1 w1 hu hw=>by
   have hlt:=use_lt hon.mem.gd hu
   have hcr:=cr_use bi _ _ s s1 v hu
   have hsm:=use_same bi _ _ s s1 v hu
   obtain⟨O1,o1,o2,o3⟩:=hon.went hw
   refine⟨stays_any w1 _ rb O1 s1 v6 o1.mem v hlt,?_⟩
   simp only[List.map_cons,List.sum_cons] at hb
   refine(each_any W0 n hN w1 rb O1 s1 v6 o1 ⟨some ⟨b,rsO off kq,none⟩,kq,r⟩ (kids_rest hok) (fun y hy=>hks y (List.mem_cons_of_mem _ hy)) (by simp only;omega) (by unfold dp at *;rw[hsm.blocks,hsm.labels,hsm.loops];exact hd)).mono ?_
   intro e w' ho
   have hcw:Chg O w w1:=(Chg.of_below hbl).trans o2 (fun _ _ q=>q)
   have h3:∀b,O1 b→O b∨w.heap.size≤b:=fun b q=>(o3 b q).imp id (fun q=>Nat.le_trans hbl.size q)
   have hsub:∀a,a<w.heap.size→O1 a→O a:=fun a ha q=>by
    rcases h3 a q with c | c
    ·exact c
    ·omega
   cases hr:eachP (resP bi n).1 r s1 with
   | error er =>
     simp only at ho
     rw[hr] at ho
     exact⟨ho.1,hcw.trans ho.2 hsub⟩
   | ok s2 =>
     simp only at ho
     rw[hr] at ho
     obtain⟨p1,O2,p2,p3,p4⟩:=ho
     exact⟨p1,O2,p2,hcw.trans p3 hsub,fun b q=>by
      rcases p4 b q with c | c
      ·exact h3 b c
      ·exact Or.inr (Nat.le_trans hcw.size c)⟩
  have HCB:Hid (∀w1,Chg O wb w1→w1.cell? ⟨w.heap.size,5,none⟩=some (.slice (some ⟨b,off,none⟩) (r.length+1) (kq+1))∧w1.cell? ⟨w0.heap.size,1,none⟩=some (.int .i64 (ndT n t).pl)∧Chg O w w1):=fun w1 hc=>⟨hc.cell b5 (fun q=>by have:=HOL.out _ q;simp only at this;omega),hc.cell g1 (fun q=>by have:=HOL.out _ q;simp only at this;omega),(Chg.of_below hbl).trans hc (fun _ _ q=>q)⟩
  have hwn:¬w.heap.size=w0.heap.size:=by omega
  clear hon hok hks hb hd hN h hcl hcm hbx k2 c hbl hbgs hbl0 hblb hsz0
  generalize (ndT n t).kind=q0 at *
  generalize (ndT n t).pl=q1 at *
  generalize (ndT n t).name=q2 at *
  generalize (ndT n t).num=q3 at *
  generalize (ndT n t).op=q4 at *
  generalize atT n t=q5 at *
  generalize nkT n t=q6 at *
  generalize capT n t=q7 at *
  generalize useP bi q2 q1 s=u at *
  go_enter Tryz.func81,Tryz.ntmps81
  go_upto_region 1 with fail
  rw[←hw0]
  clear hw0
  go_upto_region 2 with fail
  rw[←hwb]
  clear hwb z0 z1 z2 z3 z4 z5 a5
  go_wp2_with fail
  refine ku.mono ?_
  intro e w1 ho
  clear ku
  cases u with
  | error er =>
    obtain⟨rfl,g⟩:=ho
    refine⟨rfl,?_⟩
    rw[HRe.out er rfl]
    exact⟨rfl,(HCB.out w1 g).2.2⟩
  | ok p =>
    obtain⟨v,s1⟩:=p
    obtain⟨rfl,g⟩:=ho
    obtain⟨k1,k2⟩:=HREST.out v s1 w1 rfl g
    obtain⟨y5,y1,yc⟩:=HCB.out w1 (by obtain⟨_,_,gg,_⟩:=g;exact gg)
    have HYC:Hid (Chg O w w1):=yc
    clear g yc b5 g0 g1 g2 g3 g4 g5 HREST HCB
    generalize (v.map (fun i=>(i:Int))).getD (-1)=pv at *
    cases hst:staysP v s1 with
    | true =>
      rw[hst] at k1
      clear k2
      go_wp2_with fail
      refine k1.mono ?_
      rintro e w2 ⟨rfl,rfl⟩
      clear k1
      have HST:Hid (staysP v s1=true):=hst
      clear hst
      go_wp2_with fail
      refine⟨rfl,?_⟩
      rw[HRs.out v s1 rfl HST.out]
      exact⟨rfl,HYC.out⟩
    | false =>
      rw[hst] at k1
      have HST:Hid (staysP v s1=false):=hst
      have K2:Hid (Calls Tryz.prog 50 #[.pointer (some ⟨rb,0,none⟩),.slice (some ⟨b,rsO off kq,none⟩) r.length kq] w1 (Out w W0.heap.size rb O v6 (.tuple #[]) (eachP (resP bi n).1 r s1))):=k2
      clear hst k2
      go_wp2_with fail
      refine k1.mono ?_
      rintro e w2 ⟨rfl,rfl⟩
      clear k1
      have h1r:(1:Int)≤(r.length:Int)+1:=by omega
      have h2r:(r.length:Int)+1≤(kq:Int)+1:=by omega
      have h3r:(kq:Int)+1≤9223372036854775807:=by omega
      have hsl:=fun w=>run_rest w b off r.length kq (by omega)
      clear hkc hkm hrl c' hwn h1r h2r h3r
      go_wp2_with fail
      refine K2.out.mono ?_
      intro e w3 ho
      clear K2
      cases hq:eachP (resP bi n).1 r s1 with
      | error er =>
        rw[hq] at ho
        obtain⟨rfl,g⟩:=ho
        refine⟨rfl,?_⟩
        rw[HRn.out v s1 rfl HST.out,hq]
        exact⟨rfl,g⟩
      | ok s' =>
        rw[hq] at ho
        obtain⟨rfl,g⟩:=ho
        have HG:Hid (Went w W0.heap.size rb O s' v6 w3):=g
        have HQ:Hid (eachP (resP bi n).1 r s1 = .ok s'):=hq
        clear g hq
        go_wp2_with fail
        go_end0
        rw[HRn.out v s1 rfl HST.out,HQ.out]
        exact⟨rfl,HG.out⟩
 ·rw[if_neg c] at hR
  subst hR
  have c':((ndT n t).kind != 3)=true:=by simpa using c
  have ke:=each_any W0 n hN wb rb O s v6 hon ⟨some ⟨b,off,none⟩,kq+1,t :: r⟩ hok hks (by simp only;omega) hd
  simp only[List.length_cons] at ke
  generalize eachP (resP bi n).1 (t :: r) s=q at *
  clear hon hok hks hb hd hN h hcl hcm hbx k2 c hbl
  generalize (ndT n t).kind=q0 at *
  generalize (ndT n t).pl=q1 at *
  generalize (ndT n t).name=q2 at *
  generalize (ndT n t).num=q3 at *
  generalize (ndT n t).op=q4 at *
  generalize atT n t=q5 at *
  generalize nkT n t=q6 at *
  generalize capT n t=q7 at *
  have hwn:¬w.heap.size=w0.heap.size:=by omega
  clear hbl0 hblb hsz0
  go_enter Tryz.func81,Tryz.ntmps81
  go_upto_region 1 with fail
  rw[←hw0]
  clear hw0
  go_upto_region 2 with fail
  rw[←hwb]
  clear hwb z0 z1 z2 z3 z4 z5 a5
  go_wp2_with fail
  refine ke.mono ?_
  intro e w1 ho
  have ho2:=ho.behind HB.out
  clear ke ho
  cases q with
  | error er =>
    obtain⟨rfl,g⟩:=ho2
    exact⟨rfl,rfl,g⟩
  | ok s' =>
    obtain⟨rfl,g⟩:=ho2
    have HG:Hid (Went w W0.heap.size rb O s' v6 w1):=g
    clear g
    go_wp2_with fail
    go_end0
    exact⟨rfl,HG.out⟩
end Go.Proofs.YtihmdcdifakepaaGreat.Rv
namespace Go.Proofs.YtihmdcdifakepaaGreat.Rv.Rx
open Go.RowKit Go.Proofs.YtihmdcdifakepaaGreat.Sc Go.Proofs.YtihmdcdifakepaaGreat.Rz
structure BkAt {n:Nat}(W0 w:World)(wb:Nat)(O:Nat→Prop)(s:Rz.RS)(c a:Int)(v6:Value)(xs:List (Tr n))(i:Nat)(wr:World):Prop where
 le:i≤xs.length
 st:∃s1 c1 a1,Told (2*i) (headsP (ndT n) (xs.take i) s) s c a s1 c1 a1∧RWent w W0.heap.size wb O s1 c1 a1 v6 wr
section
variable {n:Nat}{W0 w:World}{wb:Nat}{O:Nat→Prop}{s:Rz.RS}{c a:Int}{v6:Value}{xs:List (Tr n)}{i:Nat}{wr:World}
theorem BkAt.start (h:OnD W0 wb O s c a v6 w):BkAt W0 w wb O s c a v6 xs 0 w :=
 ⟨Nat.zero_le _,s,c,a,Told.ok s c a,RWent.same h.mem (Below.refl _ _)⟩
theorem BkAt.bel (h:OnD W0 wb O s c a v6 w)(k:BkAt W0 w wb O s c a v6 xs i wr):Below W0.heap.size W0 wr:=by
 obtain⟨s1,c1,a1,_,hw⟩:=k.st
 obtain⟨O1,o1,_,_⟩:=h.went hw
 exact o1.bel
theorem BkAt.skip (k:BkAt W0 w wb O s c a v6 xs i wr){t:Tr n}(ht:xs[i]?=some t)(hn:∀s,hdD (ndT n t) s = .ok s){wc:World}(hc:Below wr.heap.size wr wc):BkAt W0 w wb O s c a v6 xs (i+1) wc:=by
 have hil:i<xs.length:=(List.getElem?_eq_some_iff.1 ht).1
 obtain⟨s1,c1,a1,ht1,hw⟩:=k.st
 refine⟨hil,s1,c1,a1,?_,hw.then hc⟩
 rw[List.take_add_one,ht,Option.toList_some,heads_snoc]
 refine(Told.bind (f:=headsP (ndT n) (xs.take i)) (g:=hdD (ndT n t)) (k':=0) ht1 ?_).mono (by omega)
 rw[hn]
 exact Told.ok s1 c1 a1
theorem BkAt.step (h0:OnD W0 wb O s c a v6 w)(k:BkAt W0 w wb O s c a v6 xs i wr){t:Tr n}(ht:xs[i]?=some t)(hs:(ndT n t).name.size≤maxLen)(kd:Int)(hn:∀s,hdD (ndT n t) s=declP (ndT n t).name (ndT n t).pl kd s)(hb:cr s+2*xs.length≤lim)(hm:1≤s.blocks.length){wc:World}(hc:Below wr.heap.size wr wc) :
  Calls Tryz.prog 19 #[.pointer (some ⟨wb,0,none⟩),.string (ndT n t).name,.int .i64 (ndT n t).pl,.int .i64 kd] wc fun e w'=>e = .returned (.tuple #[])∧BkAt W0 w wb O s c a v6 xs (i+1) w':=by
 have hil:i<xs.length:=(List.getElem?_eq_some_iff.1 ht).1
 obtain⟨s1,c1,a1,ht1,hw⟩:=k.st
 have hcr:=ht1.cr
 have hbl:=ht1.lk.blen
 refine(relT h0 (hw.then hc) fun O1 o1=>declare_any wc W0.heap.size wb O1 s1 c1 a1 v6 o1.mem (by unfold lim at hb;omega) (by omega) (ndT n t).name hs (ndT n t).pl kd).mono ?_
 rintro e w' ⟨he,s2,c2,a2,ht2,hw2⟩
 refine⟨he,hil,s2,c2,a2,?_,hw2⟩
 rw[List.take_add_one,ht,Option.toList_some,heads_snoc]
 refine(Told.bind (f:=headsP (ndT n) (xs.take i)) (g:=hdD (ndT n t)) (k':=2) ht1 ?_).mono (by omega)
 rw[hn]
 exact ht2
end
theorem block_any (W0:World)(n:Nat)(hS:StC W0 n)(w:World)(wb:Nat)(O:Nat→Prop)(s:Rz.RS)(c a:Int)(v6:Value)(h:OnD W0 wb O s c a v6 w)(sl:Sli (Tr n))(hok:sl.ok (encT n) 6 W0)(hks:∀y∈sl.xs,okD n W0 y)(hb:cr s+8*(sl.xs.map (szT n)).sum≤lim)(hd:dp s+4*n≤lim)(hm:1≤s.blocks.length) :
  Calls Tryz.prog 12 #[.pointer (some ⟨wb,0,none⟩),.slice sl.at' sl.xs.length sl.cap] w (Tl w W0.heap.size wb O v6 (8*(sl.xs.map (szT n)).sum) (itemsP (ndT n) (resR bi n).2.1 sl.xs s) s c a):=by
 obtain⟨ka,kc,kx⟩:=sl
 simp only at *
 have hsl:=sum_len (szT n) (sz_pos n) kx
 obtain⟨f,hf⟩:∃f,f=(resR bi n).2.1:=⟨_,rfl⟩
 have hS:CalF W0 n 20 f 1:=by rw[hf];exact hS
 rw[←hf]
 have HS:Hid (BkAt W0 w wb O s c a v6 kx 0 w):=BkAt.start h
 have HST:Hid (∀(i:Nat) (t:Tr n),kx[i]?=some t→∀wr,BkAt W0 w wb O s c a v6 kx i wr→∀kd:Int,(∀s,hdD (ndT n t) s=declP (ndT n t).name (ndT n t).pl kd s)→∀wc,Below wr.heap.size wr wc→Calls Tryz.prog 19 #[.pointer (some ⟨wb,0,none⟩),.string (ndT n t).name,.int .i64 (ndT n t).pl,.int .i64 kd] wc fun e w'=>e = .returned (.tuple #[])∧BkAt W0 w wb O s c a v6 kx (i+1) w'):=fun i t ht wr he kd hk wc hc=>he.step h ht (okT_name (hks t (List.mem_of_getElem? ht)).1) kd hk (by omega) hm hc
 have HSK:Hid (∀(i:Nat) (t:Tr n),kx[i]?=some t→∀wr,BkAt W0 w wb O s c a v6 kx i wr→(∀s,hdD (ndT n t) s = .ok s)→BkAt W0 w wb O s c a v6 kx (i+1) wr):=fun i t ht wr he hk=>he.skip ht hk (Below.refl _ _)
 have HK:Hid (∀i wr,BkAt W0 w wb O s c a v6 kx i wr→Sli.ok (encT n) 6 wr ⟨ka,kc,kx⟩):=fun i wr he=>hok.kept (Sc.cells_below (he.bel h))
 have HLA:Hid (∀i wr,BkAt W0 w wb O s c a v6 kx i wr→kx.length≤i→∃Q:Nat→World→Prop,Q 0 wr∧(∀j w1,Q j w1→Sli.ok (encT n) 6 w1 ⟨ka,kc,kx⟩∧j≤kx.length)∧(∀j t,kx[j]?=some t→∀w1,Q j w1→Calls Tryz.prog 20 #[.pointer (some ⟨wb,0,none⟩),valT n t] w1 fun e w'=>e = .returned (.tuple #[])∧Q (j+1) w')∧∀j w1,Q j w1→kx.length≤j→Tl w W0.heap.size wb O v6 (8*(kx.map (szT n)).sum) (itemsP (ndT n) f kx s) s c a (.returned (.tuple #[])) w1):=fun i wr he hi=>by
  obtain⟨s1,c1,a1,ht1,hw1⟩:=he.st
  have e:i=kx.length:=by have:=he.le;omega
  rw[e,List.take_length] at ht1
  obtain⟨O1,o1,p1,p2⟩:=h.went hw1
  have hcr:=ht1.cr
  have hdp:=ht1.lk.dp
  have hbl:=ht1.lk.blen
  refine⟨fun j w1=>AlAt f W0 wr wb O1 s1 c1 a1 v6 kx j w1∧j≤kx.length,⟨AlAt.start o1,Nat.zero_le _⟩,fun j w1 q=>⟨hok.kept (Sc.cells_below (q.1.bel o1)),q.2⟩,fun j t ht w1 q => ?_,fun j w1 q hj => ?_⟩
  ·obtain⟨s2,c2,a2,ht2,hw2⟩:=q.1.st
   have hjl:j<kx.length:=(List.getElem?_eq_some_iff.1 ht).1
   obtain⟨q1,q2,q3,q4⟩:=take_sum ht
   have hc2:=ht2.cr
   have hd2:=ht2.lk.dp
   have hb2:=ht2.lk.blen
   refine(relT o1 hw2 fun O2 o2=>hS t (hks t (List.mem_of_getElem? ht)) w1 wb O2 s2 c2 a2 v6 o2 (by omega) (by omega) (by omega)).mono ?_
   rintro e w' ⟨he,s3,c3,a3,ht3,hw3⟩
   refine⟨he,⟨hjl,s3,c3,a3,?_,hw3⟩,hjl⟩
   rw[List.take_add_one,ht,Option.toList_some,each_snoc]
   refine(Told.bind (f:=eachP f (kx.take j)) (g:=f t) ht2 ht3).mono ?_
   have:((kx.take j++[t]).map (szT n)).sum=((kx.take j).map (szT n)).sum+szT n t:=by simp
   omega
  ·obtain⟨s2,c2,a2,ht2,hw2⟩:=q.1.last hj
   refine⟨rfl,s2,c2,a2,?_,rwent_then p1 p2 hw2⟩
   exact(Told.bind (f:=headsP (ndT n) kx) (g:=eachP f kx) ht1 ht2).mono (by omega)
 have hlim:(kx.length:Int)≤9223372036854775806:=by
  unfold lim at hb
  omega
 obtain⟨P,hP⟩:∃P,P=Tl w W0.heap.size wb O v6 (8*(kx.map (szT n)).sum) (itemsP (ndT n) f kx s) s c a:=⟨_,rfl⟩
 rw[←hP] at HLA ⊢
 clear h hok hks hb hd hS hf hP hsl
 go_enter Tryz.func12,Tryz.ntmps12
 go_wp2_with fail
 go_loopw [4] (fun i wr=>∃k:Nat,Hid (BkAt W0 w wb O s c a v6 kx k wr)∧i = .int .i64 (k:Int)) (fun i wr=>kx.length - (intOf i).toNat)
 case atStart=>exact⟨0,HS,rfl⟩
 case round =>
  clear HS
  obtain⟨i,HE,rfl⟩:=hrel
  rcases Nat.lt_or_ge i kx.length with cl | cl
  ·obtain⟨y,b,off,k1,k2,x0,x1,x2,x3,x4,x5⟩:=kid_at (HK.out i wr HE.out) (k:=i) cl
   simp only at k1 k2
   subst k1
   have hil:(i:Int)<kx.length:=by omega
   have HQ:Hid (i<kx.length):=cl
   have HU:Hid (∀kd:Int,(∀s,hdD (ndT n y) s=declP (ndT n y).name (ndT n y).pl kd s)→∀wc,Below wr.heap.size wr wc→Calls Tryz.prog 19 #[.pointer (some ⟨wb,0,none⟩),.string (ndT n y).name,.int .i64 (ndT n y).pl,.int .i64 kd] wc fun e w'=>e = .returned (.tuple #[])∧BkAt W0 w wb O s c a v6 kx (i+1) w'):=HST.out i y k2 wr HE.out
   have HV:Hid ((∀s,hdD (ndT n y) s = .ok s)→BkAt W0 w wb O s c a v6 kx (i+1) wr):=HSK.out i y k2 wr HE.out
   have HH:Hid (∀s,hdD (ndT n y) s=if (ndT n y).kind=31 then declP (ndT n y).name (ndT n y).pl 1 s else if (ndT n y).kind=32 then declP (ndT n y).name (ndT n y).pl 2 s else if (ndT n y).kind=33 then declP (ndT n y).name (ndT n y).pl 4 s else .ok s):=fun s=>rfl
   have HX0:Hid (∀w1,BkAt W0 w wb O s c a v6 kx (i+1) w1→w1.cell? ⟨b,off+i*6,none⟩=some (.int .i64 (ndT n y).kind)):=fun w1 q=>by
    obtain⟨b',off',e1,h2⟩:=(HK.out (i+1) w1 q).cells (by intro e;simp only at e;rw[e] at cl;simp at cl)
    cases e1
    exact h2 i y k2 0 _ rfl
   have HDW:Hid (Below wr.heap.size wr wr.drew):=(Below.refl _ _).drew
   clear k2 HE HST HSK HLA HK cl x3 x4 x5
   generalize hdD (ndT n y)=H1 at *
   generalize (ndT n y).kind=kd at *
   generalize (ndT n y).pl=q1 at *
   generalize (ndT n y).name=q2 at *
   have y1:=Sc.cells_below HDW.out _ _ x1
   have y2:=Sc.cells_below HDW.out _ _ x2
   by_cases k31:kd=31
   ·subst k31
    have hu:=HU.out 1 (fun s1=>by rw[HH.out];rfl) wr.drew HDW.out
    clear HU HV HH
    go_upto_region 4 with fail
    go_region_with (go_at_call 19;refine hu.mono ?_;rintro e w1 ⟨rfl,h1⟩)
    all_goals
     have HN1:Hid (BkAt W0 w wb O s c a v6 kx (i+1) w1):=h1
     have z0:=HX0.out w1 h1
     clear hu h1 x0 x1 x2 y1 y2 HX0 HDW
     go_wp2_with fail
     refine⟨⟨i+1,HN1,by go_num⟩,?_⟩
     simp[intOf]
     have:=HQ.out
     omega
   by_cases k32:kd=32
   ·subst k32
    have hu:=HU.out 2 (fun s1=>by rw[HH.out];rfl) wr.drew HDW.out
    clear HU HV HH
    go_upto_region 6 with fail
    go_region_with (go_at_call 19;refine hu.mono ?_;rintro e w1 ⟨rfl,h1⟩)
    all_goals
     have HN1:Hid (BkAt W0 w wb O s c a v6 kx (i+1) w1):=h1
     have z0:=HX0.out w1 h1
     clear hu h1 x0 x1 x2 y1 y2 HX0 HDW
     go_wp2_with fail
     refine⟨⟨i+1,HN1,by go_num⟩,?_⟩
     simp[intOf]
     have:=HQ.out
     omega
   by_cases k33:kd=33
   ·subst k33
    have hu:=HU.out 4 (fun s1=>by rw[HH.out];rfl) wr.drew HDW.out
    clear HU HV HH
    go_upto_region 8 with fail
    go_region_with (go_at_call 19;refine hu.mono ?_;rintro e w1 ⟨rfl,h1⟩)
    all_goals
     have HN1:Hid (BkAt W0 w wb O s c a v6 kx (i+1) w1):=h1
     have z0:=HX0.out w1 h1
     clear hu h1 x0 x1 x2 y1 y2 HX0 HDW
     go_wp2_with fail
     refine⟨⟨i+1,HN1,by go_num⟩,?_⟩
     simp[intOf]
     have:=HQ.out
     omega
   ·have HN1:Hid (BkAt W0 w wb O s c a v6 kx (i+1) wr):=HV.out (fun s1=>by rw[HH.out,if_neg k31,if_neg k32,if_neg k33])
    have j1:(kd == (31:Int))=false:=by simpa using k31
    have j2:(kd == (32:Int))=false:=by simpa using k32
    have j3:(kd == (33:Int))=false:=by simpa using k33
    clear HU HV HH HX0 HDW x1 x2 y1 y2
    go_wp2_with fail
    refine⟨⟨i+1,HN1,by go_num⟩,?_⟩
    simp[intOf]
    have:=HQ.out
    omega
  ·have hil:¬(i:Int)<kx.length:=by omega
   obtain⟨Q,hq0,hq1,hq2,hq3⟩:=HLA.out i wr HE.out cl
   have HQ0:Hid (Q 0 wr):=hq0
   have HQ1:Hid (∀j w1,Q j w1→Sli.ok (encT n) 6 w1 ⟨ka,kc,kx⟩∧j≤kx.length):=hq1
   have HQ2:Hid (∀j t,kx[j]?=some t→∀w1,Q j w1→Calls Tryz.prog 20 #[.pointer (some ⟨wb,0,none⟩),valT n t] w1 fun e w'=>e = .returned (.tuple #[])∧Q (j+1) w'):=hq2
   have HQ3:Hid (∀j w1,Q j w1→kx.length≤j→P (.returned (.tuple #[])) w1):=hq3
   clear HE HST HSK HK HLA hq0 hq1 hq2 hq3 cl
   go_wp2_with fail
   go_loopw [5] (fun j wr=>∃k:Nat,Hid (Q k wr)∧j = .int .i64 (k:Int)) (fun j wr=>kx.length - (intOf j).toNat)
   case atStart=>exact⟨0,HQ0,rfl⟩
   case round =>
    clear HQ0
    obtain⟨j,HE,rfl⟩:=hrel
    rcases Nat.lt_or_ge j kx.length with cl | cl
    ·obtain⟨y,b,off,k1,k2,x0,x1,x2,x3,x4,x5⟩:=kid_at (HQ1.out j wr HE.out).1 (k:=j) cl
     simp only at k1 k2
     subst k1
     have hjl:(j:Int)<kx.length:=by omega
     have hu:=HQ2.out j y k2 wr HE.out
     unfold valT at hu
     have HQQ:Hid (j<kx.length):=cl
     clear k2 HE HQ1 HQ2 HQ3 cl
     go_wp2_with fail
     refine hu.mono ?_
     rintro e w1 ⟨rfl,h1⟩
     have HN1:Hid (Q (j+1) w1):=h1
     clear hu h1 x0 x1 x2 x3 x4 x5
     go_wp2_with fail
     refine⟨⟨j+1,HN1,by go_num⟩,?_⟩
     simp[intOf]
     have:=HQQ.out
     omega
    ·have hjl:¬(j:Int)<kx.length:=by omega
     have HF2:Hid (P (.returned (.tuple #[])) wr):=HQ3.out j wr HE.out cl
     clear HE HQ1 HQ2 HQ3
     go_wp2_with fail
     go_end0
     exact HF2.out
end Go.Proofs.YtihmdcdifakepaaGreat.Rv.Rx
namespace Go.Proofs.YtihmdcdifakepaaGreat.Rv
open Go.RowKit Go.Proofs.YtihmdcdifakepaaGreat.Sc Go.Proofs.YtihmdcdifakepaaGreat.Rz
structure AskL (X:World→Prop)(f:Nat)(cap:Array Value)(g:ByteArray×Bool→Bool):Prop where
 ent:∀(args:Array Value) (w:World),(callFunc f args).run Tryz.prog w = .ok (.enter f args) w
 kept:∀ {w w':World},X w→Below w.heap.size w w'→X w'
 call:∀(e:ByteArray×Bool) (w:World),X w→Calls Tryz.prog f (#[.agg #[.string e.1,.bool e.2]]++cap) w fun r w'=>r = .returned (.bool (g e))∧Below w.heap.size w w'
def fnV (f:Nat)(cap:Array Value):Value := .func (.func f) #[] cap
theorem any_hit {g:ByteArray×Bool→Bool}{xs:List (ByteArray×Bool)}{i:Nat}{e:ByteArray×Bool}(hi:xs[i]?=some e)(h:g e=true):xs.any g=true:=List.any_eq_true.2 ⟨e,List.mem_of_getElem? hi,h⟩
theorem any_miss {g:ByteArray×Bool→Bool}{xs:List (ByteArray×Bool)}{i:Nat}{e:ByteArray×Bool}(hi:xs[i]?=some e)(h0:(xs.take i).any g=false)(h:g e=false):(xs.take (i+1)).any g=false:=by
 rw[List.take_add_one,hi,List.any_append,h0]
 simp[h]
theorem index_any {X:World→Prop}{f:Nat}{cap:Array Value}{g:ByteArray×Bool→Bool}(A:AskL X f cap g)(w:World)(hX:X w)(sl:Sli (ByteArray×Bool))(hok:sl.ok lbC 2 w) :
  Calls Tryz.prog 100 #[.slice sl.at' sl.xs.length sl.cap,fnV f cap] w fun r w'=>∃k:Int,r = .returned (.int .i64 k)∧(decide (0≤k)=sl.xs.any g)∧Below w.heap.size w w':=by
 have HA:Hid (AskL X f cap g):=A
 have HX:Hid (X w):=hX
 have HM:Hid (sl.ok lbC 2 w):=hok
 obtain⟨ad,cp,l⟩:=sl
 have hlim:(l.length:Int)≤9223372036854775807:=by have:=hok.len;have:=hok.cap;unfold maxLen at this;simp only at *;omega
 simp only at *
 unfold fnV
 clear A hX hok
 go_enter Tryz.func100,Tryz.ntmps100
 go_wp2_with fail
 go_loopw [8] (fun p wr=>∃i:Nat,i≤l.length∧Hid ((l.take i).any g=false)∧Hid (Below w.heap.size w wr)∧p = .int .i64 (i:Int)) (fun p wr=>((l.length:Int) - intOf p).toNat)
 case atStart=>exact⟨0,Nat.zero_le _,rfl,Below.refl _ _,rfl⟩
 case round =>
  obtain⟨i,hi,hno,hbw,rfl⟩:=hrel
  by_cases c:i<l.length
  ·have hex:∃x,l[i]?=some x:=⟨_,List.getElem?_eq_getElem c⟩
   obtain⟨x,hx⟩:=hex
   obtain⟨b,off,hb1,hcc⟩:=HM.out.cells (by intro q;simp only at q;rw[q] at hx;simp at hx)
   simp only at hb1
   subst hb1
   have c0:=Sc.cells_below hbw.out _ _ (hcc i x hx 0 _ rfl)
   have c1:=Sc.cells_below hbw.out _ _ (hcc i x hx 1 _ rfl)
   simp only[Nat.add_zero] at c0
   have hii:(i:Int)<(l.length:Int):=by omega
   have hii2:decide ((i:Int)<(l.length:Int))=true:=decide_eq_true hii
   have hw1:IntKind.i64.wrap ((i:Int)+1)=((i+1:Nat):Int):=by rw[IntKind.wrap_i64];omega
   have kc:=HA.out.call x wr (HA.out.kept HX.out hbw.out)
   have hen:=HA.out.ent (#[.agg #[.string x.1,.bool x.2]]++cap)
   have H1:Hid (g x=true→l.any g=true):=fun q=>any_hit hx q
   have H2:Hid (g x=false→(l.take (i+1)).any g=false):=fun q=>any_miss hx hno.out q
   have HI:Hid (i<l.length):=c
   obtain⟨x0,x1⟩:=x
   simp only at *
   generalize g (x0,x1)=r at *
   clear hcc hx hi hno
   go_wp2_with fail
   refine kc.mono ?_
   rintro ee w3 ⟨rfl,hb3⟩
   have HB3:Hid (Below w.heap.size w w3):=hbw.out.trans (hb3.mono hbw.out.size)
   clear kc hb3 hbw hen
   cases r with
   | true =>
     have HT:=(show Hid _ from H1.out rfl)
     clear H1 H2
     go_wp2_with fail
     go_ret
     refine⟨_,rfl,?_,HB3.out⟩
     rw[HT.out]
     simp
   | false =>
     have HT:=(show Hid _ from H2.out rfl)
     clear H1 H2
     go_wp2_with fail
     refine⟨⟨i+1,HI.out,HT,HB3,rfl⟩,?_⟩
     have:=HI.out
     simp[intOf]
     omega
  ·have hii2:¬((i:Int)<(l.length:Int)):=by omega
   have hil:i=l.length:=by omega
   subst hil
   rw[List.take_length] at hno
   clear HM
   go_wp2_with fail
   go_ret
   refine⟨_,rfl,?_,hbw.out⟩
   rw[hno.out]
   rfl
theorem contains_any {X:World→Prop}{f:Nat}{cap:Array Value}{g:ByteArray×Bool→Bool}(A:AskL X f cap g)(w:World)(hX:X w)(sl:Sli (ByteArray×Bool))(hok:sl.ok lbC 2 w) :
  Calls Tryz.prog 94 #[.slice sl.at' sl.xs.length sl.cap,fnV f cap] w fun r w'=>r = .returned (.bool (sl.xs.any g))∧Below w.heap.size w w':=by
 have ki:=index_any A w hX sl hok
 generalize sl.xs.any g=R at *
 generalize fnV f cap=F at *
 clear A hX hok
 go_enter Tryz.func94,Tryz.ntmps94
 go_wp2_with fail
 refine ki.mono ?_
 rintro e w1 ⟨k,rfl,hk,hb⟩
 have HB:Hid (Below w.heap.size w w1):=hb
 subst hk
 clear ki hb
 go_wp2_with fail
 go_ret
 exact⟨rfl,HB.out⟩
theorem str_eq (a b:ByteArray):(a.toList == b.toList)=decide (a=b):=by
 by_cases c:a=b
 ·subst c;simp
 ·rw[decide_eq_false c]
  have:a.toList≠b.toList:=fun q=>c (ByteArray.ext (Array.toList_inj.mp (by rw[←ByteArray.toList_eq,←ByteArray.toList_eq];exact q)))
  simpa using this
def NdB (nb:Nat)(x:Nd)(kv:Value)(w:World):Prop:=w.heap[nb]?=some (.cells #[.int .i64 x.kind,.int .i64 x.pl,.string x.name,.int .u64 x.num,.string x.op,kv] 25 (0,0))
theorem NdB.below {nb:Nat}{x:Nd}{kv:Value}{w w':World}(h:NdB nb x kv w)(hb:Below w.heap.size w w'):NdB nb x kv w':=by
 unfold NdB
 rw[hb.block nb (Array.getElem?_eq_some_iff.1 h).1]
 exact h
theorem ask_label (nb:Nat)(x:Nd)(kv:Value):AskL (NdB nb x kv) 95 #[.pointer (some ⟨nb,0,none⟩)] (fun e=>decide (e.1=x.name)):=by
 refine⟨fun _ _=>by kernel_rfl,fun h hb=>h.below hb,fun e w hX => ?_⟩
 have c2:w.cell? ⟨nb,2,none⟩=some (.string x.name):=cell_of_row w nb 2 _ _ (0,0) hX
 have hlt:nb<w.heap.size:=(Array.getElem?_eq_some_iff.1 hX).1
 obtain⟨wb,hwb⟩:∃wb,wb=w.alloc (.cells #[.string e.1,.bool e.2] 142):=⟨_,rfl⟩
 have hb:Below w.heap.size w wb:=by rw[hwb];exact(Below.refl _ _).alloc (Nat.le_refl _) _
 have d2:=Sc.cells_below hb _ _ c2
 have e0:wb.cell? ⟨w.heap.size,0,none⟩=some (.string e.1):=by rw[hwb];exact box_new w _ _ 0 _ rfl
 have HB:Hid (Below w.heap.size w wb):=hb
 obtain⟨x0,x1⟩:=e
 simp only at *
 generalize x.name=nm at *
 show Calls Tryz.prog 95 #[.agg #[.string x0,.bool x1],.pointer (some ⟨nb,0,none⟩)] w _
 clear hX c2 hb hlt
 go_enter Tryz.func95,Tryz.ntmps95
 go_upto_region 1 with fail
 rw[←hwb]
 clear hwb
 go_wp2_with fail
 go_ret
 refine⟨?_,HB.out⟩
 rw[←str_eq]
 rfl
theorem ask_jump (nb:Nat)(x:Nd)(kv:Value):AskL (NdB nb x kv) 102 #[.pointer (some ⟨nb,0,none⟩)] (fun e=>decide (e.1=x.name) && (e.2 || x.kind == 39)):=by
 refine⟨fun _ _=>by kernel_rfl,fun h hb=>h.below hb,fun e w hX => ?_⟩
 have c0:w.cell? ⟨nb,0,none⟩=some (.int .i64 x.kind):=cell_of_row w nb 0 _ _ (0,0) hX
 have c2:w.cell? ⟨nb,2,none⟩=some (.string x.name):=cell_of_row w nb 2 _ _ (0,0) hX
 obtain⟨wb,hwb⟩:∃wb,wb=w.alloc (.cells #[.string e.1,.bool e.2] 142):=⟨_,rfl⟩
 have hb:Below w.heap.size w wb:=by rw[hwb];exact(Below.refl _ _).alloc (Nat.le_refl _) _
 have d0:=Sc.cells_below hb _ _ c0
 have d2:=Sc.cells_below hb _ _ c2
 have e0:wb.cell? ⟨w.heap.size,0,none⟩=some (.string e.1):=by rw[hwb];exact box_new w _ _ 0 _ rfl
 have e1:wb.cell? ⟨w.heap.size,1,none⟩=some (.bool e.2):=by rw[hwb];exact box_new w _ _ 1 _ rfl
 have HB:Hid (Below w.heap.size w wb):=hb
 obtain⟨x0,x1⟩:=e
 simp only at *
 rw[←str_eq]
 generalize hq:(x0.toList == x.name.toList)=q at *
 generalize x.name=nm at *
 generalize x.kind=kd at *
 show Calls Tryz.prog 102 #[.agg #[.string x0,.bool x1],.pointer (some ⟨nb,0,none⟩)] w _
 clear hX c0 c2 hb
 cases q with
 | false =>
   go_enter Tryz.func102,Tryz.ntmps102
   go_upto_region 1 with fail
   rw[←hwb]
   clear hwb
   go_wp2_with fail
   go_ret
   exact⟨rfl,HB.out⟩
 | true =>
   cases x1 with
   | true =>
     go_enter Tryz.func102,Tryz.ntmps102
     go_upto_region 1 with fail
     rw[←hwb]
     clear hwb
     go_wp2_with fail
     go_ret
     exact⟨rfl,HB.out⟩
   | false =>
     generalize hk:(kd == 39)=k at *
     go_enter Tryz.func102,Tryz.ntmps102
     go_upto_region 1 with fail
     rw[←hwb]
     clear hwb
     go_wp2_with fail
     go_ret
     exact⟨rfl,HB.out⟩
def jmB (x:Nd)(s:Rz.RS):Bool:=if isS x.name [] then decide (0<s.loops) else s.labels.any fun e=>decide (e.1=x.name) && (e.2 || x.kind == 39)
theorem lab_sl {w:World}{B rb:Nat}{O:Nat→Prop}{s:Rz.RS}{v6:Value}(h:Mem w B rb O s v6):∃sl:Sli (ByteArray×Bool),v6 = .slice sl.at' s.labels.length sl.cap∧sl.xs=s.labels∧sl.ok lbC 2 w:=by
 obtain⟨tg,v0,v1,v2,v3,ms,h1,h2⟩:=h
 obtain⟨sl,e1,e2,e3,_⟩:=h1.r6.sl (fun y=>(rfl:(lbC y).length=2))
 exact⟨sl,by rw[e1,←e2];rfl,e2,e3⟩
theorem Mem.six {w:World}{B rb:Nat}{O:Nat→Prop}{s:Rz.RS}{v6:Value}(h:Mem w B rb O s v6):w.cell? ⟨rb,4,none⟩=some (.int .i64 (s.fn:Int))∧w.cell? ⟨rb,5,none⟩=some (.int .i64 (s.loops:Int))∧w.cell? ⟨rb,6,none⟩=some v6:=by
 obtain⟨tg,v0,v1,v2,v3,ms,h,hO⟩:=h
 exact⟨h.c.2.2.2.2.1,h.c.2.2.2.2.2.1,h.c.2.2.2.2.2.2⟩
theorem canJump_any (w:World)(B rb:Nat)(O:Nat→Prop)(s:Rz.RS)(v6:Value)(h:Mem w B rb O s v6)(x:Nd)(kv:Value) :
  Calls Tryz.prog 97 #[.pointer (some ⟨rb,0,none⟩),.agg #[.int .i64 x.kind,.int .i64 x.pl,.string x.name,.int .u64 x.num,.string x.op,kv]] w fun r w'=>r = .returned (.bool (jmB x s))∧Below w.heap.size w w':=by
 have hmf:∀(fn:Fn) (first cap:Array Value) (w:World),(Instr.makeFunc fn first cap).run Tryz.prog w = .ok (.func fn first cap) w:=fun _ _ _ _=>rfl
 obtain⟨wb,hwb⟩:∃wb,wb=w.alloc (.cells #[.int .i64 x.kind,.int .i64 x.pl,.string x.name,.int .u64 x.num,.string x.op,kv] 25):=⟨_,rfl⟩
 have hb:Below w.heap.size w wb:=by rw[hwb];exact(Below.refl _ _).alloc (Nat.le_refl _) _
 have hX:NdB w.heap.size x kv wb:=by rw[hwb];exact at_new _ _
 have b2:wb.cell? ⟨w.heap.size,2,none⟩=some (.string x.name):=cell_of_row wb _ 2 _ _ (0,0) hX
 have hm:=h.below hb
 obtain⟨_,c5,c6⟩:=hm.six
 obtain⟨sl,hv,hxs,hok⟩:=lab_sl hm
 have kc:=contains_any (ask_jump w.heap.size x kv) wb hX sl hok
 rw[hxs] at kc
 rw[hv] at c6
 unfold fnV at kc
 have HB:Hid (Below w.heap.size w wb):=hb
 obtain⟨R,hR⟩:∃R,R=jmB x s:=⟨_,rfl⟩
 rw[←hR]
 unfold jmB at hR
 have HR:Hid (R=if isS x.name [] then decide (0<s.loops) else s.labels.any fun e=>decide (e.1=x.name) && (e.2 || x.kind == 39)):=hR
 generalize (s.labels.any fun e=>decide (e.1=x.name) && (e.2 || x.kind == 39))=q at *
 unfold isS at HR
 clear hR h hm hok hxs hX hb hv
 generalize s.labels.length=nl at *
 generalize sl.at'=la at *
 generalize sl.cap=lc at *
 generalize s.loops=lo at *
 generalize x.name=nm at *
 by_cases cn:nm.toList=[]
 ·have hne:(nm.toList == [])=true:=by rw[cn];rfl
  rw[if_pos hne] at HR
  clear kc
  go_enter Tryz.func97,Tryz.ntmps97
  go_upto_region 1 with fail
  rw[←hwb]
  clear hwb
  go_wp2_with fail
  go_ret
  rw[HR.out]
  refine⟨?_,HB.out⟩
  simp
 ·have hne:(nm.toList == [])=false:=by simpa using cn
  rw[if_neg (by rw[hne];decide)] at HR
  go_enter Tryz.func97,Tryz.ntmps97
  go_upto_region 1 with fail
  rw[←hwb]
  clear hwb
  go_wp2_with fail
  refine kc.mono ?_
  rintro e w1 ⟨rfl,hb1⟩
  have HB1:Hid (Below w.heap.size w w1):=HB.out.trans (hb1.mono HB.out.size)
  clear kc hb1
  go_wp2_with fail
  go_ret
  rw[HR.out]
  exact⟨rfl,HB1.out⟩
end Go.Proofs.YtihmdcdifakepaaGreat.Rv
