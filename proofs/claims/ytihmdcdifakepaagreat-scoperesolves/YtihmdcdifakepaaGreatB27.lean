/- NF, NG -/
import Derived.Test.YtihmdcdifakepaaGreatB26
set_option linter.unusedVariables false
set_option linter.unusedSimpArgs false
set_option maxRecDepth 100000
set_option maxHeartbeats 40000000
namespace Go.Proofs.YtihmdcdifakepaaGreat.Rv
open Go.RowKit Go.Proofs.YtihmdcdifakepaaGreat.Sc Go.Proofs.YtihmdcdifakepaaGreat.Rz
section
variable {β:Type}{enc:β→List Value}{t e:TypeId}{k bytes:Nat}
theorem run_app2 (R:RT enc t e k bytes){w:World}{B:Nat}{v:Value}{xs:List β}(hown:OwnR enc k e B w v xs)(ad:Addr)(m c:Nat)(ty:TypeId)(news:List Value)(hl:news.length=m*k)(hnews:∀j u,news[j]?=some u→w.cell? (ad.add j)=some u)(h1:∀u∈news,u.oneCell'=true)(hm0:0<m)
  (hm:xs.length+m≤maxLen) (hb:((xs.length+m)+(xs.length+m) / 4+192)*bytes≤281474976710656) (hB:B≤w.heap.size) :
  ∃v' w',(Builtin.append_ #[t,t] ty #[v,.slice (some ad) m c]).run Tryz.prog w = .ok v' w'∧w'.ownsRow B e k v' (xs.length+m) (xs.flatMap enc++news)∧w.grownBy w' v.ownBlock∧((∃g cap,v = .slice (some ⟨g,0,none⟩) xs.length cap∧v' = .slice (some ⟨g,0,none⟩) (xs.length+m) cap)∨(v'.ownBlock=some w.heap.size∧Below w.heap.size w w')):=by
 obtain⟨i,z,hi,hz,e1,e2,e3⟩:=R.inf
 have hsmall:xs.length+m≤9223372036854775807:=by simp only[maxLen] at hm;omega
 obtain⟨v',w',hr,h2,h3,h4⟩:=run_append_own_wide (P:=Tryz.prog) w B t ty e i z k bytes R.und hi hz e1 e2 e3 R.pos v xs.length (xs.flatMap enc) hown ad m c news hl hnews h1 hm hb hB
 refine⟨v',w',hr,h2,h3,?_⟩
 subst e1
 subst e2
 rcases hown.2 with⟨rfl,h0⟩ | ⟨g,cap,cur,rfl,hbg,hg,hnc,hcm,hcs,htake⟩
 ·have hx:xs=[]:=List.eq_nil_of_length_eq_zero h0
  subst hx
  have hb':m*i.bytes≤281474976710656:=Nat.le_trans (Nat.mul_le_mul_right _ (by simp only[List.length_nil];omega)) hb
  have hr2:=run_append_nil (P:=Tryz.prog) w t ty e i z R.und hi hz ad m c news hl hnews (by omega) (by simp only[List.length_nil] at hsmall;omega) hb'
  rw[hr2] at hr
  injection hr with hr hw
  exact Or.inr ⟨by rw[←hr];rfl,by rw[←hw];first | exact(Below.refl _ _).alloc (Nat.le_refl _) _ | exact(Below.refl _ _).drew.alloc (Nat.le_refl _) _ | exact((Below.refl _ _).alloc (Nat.le_refl _) _).drew⟩
 ·by_cases hroom:xs.length+m≤cap
  ·have hfit:xs.length*i.size+news.length≤cur.size:=by rw[hl,hcs,←Nat.add_mul];exact Nat.mul_le_mul_right _ hroom
   have hr2:=run_append_room (P:=Tryz.prog) w t ty e i R.und hi g xs.length cap cur hg ad m c news hl hnews h1 hroom hfit
   rw[hr2] at hr
   injection hr with hr _
   exact Or.inl ⟨g,cap,rfl,hr.symm⟩
  ·have hr2:=run_append_grow (P:=Tryz.prog) w t ty e i z R.und hi hz ⟨g,0,none⟩ xs.length cap (xs.flatMap enc) hown.1 (World.ownsRow.cells hown (g:=g) rfl) ad m c news hl hnews (by omega) (by omega) (growslice_fits_wide (by omega) hb)
   rw[hr2] at hr
   injection hr with hr hw
   exact Or.inr ⟨by rw[←hr];rfl,by rw[←hw];first | exact(Below.refl _ _).alloc (Nat.le_refl _) _ | exact(Below.refl _ _).drew.alloc (Nat.le_refl _) _ | exact((Below.refl _ _).alloc (Nat.le_refl _) _).drew⟩
theorem step_row2 (R:RT enc t e k bytes){W:World}{ops:Array Oper}{o:Oper}{a:Act}{K:Act→World→Prop}{Q:Exit→Act→World→Prop}{E:Prop}(hgd:o.guard=none)(s x:Operand)
  (ho:o.op = .call { callee := .builtin .append,args:=#[s,x],argTypes:=#[t,t] })
  (B:Nat) (v:Value) (xs:List β) (hs:a.eval s=v) (hown:OwnR enc k e B W v xs) (cb:Nat) (y:β) (cs:Array Value) (t':TypeId) (hx:a.eval x = .slice (some ⟨cb,0,none⟩) 1 1) (hcb:W.heap[cb]?=some (.cells cs t' (0,0))) (hcs:cs.toList=enc y)
  (hm:xs.length+1≤maxLen) (hb:((xs.length+1)+(xs.length+1) / 4+192)*bytes≤281474976710656) (hB:B≤W.heap.size)
  (h:∀g cap w',OwnR enc k e B w' (.slice (some ⟨g,0,none⟩) (xs.length+1) cap) (xs++[y])→W.grownBy w' v.ownBlock→(v = .slice (some ⟨g,0,none⟩) xs.length cap∨(g=W.heap.size∧Below W.heap.size W w'))→K (a.put o.dst (.slice (some ⟨g,0,none⟩) (xs.length+1) cap)) w') :
  if Region.wanted o (yielded ops a.tmps)=true then Oper.wp Tryz.prog o a W K Q else E:=by
 have hw:Region.wanted o (yielded ops a.tmps)=true:=by simp[Region.wanted,hgd]
 rw[if_pos hw]
 have hn:∀j u,(enc y)[j]?=some u→W.cell? ((⟨cb,0,none⟩:Addr).add j)=some u:=by
  rw[←hcs]
  exact World.news_of_block (cs:=cs) (t:=t') (fr:=(0,0)) hcb
 obtain⟨v',w',hr,g1,g2,g3⟩:=run_app2 R hown ⟨cb,0,none⟩ 1 1 o.type (enc y) (by rw[R.len,Nat.one_mul]) hn (R.one y) (by decide) hm hb hB
 obtain⟨g,cap,rfl,_,_⟩:=g1.form (by omega)
 unfold Oper.wp execOp
 simp only[ho,resolve,invoke,builtin,Sem.run_bind,Sem.run_pure,Result.andThen_ok,List.map_toArray,List.map_cons,List.map_nil,hs,hx,hr]
 refine h g cap w' ?_ g2 ?_
 ·unfold OwnR
  rw[List.length_append,List.flatMap_append]
  have:[y].flatMap enc=enc y:=by simp
  rw[this]
  exact g1
 ·rcases g3 with⟨g',cap',q1,q2⟩ | q
  ·cases q2
   exact Or.inl q1
  ·exact Or.inr ⟨by simpa [Value.ownBlock] using q.1,q.2⟩
end
section
variable {w w':World}{B rb:Nat}{tg:Nat→Nat}{s:Rz.RS}{v0 v1 v2 v3 v6:Value}{ms:List (Option Nat)}
theorem MemAt.back6 (h:MemAt w B rb tg s v0 v1 v2 v3 v6 ms){v6':Value}{xs':List (ByteArray×Bool)}(ho:OwnR lbC 2 142 B w v6' xs')(hno:∀b,v6'.ownBlock=some b→b≠rb∧¬v0.ownBlock=some b∧¬v1.ownBlock=some b∧¬v2.ownBlock=some b∧¬v3.ownBlock=some b∧∀i:Nat,ms[i]?≠some (some b)) :
  MemAt (w.setCell ⟨rb,6,none⟩ v6') B rb (retag tg v6' 5) { s with labels:=xs' } v0 v1 v2 v3 v6' ms∧Chg (fun b=>b=rb) w (w.setCell ⟨rb,6,none⟩ v6'):=by
 have hrb:rb<w.heap.size:=h.rlt
 have hnr:¬v6'.ownBlock=some rb:=fun q=>(hno rb q).1 rfl
 have hset:=heap_setCell_same w rb 6 _ 45 v6' h.box
 have n0:∀b,v0.ownBlock=some b→¬v6'.ownBlock=some b∧b≠rb:=fun b q=>⟨fun e=>(hno b e).2.1 q,fun e=>by have h1:=h.t1 b q;have h2:=h.t0;rw[e] at h1;omega⟩
 have n1:∀b,v1.ownBlock=some b→¬v6'.ownBlock=some b∧b≠rb:=fun b q=>⟨fun e=>(hno b e).2.2.1 q,fun e=>by have h1:=h.t2 b q;have h2:=h.t0;rw[e] at h1;omega⟩
 have n2:∀b,v2.ownBlock=some b→¬v6'.ownBlock=some b∧b≠rb:=fun b q=>⟨fun e=>(hno b e).2.2.2.1 q,fun e=>by have h1:=h.t3 b q;have h2:=h.t0;rw[e] at h1;omega⟩
 have n3:∀b,v3.ownBlock=some b→¬v6'.ownBlock=some b∧b≠rb:=fun b q=>⟨fun e=>(hno b e).2.2.2.2.1 q,fun e=>by have h1:=h.t4 b q;have h2:=h.t0;rw[e] at h1;omega⟩
 have oo:OwnR lbC 2 142 B (w.setCell ⟨rb,6,none⟩ v6') v6' xs':=ho.set (a:=⟨rb,6,none⟩) (fun b q e=>by have e2:b=rb:=e;rw[e2] at q;exact hnr q) v6'
 have nm:∀(i b:Nat),ms[i]?=some (some b)→¬v6'.ownBlock=some b∧b≠rb:=fun i b q=>by
  obtain⟨a1,a2,a3⟩:=h.tm i b q
  exact⟨fun e=>(hno b e).2.2.2.2.2 i q,fun e=>by have h2:=h.t0;rw[e] at a1;omega⟩
 have hmap:∀(i:Nat) (m:Option Nat) (b:Blk),ms[i]?=some m→MpAt w m b→MpAt (w.setCell ⟨rb,6,none⟩ v6') m b:=fun i m b q1 q2=>q2.kept (fun mb e=>by
  subst e
  exact Below.heap_setCell w ⟨rb,6,none⟩ v6' mb (nm i mb q1).2)
 refine⟨⟨hset,h.r0.set (a:=⟨rb,6,none⟩) (fun b q=>(n0 b q).2) v6',h.r1.set (a:=⟨rb,6,none⟩) (fun b q=>(n1 b q).2) v6',h.r2.set (a:=⟨rb,6,none⟩) (fun b q=>(n2 b q).2) v6',h.r3.set (a:=⟨rb,6,none⟩) (fun b q=>(n3 b q).2) v6',oo,by rw[retag_no hnr];exact h.t0,fun b q=>by rw[retag_no (n0 b q).1];exact h.t1 b q,fun b q=>by rw[retag_no (n1 b q).1];exact h.t2 b q,fun b q=>by rw[retag_no (n2 b q).1];exact h.t3 b q,fun b q=>by rw[retag_no (n3 b q).1];exact h.t4 b q,fun b q=>retag_is q,fun i b q=>by
  obtain⟨a1,a2,a3⟩:=h.tm i b q
  rw[retag_no (nm i b q).1]
  exact⟨a1,a2,by simpa using a3⟩,h.ml,fun i m b q1 q2=>hmap i m b q1 (h.mp i m b q1 q2),⟨h.gd.fnl,h.gd.blk,h.gd.wf⟩,h.lo⟩,Chg.set w _ _ rfl⟩
end
theorem Mem.label {w:World}{B rb:Nat}{O:Nat→Prop}{s:Rz.RS}{v6:Value}(h:Mem w B rb O s v6){w5:World}{v6':Value}{e:ByteArray×Bool}(hc:Chg (fun b=>v6.ownBlock=some b) w w5)(ho:OwnR lbC 2 142 B w5 v6' (s.labels++[e]))(hat:(∃g cap,v6 = .slice (some ⟨g,0,none⟩) s.labels.length cap∧v6' = .slice (some ⟨g,0,none⟩) (s.labels.length+1) cap)∨((∀b,v6'.ownBlock=some b→w.heap.size≤b)∧Below w.heap.size w w5)) :
  ∃O1,Mem (w5.setCell ⟨rb,6,none⟩ v6') B rb O1 { s with labels:=s.labels++[e] } v6'∧Chg O w (w5.setCell ⟨rb,6,none⟩ v6')∧(∀b,O1 b→O b∨w.heap.size≤b) ∧
   ∀s2 w2,Went (w5.setCell ⟨rb,6,none⟩ v6') B rb O1 s2 v6' w2→s2.labels=s.labels++[e]→Went w B rb O { s2 with labels:=s.labels } v6 (w2.setCell ⟨rb,6,none⟩ v6):=by
 obtain⟨tg,v0,v1,v2,v3,ms,hm,hO⟩:=h
 obtain⟨a1,a2,a3⟩:=hm.row6 hc ho (fun b q=>hat.imp (fun c=>by obtain⟨g,cap,c1,c2⟩:=c;rw[c2] at q;rw[c1];exact q) (fun c=>c.1 b q)) ⟨hm.gd.fnl,hm.gd.blk,hm.gd.wf⟩
 refine⟨Ow rb v0 v1 v2 v3 v6' ms,⟨_,v0,v1,v2,v3,ms,a1,fun b=>Iff.rfl⟩,a2.mono (fun b q=>(hO b).2 q),fun b q=>(a3 b q).imp (fun c=>(hO b).2 c) id,?_⟩
 rintro s2 w2 ⟨O2,⟨tg2,u0,u1,u2,u3,ms2,h2,hO2⟩,c2,p2⟩ hl
 have hsz5:w.heap.size≤(w5.setCell ⟨rb,6,none⟩ v6').heap.size:=by simp;exact hc.size
 have hrow:OwnR lbC 2 142 B w2 v6 s.labels∧∀b,v6.ownBlock=some b→v6'.ownBlock=some b∨(¬Ow rb v0 v1 v2 v3 v6' ms b∧b<w.heap.size):=by
  rcases hat with⟨g,cap,q1,q2⟩ | ⟨q1,q2⟩
  ·have hr:=h2.r6
   rw[hl,q2] at hr
   have hr2:=hr.cut (xs:=s.labels) (ys:=[e]) rtLb.len
   rw[q1]
   exact⟨hr2,fun b q=>Or.inl (by rw[q2];exact q)⟩
  ·have hnO:∀b,v6.ownBlock=some b→¬Ow rb v0 v1 v2 v3 v6' ms b∧b<w.heap.size:=fun b q=>by
    have ht:=hm.t5 b q
    have hlt:=(hm.r6.lt b q).2
    refine⟨?_,hlt⟩
    rintro(c | c | c | c | c | c | ⟨i,c⟩)
    ·rw[c] at ht;have:=hm.t0;omega
    ·have:=hm.t1 b c;omega
    ·have:=hm.t2 b c;omega
    ·have:=hm.t3 b c;omega
    ·have:=hm.t4 b c;omega
    ·have:=q1 b c;omega
    ·have:=(hm.tm i b c).1;omega
   refine⟨?_,fun b q=>Or.inr (hnO b q)⟩
   have o5:=(hm.r6.below q2).set (a:=⟨rb,6,none⟩) (fun b q e=>(hnO b q).1 (Or.inl e)) v6'
   exact o5.kept c2 (fun b q=>(hnO b q).1)
 have hno:∀b,v6.ownBlock=some b→b≠rb∧¬u0.ownBlock=some b∧¬u1.ownBlock=some b∧¬u2.ownBlock=some b∧¬u3.ownBlock=some b∧∀i:Nat,ms2[i]?≠some (some b):=by
  intro b q
  rcases hrow.2 b q with c | ⟨c,d⟩
  ·have ht:=h2.t5 b c
   refine⟨fun e => ?_,fun e => ?_,fun e => ?_,fun e => ?_,fun e => ?_,fun i e => ?_⟩
   ·rw[e] at ht;have:=h2.t0;omega
   ·have:=h2.t1 b e;omega
   ·have:=h2.t2 b e;omega
   ·have:=h2.t3 b e;omega
   ·have:=h2.t4 b e;omega
   ·have:=(h2.tm i b e).1;omega
  ·have hn2:¬Ow rb u0 u1 u2 u3 v6' ms2 b:=fun e=>by
    rcases p2 b ((hO2 b).2 e) with k | k
    ·exact c k
    ·omega
   exact⟨fun e=>hn2 (Or.inl e),fun e=>hn2 (Or.inr (Or.inl e)),fun e=>hn2 (Or.inr (Or.inr (Or.inl e))),fun e=>hn2 (Or.inr (Or.inr (Or.inr (Or.inl e)))),fun e=>hn2 (Or.inr (Or.inr (Or.inr (Or.inr (Or.inl e))))),fun i e=>hn2 (Or.inr (Or.inr (Or.inr (Or.inr (Or.inr (Or.inr ⟨i,e⟩))))))⟩
 obtain⟨b1,b2⟩:=h2.back6 hrow.1 hno
 have hup:∀b,Ow rb u0 u1 u2 u3 v6' ms2 b→O b∨w.heap.size≤b:=fun b q=>by
  rcases p2 b ((hO2 b).2 q) with k | k
  ·exact(a3 b k).imp (fun c=>(hO b).2 c) id
  ·exact Or.inr (Nat.le_trans hsz5 k)
 refine⟨Ow rb u0 u1 u2 u3 v6 ms2,⟨_,u0,u1,u2,u3,ms2,b1,fun b=>Iff.rfl⟩,?_,?_⟩
 ·have h1:Chg O w w2:=(a2.mono (S':=O) (fun b q=>(hO b).2 q)).trans c2 (fun a ha q=>by
   rcases a3 a q with k | k
   ·exact(hO a).2 k
   ·omega)
  exact h1.trans b2 (fun a ha q=>by rw[q];exact(hO rb).2 (Or.inl rfl))
 ·rintro b (q | q | q | q | q | q | ⟨i,q⟩)
  ·exact hup b (Or.inl q)
  ·exact hup b (Or.inr (Or.inl q))
  ·exact hup b (Or.inr (Or.inr (Or.inl q)))
  ·exact hup b (Or.inr (Or.inr (Or.inr (Or.inl q))))
  ·exact hup b (Or.inr (Or.inr (Or.inr (Or.inr (Or.inl q)))))
  ·exact Or.inl ((hO b).2 (Or.inr (Or.inr (Or.inr (Or.inr (Or.inr (Or.inl q)))))))
  ·exact hup b (Or.inr (Or.inr (Or.inr (Or.inr (Or.inr (Or.inr ⟨i,q⟩))))))
theorem Mem.row6 {w:World}{B rb:Nat}{O:Nat→Prop}{s:Rz.RS}{v6:Value}(h:Mem w B rb O s v6):OwnR lbC 2 142 B w v6 s.labels∧(∀b,v6.ownBlock=some b→O b∧b≠rb)∧O rb∧∀j,w.frozen? ⟨rb,j,none⟩=false:=by
 obtain⟨tg,v0,v1,v2,v3,ms,hm,hO⟩:=h
 refine⟨hm.r6,fun b q=>⟨(hO b).2 (Or.inr (Or.inr (Or.inr (Or.inr (Or.inr (Or.inl q)))))),fun e => ?_⟩,(hO rb).2 (Or.inl rfl),hm.f⟩
 have h1:=hm.t5 b q
 have h2:=hm.t0
 rw[e] at h1
 omega
theorem label_any (W0:World)(n:Nat)(hN:NC W0 n)(w:World)(rb:Nat)(O:Nat→Prop)(s:Rz.RS)(v6:Value)(h0:On W0 rb O s v6 w)(x:Nd)(sl:Sli (Tr n))(ht:okF (n+1) W0 ((x,sl):Nd×Sli (Tr n)))(hb:cr s+8+8*(sl.xs.map (szT n)).sum≤lim)(hd:dp s+4+4*n≤lim) :
  Calls Tryz.prog 86 #[.pointer (some ⟨rb,0,none⟩),.agg #[.int .i64 x.kind,.int .i64 x.pl,.string x.name,.int .u64 x.num,.string x.op,.slice sl.at' sl.xs.length sl.cap]] w (Out w W0.heap.size rb O v6 (.tuple #[]) (labelP (resP bi n).1 x (leadT (n+1) ((x,sl):Nd×Sli (Tr n))) sl.xs s)):=by
 have hmf:∀(fn:Fn) (first cap:Array Value) (w:World),(Instr.makeFunc fn first cap).run Tryz.prog w = .ok (.func fn first cap) w:=fun _ _ _ _=>rfl
 obtain⟨kv,hkv⟩:∃kv,kv=Value.slice sl.at' sl.xs.length sl.cap:=⟨_,rfl⟩
 obtain⟨wb,hwb⟩:∃wb,wb=w.alloc (.cells #[.int .i64 x.kind,.int .i64 x.pl,.string x.name,.int .u64 x.num,.string x.op,.slice sl.at' sl.xs.length sl.cap] 25):=⟨_,rfl⟩
 have hbl:Below w.heap.size w wb:=by rw[hwb];exact below_new (Below.refl _ _) (Nat.le_refl _) _
 have hX:NdB w.heap.size x (.slice sl.at' sl.xs.length sl.cap) wb:=by rw[hwb];exact at_new _ _
 have h:=h0.below hbl
 have hnO:¬O w.heap.size:=fun q=>by have:=(h0.mem.lt _ q).2;omega
 have HB:Hid (Below w.heap.size w wb):=hbl
 have HX:Hid (∀W,Chg O wb W→NdB w.heap.size x (.slice sl.at' sl.xs.length sl.cap) W):=fun W hc=>hX.chg hc hnO
 obtain⟨s6,hv6,hxs6,hok6⟩:=lab_sl h.mem
 have kc:=contains_any (ask_label w.heap.size x (.slice sl.at' sl.xs.length sl.cap)) wb hX s6 hok6
 rw[hxs6] at kc
 unfold fnV at kc
 obtain⟨_,_,c6⟩:=h.mem.six
 have HLD:Hid (∀W,Below wb.heap.size wb W→Calls Tryz.prog 96 #[.agg #[.int .i64 x.kind,.int .i64 x.pl,.string x.name,.int .u64 x.num,.string x.op,.slice sl.at' sl.xs.length sl.cap]] W fun e w'=>e = .returned (.bool (leadT (n+1) ((x,sl):Nd×Sli (Tr n))))∧Below W.heap.size W w'):=fun W hW=>lead_any W0 (n+1) ((x,sl):Nd×Sli (Tr n)) ht W (h.bel.trans (hW.mono h.bel.size))
 have HM:Hid (∀W,Below wb.heap.size wb W→Mem W W0.heap.size rb O s v6):=fun W hW=>h.mem.below hW
 have HLB:Hid (s.labels.length≤100000000):=by show _≤_;unfold dp lim at hd;omega
 have HEA:Hid (∀(W:World) (O1:Nat→Prop) (v1:Value) (e:ByteArray×Bool),Mem W W0.heap.size rb O1 { s with labels:=s.labels++[e] } v1→Below W0.heap.size W0 W→Calls Tryz.prog 50 #[.pointer (some ⟨rb,0,none⟩),.slice sl.at' sl.xs.length sl.cap] W (Out W W0.heap.size rb O1 v1 (.tuple #[]) (eachP (resP bi n).1 sl.xs { s with labels:=s.labels++[e] }))):=fun W O1 v1 e hm hbW=>each_any W0 n hN W rb O1 _ v1 ⟨hm,hbW⟩ sl ht.1.2.1 (fun y hy=>⟨ht.1.2.2 y hy,ht.2.2.2.2 y hy⟩) (by show cr s+2+_≤_;omega) (by unfold dp at *;simp only[List.length_append,List.length_singleton];omega)
 have HKP:Hid (∀(e:ByteArray×Bool) s1,eachP (resP bi n).1 sl.xs { s with labels:=s.labels++[e] } = .ok s1→s1.labels=s.labels++[e]):=fun e s1 q=>(keeps_each (keeps_resP bi n).1 sl.xs _ s1 q).labels
 have HW0:Hid (Below W0.heap.size W0 wb∧∀b,O b→W0.heap.size≤b):=⟨h.bel,fun b q=>(h.mem.lt b q).1⟩
 obtain⟨R,hR⟩:∃R,R=labelP (resP bi n).1 x (leadT (n+1) ((x,sl):Nd×Sli (Tr n))) sl.xs s:=⟨_,rfl⟩
 rw[←hR]
 unfold labelP at hR
 generalize leadT (n+1) ((x,sl):Nd×Sli (Tr n))=ld at *
 have HR:Hid (R=if s.labels.any (fun e=>decide (e.1=x.name))=true then .error (x.pl,75) else (eachP (resP bi n).1 sl.xs { s with labels:=s.labels++[(x.name,ld)] }).bind fun s1 => .ok { s1 with labels:=s.labels }):=hR
 generalize s.labels.any (fun e=>decide (e.1=x.name))=an at *
 rw[hv6] at c6
 have HV6:Hid (v6 = .slice s6.at' s.labels.length s6.cap):=hv6
 clear hb hd hN h0 ht hX hok6 hxs6 hR hkv hbl hnO h hv6
 generalize sl.at'=ka at *
 generalize sl.cap=kc' at *
 generalize s6.at'=la at *
 generalize s6.cap=lc at *
 obtain⟨ll,hll⟩:∃ll,ll=s.labels.length:=⟨_,rfl⟩
 rw[←hll] at c6 kc
 have HLL:Hid (ll=s.labels.length):=hll
 clear hll
 go_enter Tryz.func86,Tryz.ntmps86
 go_upto_region 1 with fail
 rw[←hwb]
 clear hwb
 go_wp2_with fail
 refine kc.mono ?_
 rintro e w1 ⟨rfl,hb1⟩
 have HB1:Hid (Below wb.heap.size wb w1):=hb1
 obtain⟨a0,a1,a2,a3,a4,a5⟩:=(HX.out w1 (Chg.of_below hb1)).cs
 clear kc hb1 c6
 cases an with
 | true =>
   go_wp2_with fail
   refine⟨rfl,?_⟩
   rw[HR.out]
   first | rw[if_pos trivial] | rw[if_pos rfl]
   exact⟨rfl,Chg.of_below (HB.out.trans (HB1.out.mono HB.out.size))⟩
 | false =>
   have HR2:Hid (R=(eachP (resP bi n).1 sl.xs { s with labels:=s.labels++[(x.name,ld)] }).bind fun s1 => .ok { s1 with labels:=s.labels }):=by
    show R=_
    have:=HR.out
    first | rw[if_neg (fun q=>q)] at this | rw[if_neg (by decide)] at this
    exact this
   clear HR
   go_upto_region 4 with fail
   have hcd:Below wb.heap.size wb w1.drew:=HB1.out.drew
   have HSB:Hid (∀W,Chg O wb W→W.cell? ⟨w.heap.size,0,none⟩=some (.int .i64 x.kind)∧W.cell? ⟨w.heap.size,1,none⟩=some (.int .i64 x.pl)∧W.cell? ⟨w.heap.size,2,none⟩=some (.string x.name)∧W.cell? ⟨w.heap.size,3,none⟩=some (.int .u64 x.num)∧W.cell? ⟨w.heap.size,4,none⟩=some (.string x.op)∧W.cell? ⟨w.heap.size,5,none⟩=some (.slice ka sl.xs.length kc')):=fun W hc=>(HX.out W hc).cs
   have HCD:Hid (Below wb.heap.size wb w1.drew):=hcd
   have kld:=HLD.out w1.drew hcd
   clear hcd HLD
   go_region_held_law (fun W=>W.cell? ⟨w.heap.size,0,none⟩=some (.int .i64 x.kind)∧W.cell? ⟨w.heap.size,1,none⟩=some (.int .i64 x.pl)∧W.cell? ⟨w.heap.size,2,none⟩=some (.string x.name)∧W.cell? ⟨w.heap.size,3,none⟩=some (.int .u64 x.num)∧W.cell? ⟨w.heap.size,4,none⟩=some (.string x.op)∧W.cell? ⟨w.heap.size,5,none⟩=some (.slice ka sl.xs.length kc'))
    (first | exact HSB.out _ (Chg.of_below HCD.out) | exact HSB.out _ (Chg.of_below HB2.out) | exact HSB.out _ (Chg.of_below (below_new HB2.out HB2.out.size _)) | exact HSB.out _ HC5.out | exact HSB.out _ HC6.out)
    (first
     | (refine step_row2 rtLb (by rfl) _ _ (by rfl) W0.heap.size (.slice la ll lc) s.labels (by rfl) (by exact HO2.out) w2.heap.size (x.name,ld) #[.string x.name,.bool ld] 142 (by rfl) (by exact at_new _ _) (by rfl) (by exact HSZ.out.1) (by exact HSZ.out.2) (by exact HBB.out) ?_
        intro g5 cap5 w5 ho5 hg5 hl5
        have HO5:Hid (OwnR lbC 2 142 W0.heap.size w5 (.slice (some ⟨g5,0,none⟩) (s.labels.length+1) cap5) (s.labels++[(x.name,ld)])):=ho5
        have HC5:Hid (Chg O wb w5):=HCC.out w5 hg5
        obtain⟨z6,zf⟩:=HZ.out w5 hg5
        have HL5:Hid (Value.slice la ll lc = .slice (some ⟨g5,0,none⟩) s.labels.length cap5∨(g5=(w2.alloc (.cells #[.string x.name,.bool ld] 142)).heap.size∧Below (w2.alloc (.cells #[.string x.name,.bool ld] 142)).heap.size (w2.alloc (.cells #[.string x.name,.bool ld] 142)) w5)):=hl5
        have HG5:Hid ((w2.alloc (.cells #[.string x.name,.bool ld] 142)).grownBy w5 (Value.slice la ll lc).ownBlock):=hg5
        have HC6:Hid (Chg O wb (w5.setCell ⟨rb,6,none⟩ (.slice (some ⟨g5,0,none⟩) (s.labels.length+1) cap5))):=HC5.out.trans (Chg.set (S:=O) w5 ⟨rb,6,none⟩ _ HORB.out) (fun _ _ q=>q)
        clear ho5 hg5 hl5)
     | (go_at_call 96
        refine kld.mono ?_
        rintro ee w2 ⟨rfl,hb2⟩
        have HB2:Hid (Below wb.heap.size wb w2):=HCD.out.trans (hb2.mono HCD.out.size)
        have HAL:Hid (Below wb.heap.size wb (w2.alloc (.cells #[.string x.name,.bool ld] 142))):=below_new HB2.out HB2.out.size _
        obtain⟨r6,r6o,rO,rf⟩:=(HM.out _ HAL.out).row6
        have HSZ:Hid (s.labels.length+1≤maxLen∧((s.labels.length+1)+(s.labels.length+1) / 4+192)*24≤281474976710656):=⟨by have:=HLB.out;unfold maxLen;omega,by have:=HLB.out;omega⟩
        have HO2:Hid (OwnR lbC 2 142 W0.heap.size (w2.alloc (.cells #[.string x.name,.bool ld] 142)) (.slice la ll lc) s.labels):=by rw[HLL.out,←HV6.out];exact r6
        have HBB:Hid (W0.heap.size≤(w2.alloc (.cells #[.string x.name,.bool ld] 142)).heap.size):=Nat.le_trans HW0.out.1.size HAL.out.size
        have HORB:Hid (O rb):=rO
        have HVO:Hid (∀b,(Value.slice la ll lc).ownBlock=some b→O b∧b≠rb):=by rw[HLL.out,←HV6.out];exact r6o
        have HCC:Hid (∀w5,(w2.alloc (.cells #[.string x.name,.bool ld] 142)).grownBy w5 (Value.slice la ll lc).ownBlock→Chg O wb w5):=fun w5 hg=>(Chg.of_below HAL.out).trans (Chg.of_grown (S:=O) hg (fun k q=>(HVO.out k q).1)) (fun _ _ q=>q)
        have HZ:Hid (∀w5,(w2.alloc (.cells #[.string x.name,.bool ld] 142)).grownBy w5 (Value.slice la ll lc).ownBlock→w5.cell? ⟨rb,6,none⟩=some v6∧w5.frozen? ⟨rb,6,none⟩=false):=fun w5 hg=>by
         have hc:=Chg.of_grown (S:=fun b=>(Value.slice la ll lc).ownBlock=some b) hg (fun k q=>q)
         have hne:¬(Value.slice la ll lc).ownBlock=some rb:=fun q=>(HVO.out rb q).2 rfl
         obtain⟨_,_,q6⟩:=(HM.out _ HAL.out).six
         exact⟨hc.cell q6 hne,by rw[World.frozen?_of_block (w:=w2.alloc (.cells #[.string x.name,.bool ld] 142)) (a:=⟨rb,6,none⟩) (hc.block rb (HM.out _ HAL.out).rlt hne)];exact rf 6⟩
        clear hb2 r6 r6o rO rf))
   obtain⟨w6,hw6⟩:∃w6,w6=w5.setCell ⟨rb,6,none⟩ (.slice (some ⟨g5,0,none⟩) (s.labels.length+1) cap5):=⟨_,rfl⟩
   have hlab:=(HM.out _ HAL.out).label (w5:=w5) (v6' := .slice (some ⟨g5,0,none⟩) (s.labels.length+1) cap5) (e:=(x.name,ld)) (by
     have q:=HG5.out
     rw[HLL.out,←HV6.out] at q
     exact Chg.of_grown q (fun k q=>q)) HO5.out (by
     rcases HL5.out with q | ⟨q1,q2⟩
     ·exact Or.inl ⟨g5,cap5,by rw[HV6.out,←q,HLL.out],rfl⟩
     ·exact Or.inr ⟨fun b q=>by
       have:g5=b:=by simpa [Value.ownBlock] using q
       omega,q2⟩)
   obtain⟨O1,m1,c1,o1,bk⟩:=hlab
   rw[←hw6] at m1 c1 bk
   have HC6':Hid (Chg O wb w6):=by rw[hw6];exact HC6.out
   have ke:=HEA.out w6 O1 _ (x.name,ld) m1 (HC6'.out.below HW0.out.1 HW0.out.1.size (fun b q=>HW0.out.2 b q))
   obtain⟨_,_,_,_,_,a5'⟩:=(HX.out w6 HC6'.out).cs
   have HO1:Hid (∀b,O1 b→O b∨wb.heap.size≤b):=fun b q=>(o1 b q).imp id (fun c=>Nat.le_trans HAL.out.size c)
   have BK:Hid (∀s2 w2',Went w6 W0.heap.size rb O1 s2 (.slice (some ⟨g5,0,none⟩) (s.labels.length+1) cap5) w2'→s2.labels=s.labels++[(x.name,ld)]→Went wb W0.heap.size rb O { s2 with labels:=s.labels } v6 (w2'.setCell ⟨rb,6,none⟩ v6)):=fun s2 w2' q1 q2=>went_then (Chg.of_below HAL.out) (fun b q=>Or.inl q) (bk s2 w2' q1 q2)
   have HCX:Hid (∀W,Chg O1 w6 W→Chg O w W):=fun W hc=>((Chg.of_below HB.out).trans HC6'.out (fun _ _ q=>q)).trans hc (fun a ha q=>by
    rcases HO1.out a q with k | k
    ·exact k
    ·have:=HB.out.size;omega)
   have KP:=(show Hid _ from HKP.out (x.name,ld))
   rw[←hw6]
   clear hw6 m1 c1 o1 bk HC6 HSB HM HEA HKP kld a0 a1 a2 a3 a4 a5 z6 zf HX
   generalize eachP (resP bi n).1 sl.xs { s with labels:=s.labels++[(x.name,ld)] }=E at *
   go_wp2_with fail
   refine ke.mono ?_
   intro e w7 ho
   clear ke a5'
   cases E with
   | error er =>
     obtain⟨rfl,g7⟩:=ho
     refine⟨rfl,?_⟩
     rw[HR2.out]
     exact⟨rfl,HCX.out _ g7⟩
   | ok s1 =>
     obtain⟨rfl,g7⟩:=ho
     have hlb:=KP.out s1 rfl
     obtain⟨q6,qf⟩:w7.cell? ⟨rb,6,none⟩=some (.slice (some ⟨g5,0,none⟩) (s.labels.length+1) cap5)∧w7.frozen? ⟨rb,6,none⟩=false:=by
      obtain⟨_,mm,_,_⟩:=g7
      exact⟨mm.six.2.2,(mm.row6).2.2.2 6⟩
     have hfin:=(BK.out s1 w7 g7 hlb).behind HB.out
     have HG:Hid (Went w W0.heap.size rb O { s1 with labels:=s.labels } v6 (w7.setCell ⟨rb,6,none⟩ (.slice la ll lc))):=by
      have hv:v6 = .slice la ll lc:=by rw[HV6.out,HLL.out]
      rw[hv] at hfin
      rw[←hv] at hfin
      rw[←hv]
      exact hfin
     clear g7 hlb hfin BK KP HCX
     go_wp2_with fail
     go_end0
     rw[HR2.out]
     exact⟨rfl,HG.out⟩
end Go.Proofs.YtihmdcdifakepaaGreat.Rv
