/- ZF -/
import Derived.Test.YtihmdcdifakepaaGreatZE
import Derived.Test.YtihmdcdifakepaaGreatB18
import Derived.Test.YtihmdcdifakepaaGreatB19
import Derived.Deep.CutRange
set_option linter.unusedVariables false
set_option linter.unusedSimpArgs false
set_option maxRecDepth 100000
set_option maxHeartbeats 40000000
namespace Go.Proofs.YtihmdcdifakepaaGreat.Rv.Rx
open Go.RowKit Go.Proofs.YtihmdcdifakepaaGreat.Sc Go.Proofs.YtihmdcdifakepaaGreat.Rz
def findI (nm:ByteArray)(l:List Blk):Int:=((findP nm l).map (fun n=>(n:Int))).getD (-2)
def fI (nm:ByteArray)(l:Blk):Int:=((l.find? (fun e=>decide (e.1=nm))).map (fun e=>(e.2:Int))).getD (-2)
theorem findP_cons (nm:ByteArray)(b:Blk)(l:List Blk):findP nm (b :: l)=match b.find? (fun e=>decide (e.1=nm)) with
 | some e=>some e.2
 | none=>findP nm l:=rfl
theorem findP_app (nm:ByteArray):∀(l r:List Blk),findP nm l=none→findP nm (l++r)=findP nm r
 | [],r,h=>rfl
 | b :: l,r,h=>by
   rw[List.cons_append,findP_cons]
   rw[findP_cons] at h
   cases hb:b.find? (fun e=>decide (e.1=nm)) with
   | some e=>rw[hb] at h;cases h
   | none=>rw[hb] at h;exact findP_app nm l r h
theorem findP_some (nm:ByteArray):∀(l r:List Blk)(v:Nat),findP nm l=some v→findP nm (l++r)=some v
 | [],r,v,h=>by cases h
 | b :: l,r,v,h=>by
   rw[List.cons_append,findP_cons]
   rw[findP_cons] at h
   cases hb:b.find? (fun e=>decide (e.1=nm)) with
   | some e=>rw[hb] at h;exact h
   | none=>rw[hb] at h;exact findP_some nm l r v h
theorem findI_next {nm:ByteArray}{l:List Blk}{k:Nat}{b:Blk}(h:findP nm (l.take k)=none)(hb:l[k]?=some b):findI nm (l.take (k+1))=fI nm b:=by
 unfold findI fI
 rw[List.take_add_one,hb,findP_app nm _ _ h]
 simp only[Option.toList_some]
 rw[findP_cons]
 cases b.find? (fun e=>decide (e.1=nm)) with
 | none=>rfl
 | some e=>rfl
theorem findI_full {nm:ByteArray}{l:List Blk}{k v:Nat}(h:findP nm (l.take k)=some v):findI nm l=(v:Int):=by
 unfold findI
 rw[←List.take_append_drop k l,findP_some nm _ _ v h]
 rfl
theorem fI_next {nm:ByteArray}{l:Blk}{i:Nat}{y:ByteArray×Nat}(hy:l[i]?=some y):fI nm (l.take (i+1)).reverse=if decide (y.1=nm)=true then (y.2:Int) else fI nm (l.take i).reverse:=by
 unfold fI
 rw[List.take_add_one,hy]
 simp only[Option.toList_some,List.reverse_append,List.reverse_singleton,List.singleton_append]
 by_cases c:decide (y.1=nm)=true
 ·rw[if_pos c,List.find?_cons_of_pos (p:=fun e:ByteArray×Nat=>decide (e.1=nm)) c];rfl
 ·rw[if_neg c,List.find?_cons_of_neg (p:=fun e:ByteArray×Nat=>decide (e.1=nm)) c]
theorem At.blks {w:World}{B wb:Nat}{tg:Nat→Nat}{s:Rz.RS}{c a:Int}{M:DV}(h:At w B wb tg s c a M):∃ad cap,w.cell? ⟨wb,3,none⟩=some (.slice ad s.blocks.length cap)∧s.blocks.length≤9223372036854775807∧∀(j:Nat)(b:Blk),s.blocks.reverse[j]?=some b→∃g ma mc,ad=some ⟨g,0,none⟩∧w.cell? ⟨g,j,none⟩=some (.slice ma b.length mc)∧∀(i:Nat)(y:ByteArray×Nat),b.reverse[i]?=some y→∃q,ma=some ⟨q,0,none⟩∧w.cell? ⟨q,i*2,none⟩=some (.string y.1)∧w.cell? ⟨q,i*2+1,none⟩=some (.int .i64 (y.2:Int)):=by
 have h5:RowIn slC 1 54 B w (fun b=>tg b=5) M.v3 M.bs:=h.prt 5
 obtain⟨ad,cap,hv3,l1,l2,hg⟩:=own_slice h5.1
 have c3:=h.box.2.2.2.1
 rw[hv3,h.len] at c3
 refine⟨ad,cap,c3,by have:=h.len;unfold maxLen at l2;omega,fun j b hb => ?_⟩
 have hjl:j<s.blocks.length:=by have:=(List.getElem?_eq_some_iff.1 hb).1;rwa [List.length_reverse] at this
 obtain⟨m,hm⟩:∃m,M.bs[j]?=some m:=⟨_,List.getElem?_eq_getElem (by rw[h.len];exact hjl)⟩
 obtain⟨g,rfl⟩:=hg (by intro e;rw[e] at hm;simp at hm)
 have h5':=h5.1
 rw[hv3] at h5'
 obtain⟨_,_,_,_,_,r6,r7⟩:=h5'.read rxSl.len
 have d0:=r6 j m hm 0 _ rfl
 rw[Nat.mul_one,Nat.add_zero] at d0
 have h7:RowIn nmC 2 _ B w (fun b=>tg b=j+7) m.val b.reverse:=h.prt (j+7) m b hm hb
 obtain⟨ma,mc,hmv,k1,k2,k3⟩:=own_slice h7.1
 rw[List.length_reverse] at hmv
 refine⟨g,ma,mc,rfl,by rw[d0,hmv],fun i y hy => ?_⟩
 obtain⟨q,hq⟩:=k3 (by intro e;rw[e] at hy;simp at hy)
 have h8:=h7.1
 rw[hmv,hq] at h8
 obtain⟨_,_,_,_,_,s6,_⟩:=h8.read rxNm.len
 exact⟨q,hq,s6 i y hy 0 _ rfl,s6 i y hy 1 _ rfl⟩
theorem At.cap {w:World}{B wb:Nat}{tg:Nat→Nat}{s:Rz.RS}{c a:Int}{M:DV}(h:At w B wb tg s c a M){u:Nat}(hu:u<s.vars.length):∃g cap y,M.v1 = .slice (some ⟨g,0,none⟩) s.vars.length cap∧cap≤maxLen∧tg g=3∧s.vars[u]?=some y∧w.cell? ⟨g,u*6+2,none⟩=some (.int .i64 y.kind)∧w.cell? ⟨g,u*6+3,none⟩=some (.int .i64 (y.fn:Int))∧w.cell? ⟨g,u*6+5,none⟩=some (.bool y.cap)∧(∀n,w.frozen? ⟨g,n,none⟩=false)∧At (w.setCell ⟨g,u*6+5,none⟩ (.bool true)) B wb (rtg tg w.heap.size w.heap.size 0) (capP u s) c a M∧Chg (fun b=>tg b=3) w (w.setCell ⟨g,u*6+5,none⟩ (.bool true)):=by
 obtain⟨y,hy⟩:∃y,s.vars[u]?=some y:=⟨_,List.getElem?_eq_getElem hu⟩
 have h2:RowIn vrC 6 61 B w (fun b=>tg b=3) M.v1 s.vars:=h.prt 3
 obtain⟨ad,cap,hv0,l1,l2,hg⟩:=own_slice h2.1
 obtain⟨g,rfl⟩:=hg (by intro e;rw[e] at hu;simp at hu)
 have h2':=h2.1
 rw[hv0] at h2'
 obtain⟨_,_,_,_,_,r6,r7⟩:=h2'.read rxVr.len
 have hg2:tg g=3:=h2.2 g (by rw[hv0];rfl)
 have e1:capP u s={ s with vars:=s.vars.set u { y with cap:=true } }:=by
  unfold capP
  rw[modify_setD _ _ _ y hy]
 have hp:=h.put (k:=3) (g:=g) (j:=u*6+5) (u := .bool true) (s':=capP u s) (by omega) hg2 rfl (fun O q => ?_) (Prt.hold 3 (fun _=>⟨rfl,rfl⟩) (fun q=>absurd rfl q) (fun _=>⟨rfl,rfl⟩) (fun _=>⟨rfl,rfl⟩) (fun _=>⟨rfl,rfl⟩) (fun j v b _ x1 x2=>Or.inl ⟨x1,x2⟩)) h.len
 ·exact⟨g,cap,y,hv0,l2,hg2,hy,r6 u y hy 2 _ rfl,r6 u y hy 3 _ rfl,r6 u y hy 5 _ rfl,fun n=>r7 n,hp.1,hp.2⟩
 ·have q:RowIn vrC 6 61 B w O M.v1 s.vars:=q
  show RowIn vrC 6 61 B _ O M.v1 (capP u s).vars
  have q1:=q.1
  rw[hv0] at q1
  have z:=q1.put rxVr.len (i:=u) (j:=5) (y:=y) (y':={ y with cap:=true }) (u := .bool true) hy (by omega) rfl
  refine⟨?_,q.2⟩
  rw[e1,hv0]
  exact z
theorem use_any (w:World)(B wb:Nat)(O:Nat→Prop)(s:Rz.RS)(a:Int)(v6:Value)(h:RMem w B wb O s 0 a v6)(hb:cr s≤100000000)(x:Nd)(kv:Value)(wt:Bool) :
  Calls Tryz.prog 59 #[.pointer (some ⟨wb,0,none⟩),.agg #[.int .i64 x.kind,.int .i64 x.pl,.string x.name,.int .u64 x.num,.string x.op,kv],.bool wt] w (Tl w B wb O v6 1 (useR bi x.name x.pl wt s) s 0 a):=by
 obtain⟨wn,hwn⟩:∃wn,wn=w.alloc (.cells #[.int .i64 x.kind,.int .i64 x.pl,.string x.name,.int .u64 x.num,.string x.op,kv] 25):=⟨_,rfl⟩
 have hbl:Below w.heap.size w wn:=by rw[hwn];exact below_new (Below.refl _ _) (Nat.le_refl _) _
 have b1:wn.cell? ⟨w.heap.size,1,none⟩=some (.int .i64 x.pl):=by rw[hwn];exact box_new w _ _ 1 _ rfl
 have b2:wn.cell? ⟨w.heap.size,2,none⟩=some (.string x.name):=by rw[hwn];exact box_new w _ _ 2 _ rfl
 have HCR:Hid (cr s≤100000000):=hb
 obtain⟨tg,M,hA0,hgd,rfl,hO⟩:=h
 have hA:=hA0.below hbl
 have HTN:Hid (tg w.heap.size=0):=by
  show _=_
  rcases Nat.eq_zero_or_pos (tg w.heap.size) with q | q
  ·exact q
  ·have:=(hA0.lt w.heap.size (by omega)).2;omega
 have HM:Hid (At wn B wb tg s 0 a M∧GdD s∧(∀b,O b↔tg b≠0)∧Below w.heap.size w wn∧w.heap.size<wn.heap.size):=⟨hA,hgd,hO,hbl,by rw[hwn,size_new];omega⟩
 have c7:=hA.box.2.2.2.2.2.2.2.1
 obtain⟨ad,cap,c3,hl,hbk⟩:=hA.blks
 have HBK:Hid (∀W,Below wn.heap.size wn W→W.cell? ⟨wb,3,none⟩=some (.slice ad s.blocks.length cap)∧W.cell? ⟨w.heap.size,2,none⟩=some (.string x.name)∧∀(j:Nat) (b:Blk),s.blocks.reverse[j]?=some b→∃g ma mc,ad=some ⟨g,0,none⟩∧W.cell? ⟨g,j,none⟩=some (.slice ma b.length mc)∧∀(i:Nat) (y:ByteArray×Nat),b.reverse[i]?=some y→∃q,ma=some ⟨q,0,none⟩∧W.cell? ⟨q,i*2,none⟩=some (.string y.1)∧W.cell? ⟨q,i*2+1,none⟩=some (.int .i64 (y.2:Int))):=fun W hW=>⟨Sc.cells_below hW _ _ c3,Sc.cells_below hW _ _ b2,fun j b hj=>by
  obtain⟨g,ma,mc,e1,e2,e3⟩:=hbk j b hj
  refine⟨g,ma,mc,e1,Sc.cells_below hW _ _ e2,fun i y hy => ?_⟩
  obtain⟨q,f1,f2,f3⟩:=e3 i y hy
  exact⟨q,f1,Sc.cells_below hW _ _ f2,Sc.cells_below hW _ _ f3⟩⟩
 have HFEW:Hid (∀b∈s.blocks,b.length≤100000000):=fun b q=>by have:=hgd.few b q;unfold Rv.cr at hb;omega
 have HB1:Hid (wn.cell? ⟨w.heap.size,1,none⟩=some (.int .i64 x.pl)∧wn.cell? ⟨w.heap.size,2,none⟩=some (.string x.name)):=⟨b1,b2⟩
 have hl2:(s.blocks.length:Int)≤9223372036854775807:=by omega
 have hwl:IntKind.i64.wrap ((s.blocks.length:Int) - 1)=(s.blocks.length:Int) - 1:=by rw[IntKind.wrap_i64];omega
 obtain⟨R,hR⟩:∃R,R=useR bi x.name x.pl wt s:=⟨_,rfl⟩
 rw[←hR]
 have HR:Hid (R=useR bi x.name x.pl wt s):=hR
 clear hb hbl hA hA0 hgd hbk hO hl hR b1 b2
 generalize x.kind=q0 at *
 generalize x.num=q3 at *
 generalize x.op=q4 at *
 go_enter Tryz.func59,Tryz.ntmps59
 go_upto_region 1 with fail
 rw[←hwn]
 clear hwn
 go_upto_block 0 with fail
 go_cut [6] from 6 to 66 (fun v wx=>Below wn.heap.size wn wx∧v = .int .i64 (findI x.name s.blocks))
 case first =>
  clear HM HR HCR HB1 HTN c7
  go_wp2_with fail
  go_loopw [6,7] (fun v j wr'=>∃k:Nat,Hid (k≤s.blocks.length∧Below wn.heap.size wn wr')∧v = .int .i64 (findI x.name (s.blocks.take k))∧j = .int .i64 ((s.blocks.length:Int) - 1 - (k:Int))) (fun v j wr'=>(intOf j+1).toNat)
  case atStart=>exact⟨0,⟨Nat.zero_le _,Below.refl _ _⟩,rfl,by simp⟩
  case round =>
   obtain⟨k,HK,rfl,rfl⟩:=hrel
   have hk:=HK.out.1
   by_cases hgo:k<s.blocks.length∧findP x.name (s.blocks.take k)=none
   ·obtain⟨hk1,hk2⟩:=hgo
    have hv:findI x.name (s.blocks.take k) = -2:=by unfold findI;rw[hk2];rfl
    rw[hv]
    obtain⟨b,hb⟩:∃b,s.blocks[k]?=some b:=⟨_,List.getElem?_eq_getElem hk1⟩
    obtain⟨J,hJ⟩:∃J:Nat,J=s.blocks.length - 1 - k:=⟨_,rfl⟩
    have hrev:s.blocks.reverse[J]?=some b:=by
     rw[List.getElem?_reverse (by omega),show s.blocks.length - 1 - J=k by omega]
     exact hb
    have HREV:Hid (s.blocks.reverse[J]?=some b):=hrev
    have hJi:(s.blocks.length:Int) - 1 - (k:Int)=(J:Int):=by omega
    rw[hJi]
    have hJ2:(J:Int)<(s.blocks.length:Int):=by omega
    have hJ0:(0:Int)≤(J:Int):=by omega
    have HNX:Hid (findI x.name (s.blocks.take (k+1))=fI x.name b∧(s.blocks.length:Int) - 1 - ((k+1:Nat):Int)=(J:Int) - 1∧k+1≤s.blocks.length∧b.length≤100000000):=⟨findI_next hk2 hb,by omega,by omega,HFEW.out b (List.mem_of_getElem? hb)⟩
    have hbl8:(b.length:Int)≤9223372036854775806:=by have:=HNX.out.2.2.2;omega
    have hwj:IntKind.i64.wrap ((J:Int) - 1)=(J:Int) - 1:=by rw[IntKind.wrap_i64];omega
    obtain⟨e3,e2,ebk⟩:=HBK.out wr HK.out.2
    obtain⟨g,ma,mc,rfl,e5,_⟩:=ebk J b hrev
    clear hk1 hk2 hv hb hrev hJi ebk hk HFEW hJ
    go_wp2_with fail
    go_loopw [6,8] (fun v i w2=>∃t:Nat,Hid (t≤b.length∧Below wn.heap.size wn w2)∧v = .int .i64 (fI x.name (b.reverse.take t).reverse)∧i = .int .i64 (t:Int)) (fun v i w2=>b.length - (intOf i).toNat)
    case atStart=>exact⟨0,⟨Nat.zero_le _,HK.out.2⟩,rfl,rfl⟩
    case round =>
     obtain⟨t,HT,rfl,rfl⟩:=hrel
     clear e3 e2 e5
     obtain⟨e3,e2,ebk⟩:=HBK.out wr HT.out.2
     obtain⟨g',ma',mc',eg,e5,e6⟩:=ebk J b HREV.out
     have eg:g=g':=by injection eg with eg;injection eg
     subst eg
     rcases Nat.lt_or_ge t b.length with c | c
     ·have htl:(t:Int)<(b.length:Int):=by omega
      obtain⟨y,hy⟩:∃y,b.reverse[t]?=some y:=⟨_,List.getElem?_eq_getElem (by rw[List.length_reverse];exact c)⟩
      obtain⟨q,rfl,f0,f1⟩:=e6 t y hy
      have HY:Hid (b.reverse[t]?=some y):=hy
      clear e6 ebk hy
      cases tt:(y.1.toList == x.name.toList)
      ·have HN:Hid (fI x.name (b.reverse.take (t+1)).reverse=fI x.name (b.reverse.take t).reverse):=by
        show _=_
        rw[fI_next HY.out,←str_eqD,tt]
        rfl
       clear HBK HNX HREV
       go_wp2_with fail
       go_quiet (fail)
       go_wp2_with fail
       refine⟨⟨t+1,⟨c,Go.below_drewN HT.out.2 nq⟩,by rw[HN.out],by go_num⟩,?_⟩
       simp[intOf]
       omega
      ·have HN:Hid (fI x.name (b.reverse.take (t+1)).reverse=(y.2:Int)):=by
        show _=_
        rw[fI_next HY.out,←str_eqD,tt]
        rfl
       have HF:Hid (∀nq,Below wr.heap.size wr (wr.drewN nq)):=fun nq=>Go.below_drewN (Below.refl _ _) nq
       clear HBK HNX HREV
       go_wp2_with fail
       go_quiet (fail)
       obtain⟨wq,hwq⟩:∃wq,wq=wr.drewN nq:=⟨_,rfl⟩
       have hbq:Below wr.heap.size wr wq:=by rw[hwq];exact HF.out nq
       have HBQ:Hid (Below wn.heap.size wn wq):=HT.out.2.trans (hbq.mono HT.out.2.size)
       rw[←hwq]
       have j3:=Sc.cells_below hbq _ _ e3
       have j5:=Sc.cells_below hbq _ _ e5
       have j1:=Sc.cells_below hbq _ _ f1
       clear hwq hbq e3 e2 e5 f0 f1 HF
       go_wp2_with fail
       refine⟨⟨t+1,⟨c,HBQ.out⟩,by rw[HN.out],by go_num⟩,?_⟩
       simp[intOf]
       omega
     ·have htl:¬(t:Int)<(b.length:Int):=by omega
      have HN:Hid (fI x.name (b.reverse.take t).reverse=fI x.name b):=by
       show _=_
       rw[List.take_of_length_le (by rw[List.length_reverse];exact c),List.reverse_reverse]
      clear e6 ebk HBK HREV
      go_wp2_with fail
      refine⟨⟨k+1,⟨HNX.out.2.2.1,HT.out.2⟩,by rw[HN.out,HNX.out.1],by rw[HNX.out.2.1]⟩,?_⟩
      simp[intOf,hwj]
   ·have HX:Hid (findI x.name (s.blocks.take k)=findI x.name s.blocks):=by
     show _=_
     cases hf:findP x.name (s.blocks.take k) with
     | some u=>rw[findI_full hf];unfold findI;rw[hf];rfl
     | none =>
       have:s.blocks.length≤k:=by
        rcases Nat.lt_or_ge k s.blocks.length with c | c
        ·exact absurd ⟨c,hf⟩ hgo
        ·exact c
       rw[List.take_of_length_le this]
    cases hf:findP x.name (s.blocks.take k) with
    | none =>
      have hk3:k=s.blocks.length:=by
       rcases Nat.lt_or_ge k s.blocks.length with c | c
       ·exact absurd ⟨c,hf⟩ hgo
       ·omega
      have hJ:(s.blocks.length:Int) - 1 - (k:Int) = -1:=by omega
      rw[hJ,HX.out]
      clear hf hgo HBK HFEW hk3
      go_wp2_with fail
      go_meet
      exact⟨HK.out.2,rfl⟩
    | some u =>
      have hV:findI x.name (s.blocks.take k)=(u:Int):=by unfold findI;rw[hf];rfl
      have HV2:Hid (findI x.name s.blocks=(u:Int)):=HX.out.symm.trans hV
      rw[hV]
      have hne:((u:Int) == (-2:Int))=false:=by first | (simp;done) | (simp;omega)
      obtain⟨J,hJ⟩:∃J:Int,J=(s.blocks.length:Int) - 1 - (k:Int):=⟨_,rfl⟩
      rw[←hJ]
      clear hf hgo HBK HFEW hV HX
      by_cases hj0:(0:Int)≤J
      ·go_wp2_with fail
       go_meet
       exact⟨HK.out.2,by rw[HV2.out]⟩
      ·go_wp2_with fail
       go_meet
       exact⟨HK.out.2,by rw[HV2.out]⟩
 case rest =>
  obtain⟨hbx,rfl⟩:=hcut
  have x1:=Sc.cells_below hbx _ _ HB1.out.1
  have x2:=Sc.cells_below hbx _ _ HB1.out.2
  have HBW:Hid (Below wn.heap.size wn wc):=hbx
  have kb:Calls Tryz.prog 73 #[.string x.name] wc fun e w'=>e = .returned (.tuple #[.int .i64 (max (idxI x.name) 0),.bool (bi x.name)])∧Below wc.heap.size wc w':=refBuiltin_any x.name wc
  generalize max (idxI x.name) 0=idx at *
  clear hbx HBK HFEW c3 hl2 hwl c7
  go_wp2_with fail
  refine kb.mono ?_
  rintro e w1 ⟨rfl,hb1⟩
  have hnw:Below wn.heap.size wn w1:=HBW.out.trans (hb1.mono HBW.out.size)
  have HNW:Hid (Below wn.heap.size wn w1):=hnw
  have HW1:Hid (Below w.heap.size w w1):=HM.out.2.2.2.1.trans (hnw.mono HM.out.2.2.2.1.size)
  have HMW:Hid (RMem w1 B wb O s 0 a M.v6):=⟨tg,M,HM.out.1.below hnw,HM.out.2.1,rfl,HM.out.2.2.1⟩
  have y1:=Sc.cells_below hb1 _ _ x1
  clear kb hb1 hnw x1 x2
  cases hf:findP x.name s.blocks with
  | none =>
    have hV:findI x.name s.blocks = -2:=by unfold findI;rw[hf];rfl
    rw[hV]
    have HF:Hid (findP x.name s.blocks=none):=hf
    clear hf hV
    cases hbi:bi x.name with
    | false =>
      have HBI:Hid (bi x.name=false):=hbi
      clear hbi
      have kf:=fail_any w1 B wb O s a M.v6 HMW.out x.pl 73
      go_wp2_with fail
      refine kf.mono ?_
      rintro e w2 ⟨rfl,hw⟩
      have HE:Hid (Tl w B wb O M.v6 1 R s 0 a (.returned (.tuple #[])) w2):=by
       refine⟨rfl,s,73,x.pl,⟨Lk.refl s,by omega,fun e=>absurd rfl e,fun _ => ?_⟩,hw.behind HW1.out⟩
       rw[HR.out]
       have hu:useR bi x.name x.pl wt s = .error (x.pl,73):=by unfold Rz.useR;rw[HF.out];simp only[HBI.out];rfl
       rw[hu];exact⟨rfl,rfl,by decide⟩
      clear kf hw
      go_wp2_with fail
      go_end0
      exact HE.out
    | true =>
      have HBI:Hid (bi x.name=true):=hbi
      clear hbi
      cases wt with
      | true =>
        have kf:=fail_any w1 B wb O s a M.v6 HMW.out x.pl 74
        go_wp2_with fail
        refine kf.mono ?_
        rintro e w2 ⟨rfl,hw⟩
        have HE:Hid (Tl w B wb O M.v6 1 R s 0 a (.returned (.tuple #[])) w2):=by
         refine⟨rfl,s,74,x.pl,⟨Lk.refl s,by omega,fun e=>absurd rfl e,fun _ => ?_⟩,hw.behind HW1.out⟩
         rw[HR.out]
         have hu:useR bi x.name x.pl true s = .error (x.pl,74):=by unfold Rz.useR;rw[HF.out];simp only[HBI.out];rfl
         rw[hu];exact⟨rfl,rfl,by decide⟩
        clear kf hw
        go_wp2_with fail
        go_end0
        exact HE.out
      | false =>
        have HDONE:Hid (∀w',RWent w B wb O { s with uses:=s.uses++[⟨x.pl,-1⟩] } 0 a M.v6 w'→Tl w B wb O M.v6 1 R s 0 a (.returned (.tuple #[])) w'):=fun w' hw=>by
         have hu:useR bi x.name x.pl false s = .ok { s with uses:=s.uses++[⟨x.pl,-1⟩] }:=by unfold Rz.useR;rw[HF.out];simp only[HBI.out];rfl
         refine⟨rfl,{ s with uses:=s.uses++[⟨x.pl,-1⟩] },0,a,⟨⟨rfl,rfl,rfl,rfl,Nat.le_refl _⟩,?_,fun e=>absurd rfl e,fun _ => ?_⟩,hw⟩
         ·unfold Rv.cr;simp only[List.length_append,List.length_singleton];omega
         ·rw[HR.out,hu];exact⟨rfl,rfl⟩
        have HZ0:Hid (∀nq,At (w1.drewN nq) B wb tg s 0 a M∧Stp wn tg (w1.drewN nq) tg∧tg w.heap.size=0∧w.heap.size<(w1.drewN nq).heap.size):=fun nq=>⟨HM.out.1.below (Go.below_drewN HNW.out nq),Stp.below (Go.below_drewN HNW.out nq),HTN.out,Nat.lt_of_lt_of_le HM.out.2.2.2.2 (Go.below_drewN HNW.out nq).size⟩
        have HY:Hid (∀nq,(w1.drewN nq).cell? ⟨w.heap.size,1,none⟩=some (.int .i64 x.pl)):=fun nq=>Sc.cells_below (Go.below_drewN (Below.refl _ _) nq) _ _ y1
        clear HF HBI HNW HMW HW1 HBW
        go_wp2_with fail
        go_quiet (fail)
        obtain⟨wz,hwz⟩:∃wz,wz=w1.drewN nq:=⟨_,rfl⟩
        obtain⟨tz,htz⟩:∃tz,tz=tg:=⟨_,rfl⟩
        have HZ:Hid (At wz B wb tz s 0 a M∧Stp wn tg wz tz∧tz w.heap.size=0∧w.heap.size<wz.heap.size):=by rw[htz,hwz];exact HZ0.out nq
        rw[←hwz]
        clear y1
        have y1:wz.cell? ⟨w.heap.size,1,none⟩=some (.int .i64 x.pl):=by rw[hwz];exact HY.out nq
        clear hwz htz HZ0 HY
        have rU:RowIn usC 2 57 B wz (fun b=>tz b=4) M.v2 s.uses:=HZ.out.1.prt 4
        obtain⟨adU,capU,hvU,lU1,lU2,_⟩:=own_slice rU.1
        have HVU:Hid (M.v2 = .slice adU s.uses.length capU):=hvU
        have y2:wz.cell? ⟨wb,2,none⟩=some (.slice adU s.uses.length capU):=by have:=HZ.out.1.box.2.2.1;rw[hvU] at this;exact this
        rw[hvU] at rU
        have hwbl:=HZ.out.1.B0
        have hfzU:=HZ.out.1.box.2.2.2.2.2.2.2.2.2 2
        have hnl:=HZ.out.2.2.2
        have HLD:Hid (Below wz.heap.size wz wz.drew):=(Below.refl _ _).drew
        have HLO:Hid (∀o,Below wz.heap.size wz (wz.drew.alloc o)):=fun o=>((Below.refl wz.heap.size wz).drew).alloc (Nat.le_refl _) _
        have HSW:Hid (∀W,Below wz.heap.size wz W→W.cell? ⟨wb,2,none⟩=some (.slice adU s.uses.length capU)∧W.cell? ⟨w.heap.size,1,none⟩=some (.int .i64 x.pl)):=fun W q=>⟨Sc.cells_below q _ _ y2,Sc.cells_below q _ _ y1⟩
        have HALU:Hid (Below wz.heap.size wz (wz.drew.alloc (.cells #[.int .i64 x.pl,.int .i64 (-1)] 57))):=HLO.out _
        have HOWU:Hid (OwnR usC 2 57 B (wz.drew.alloc (.cells #[.int .i64 x.pl,.int .i64 (-1)] 57)) (.slice adU s.uses.length capU) s.uses):=rU.1.below HALU.out
        have HBXU:Hid (((s.uses.length+1)+(s.uses.length+1) / 4+192)*16≤281474976710656∧s.uses.length+1≤maxLen):=by have h1:=HCR.out;unfold Rv.cr at h1;exact⟨by omega,by unfold maxLen;omega⟩
        have HBBU:Hid (B≤wz.heap.size):=by show B≤_;omega
        have HFZU:Hid (∀w6:World,Chg (fun b=>(Value.slice adU s.uses.length capU).ownBlock=some b) wz w6→(w6.cell? ⟨wb,2,none⟩=some (.slice adU s.uses.length capU)∧w6.cell? ⟨w.heap.size,1,none⟩=some (.int .i64 x.pl))∧w6.frozen? ⟨wb,2,none⟩=false):=fun w6 h6=>by
         have e1:¬(Value.slice adU s.uses.length capU).ownBlock=some wb:=fun q=>by have:=rU.2 wb q;omega
         have e2:¬(Value.slice adU s.uses.length capU).ownBlock=some w.heap.size:=fun q=>by have h1:=rU.2 w.heap.size q;have h2:=HZ.out.2.2.1;omega
         exact⟨⟨h6.cell y2 e1,h6.cell y1 e2⟩,by rw[World.frozen?_of_block (w:=wz) (h6.block wb hwbl.2.1 e1)];exact hfzU⟩
        clear rU hvU lU1 lU2 hwbl hfzU hnl y1 y2
        go_wp2_with fail
        have hS:(fun W:World=>W.cell? ⟨wb,2,none⟩=some (.slice adU s.uses.length capU)∧W.cell? ⟨w.heap.size,1,none⟩=some (.int .i64 x.pl)) wz.drew:=HSW.out _ HLD.out
        refine region_E (S:=(fun W:World=>W.cell? ⟨wb,2,none⟩=some (.slice adU s.uses.length capU)∧W.cell? ⟨w.heap.size,1,none⟩=some (.int .i64 x.pl))) (s:=15) (by kernel_rfl) ?_
        refine anyE_take (i:=0) (v := ?_) rfl (by kernel_rfl) (by kernel_rfl) (by kernel_rfl) (by kernel_rfl) (fun _ _ _ h=>h) (Or.inl ⟨by rfl,?_⟩) hS ?_
        rotate_left
        ·intro W hSW
         obtain⟨s1,s2⟩:=hSW
         go_simp
         all_goals (with_reducible rfl)
        simp only[Act.put]
        refine anyE_take (i:=1) (v := ?_) rfl (by kernel_rfl) (by kernel_rfl) (by kernel_rfl) (by kernel_rfl) (fun _ _ _ h=>h) (Or.inl ⟨by rfl,?_⟩) hS ?_
        rotate_left
        ·intro W hSW
         obtain⟨s1,s2⟩:=hSW
         go_simp
         all_goals (with_reducible rfl)
        simp only[Act.put]
        refine anyE_take (i:=2) (v := ?_) rfl (by kernel_rfl) (by kernel_rfl) (by kernel_rfl) (by kernel_rfl) (fun _ _ _ h=>h) (Or.inl ⟨by rfl,?_⟩) hS ?_
        rotate_left
        ·intro W hSW
         obtain⟨s1,s2⟩:=hSW
         go_simp
         all_goals (with_reducible rfl)
        simp only[Act.put]
        refine anyE_take (i:=3) (v := ?_) rfl (by kernel_rfl) (by kernel_rfl) (by kernel_rfl) (by kernel_rfl) (fun _ _ _ h=>h) (Or.inl ⟨by rfl,?_⟩) hS ?_
        rotate_left
        ·intro W hSW
         obtain⟨s1,s2⟩:=hSW
         go_simp
         all_goals (with_reducible rfl)
        simp only[Act.put]
        refine anyE_take (i:=4) (v := ?_) rfl (by kernel_rfl) (by kernel_rfl) (by kernel_rfl) (by kernel_rfl) (fun _ _ _ h=>h) (Or.inl ⟨by rfl,?_⟩) hS ?_
        rotate_left
        ·intro W hSW
         obtain⟨s1,s2⟩:=hSW
         go_simp
         all_goals (with_reducible rfl)
        simp only[Act.put]
        refine anyE_take (i:=5) (v := ?_) rfl (by kernel_rfl) (by kernel_rfl) (by kernel_rfl) (by kernel_rfl) (fun _ _ _ h=>h) (Or.inl ⟨by rfl,?_⟩) hS ?_
        rotate_left
        ·intro W hSW
         obtain⟨s1,s2⟩:=hSW
         go_simp
         all_goals (with_reducible rfl)
        simp only[Act.put]
        refine anyE_take (i:=6) (v := ?_) rfl (by kernel_rfl) (by kernel_rfl) (by kernel_rfl) (by kernel_rfl) (fun _ _ _ h=>h) (Or.inl ⟨by rfl,?_⟩) hS ?_
        rotate_left
        ·intro W hSW
         obtain⟨s1,s2⟩:=hSW
         go_simp
         all_goals (with_reducible rfl)
        simp only[Act.put]
        refine anyE_take (i:=7) (v := ?_) rfl (by kernel_rfl) (by kernel_rfl) (by kernel_rfl) (by kernel_rfl) (fun _ _ _ h=>h) (Or.inl ⟨by rfl,?_⟩) hS ?_
        rotate_left
        ·intro W hSW
         obtain⟨s1,s2⟩:=hSW
         go_simp
         all_goals (with_reducible rfl)
        simp only[Act.put]
        refine anyE_take (i:=8) (v := ?_) rfl (by kernel_rfl) (by kernel_rfl) (by kernel_rfl) (by kernel_rfl) (fun _ _ _ h=>h) (Or.inl ⟨by rfl,?_⟩) hS ?_
        rotate_left
        ·intro W hSW
         obtain⟨s1,s2⟩:=hSW
         go_simp
         all_goals (with_reducible rfl)
        simp only[Act.put]
        refine anyE_take (i:=9) (v := ?_) rfl (by kernel_rfl) (by kernel_rfl) (by kernel_rfl) (by kernel_rfl) (fun _ _ _ h=>h) (Or.inl ⟨by rfl,?_⟩) hS ?_
        rotate_left
        ·intro W hSW
         obtain⟨s1,s2⟩:=hSW
         go_simp
         all_goals (with_reducible rfl)
        simp only[Act.put]
        refine anyE_only (i:=10) (by kernel_rfl) (op_step rfl (fun K hK => ?_))
        go_simp
        refine hK.out _ _ ⟨fun _=>HSW.out _ (HLO.out _),?_⟩
        clear hK K hS
        have hS:=HSW.out (wz.drew.alloc (.cells #[.int .i64 x.pl,.int .i64 (-1)] 57)) (HLO.out _)
        refine anyE_only (i:=11) (by kernel_rfl) (op_step rfl (fun K hK => ?_))
        refine step_row rxUs (by rfl) _ _ (by rfl) B (.slice adU s.uses.length capU) s.uses (by rfl) (by exact HOWU.out) wz.heap.size ⟨x.pl,-1⟩ #[.int .i64 x.pl,.int .i64 (-1)] 57 (by rfl) (by exact at_new _ _) (by rfl) (by exact HBXU.out.2) (by exact HBXU.out.1) (by exact Nat.le_trans HBBU.out HALU.out.size) ?_
        intro g6 cap6 w6 ho6 hg6 hl6
        have HO6:Hid (OwnR usC 2 57 B w6 (.slice (some ⟨g6,0,none⟩) (s.uses.length+1) cap6) (s.uses++[⟨x.pl,-1⟩])∧Chg (fun b=>(Value.slice adU s.uses.length capU).ownBlock=some b) wz w6∧((Value.slice adU s.uses.length capU).ownBlock=some g6∨wz.heap.size≤g6)):=⟨ho6,(Chg.of_below HALU.out).trans (Chg.of_grown (S:=fun b=>(Value.slice adU s.uses.length capU).ownBlock=some b) hg6 (fun k q=>q)) (fun _ _ q=>q),hl6.imp id (fun q=>by rw[q];exact HALU.out.size)⟩
        obtain⟨z1,z3⟩:=HFZU.out w6 HO6.out.2.1
        clear ho6 hg6 hl6 hS
        have hS:=z1
        clear z1
        refine hK.out _ _ ⟨fun _=>hS,?_⟩
        clear hK K
        refine anyE_only (i:=12) (by kernel_rfl) (op_step rfl (fun K hK => ?_))
        go_simp
        refine hK.out _ _ ⟨fun _=>hS,?_⟩
        clear hK K
        refine anyE_only (i:=13) (by kernel_rfl) (op_step rfl (fun K hK => ?_))
        go_simp
        refine hK.out _ _ ⟨fun _=>hS,?_⟩
        clear hK K
        refine anyE_only (i:=14) (by kernel_rfl) (op_step rfl (fun K hK => ?_))
        go_simp
        refine hK.out _ _ ⟨fun _=>hS,?_⟩
        clear hK K
        refine anyE_only (i:=15) (by kernel_rfl) (op_step rfl (fun K hK => ?_))
        obtain⟨s1,s2⟩:=hS
        go_simp
        refine hK.out _ _ ⟨fun e=>absurd rfl e,?_⟩
        refine anyE_done (by kernel_rfl) ?_ _
        clear hK K
        have hr2:=HZ.out.1.row2 (w5:=w6) (v' := .slice (some ⟨g6,0,none⟩) (s.uses.length+1) cap6) (xs':=s.uses++[⟨x.pl,-1⟩]) (by rw[HVU.out];exact HO6.out.2.1) HO6.out.1 (fun b q=>by
         have q:g6=b:=by simpa [Value.ownBlock] using q
         rw[←q,HVU.out]
         exact HO6.out.2.2)
        have hfin:RWent w B wb O { s with uses:=s.uses++[⟨x.pl,-1⟩] } 0 a M.v6 (w6.setCell ⟨wb,2,none⟩ (.slice (some ⟨g6,0,none⟩) (s.uses.length+1) cap6)):=Stp.went (((Stp.below HM.out.2.2.2.1).trans HZ.out.2.1).trans (Stp.rtg hr2.2 (fun b q=>by omega))) HM.out.2.2.1 hr2.1 ⟨HM.out.2.1.fnl,HM.out.2.1.blk,HM.out.2.1.wf,HM.out.2.1.few,HM.out.2.1.scl⟩ rfl
        have HE:Hid (Tl w B wb O M.v6 1 R s 0 a (.returned (.tuple #[])) (w6.setCell ⟨wb,2,none⟩ (.slice (some ⟨g6,0,none⟩) (s.uses.length+1) cap6))):=HDONE.out _ hfin
        clear hr2 hfin HO6 HZ HDONE HFZU HBBU HBXU HOWU HALU HSW HLO HLD HVU z3
        go_wp2_with fail
        go_end0
        exact HE.out
  | some u =>
    have hV:findI x.name s.blocks=(u:Int):=by unfold findI;rw[hf];rfl
    rw[hV]
    have HF:Hid (findP x.name s.blocks=some u):=hf
    have hul:u<s.vars.length:=find_lt x.name _ s.blocks u HM.out.2.1.blk hf
    obtain⟨gv,capv,yv,hv1,lv,tgv,hyv,dk,df,dc,dfz,_,_⟩:=(HM.out.1.below HNW.out).cap hul
    have HYV:Hid (s.vars[u]?=some yv∧M.v1 = .slice (some ⟨gv,0,none⟩) s.vars.length capv∧u<s.vars.length):=⟨hyv,hv1,hul⟩
    have d1:=(HM.out.1.below HNW.out).box.2.1
    rw[hv1] at d1
    have d4:=(HM.out.1.below HNW.out).box.2.2.2.2.1
    have hu1:(u:Int)<(s.vars.length:Int):=by omega
    have hu0:(0:Int)≤(u:Int):=by omega
    have hum:((u:Int) == (-2:Int))=false:=by first | (simp;done) | (simp;omega)
    have hun:decide ((u:Int)<0)=false:=by simp
    have hvl:(s.vars.length:Int)≤9223372036854775807:=by have h9:=HCR.out;unfold Rv.cr at h9;omega
    have HFX:Hid (fixedR u s=(yv.kind == 2 || yv.kind == 5)):=by show _=_;unfold fixedR;rw[hyv];rfl
    have HFN:Hid (((s.vars[u]?).map (·.fn)).getD 0=yv.fn):=by show _=_;rw[hyv];rfl
    clear hf hV hul hv1 lv hyv
    generalize bi x.name=bz at *
    generalize yv.kind=kz at *
    generalize yv.cap=cz at *
    go_upto_region 16 with fail
    go_cut [113] from 85 to 113 (fun cv wx=>cv = .bool (wt && (kz == 2 || kz == 5))∧w1=wx)
    case first =>
     clear HF HYV HFX HFN HBW HNW HW1 HMW HR HCR HM HTN
     cases wt with
     | false =>
       go_wp2_with fail
       go_meet
       exact⟨rfl,rfl⟩
     | true =>
       cases hk2:(kz == (2:Int)) with
       | true =>
         go_wp2_with fail
         go_meet
         exact⟨by first | rfl | (rw[hk2];rfl) | (rw[hk2,hk5];rfl),rfl⟩
       | false =>
         cases hk5:(kz == (5:Int)) with
         | true =>
           go_wp2_with fail
           go_meet
           exact⟨by first | rfl | (rw[hk2];rfl) | (rw[hk2,hk5];rfl),rfl⟩
         | false =>
           go_wp2_with fail
           go_meet
           exact⟨by first | rfl | (rw[hk2];rfl) | (rw[hk2,hk5];rfl),rfl⟩
    case rest =>
     obtain⟨rfl,rfl⟩:=hcut
     have HFV:Hid ((wt && fixedR u s)=(wt && (kz == 2 || kz == 5))):=by show _=_;rw[HFX.out]
     clear dk HFX
     cases hfx:(wt && (kz == (2:Int) || kz == (5:Int))) with
     | true =>
       rw[hfx] at HFV
       clear hfx
       have kf:=fail_any w1 B wb O s a M.v6 HMW.out x.pl 74
       go_wp2_with fail
       refine kf.mono ?_
       rintro e w2 ⟨rfl,hw⟩
       have HE:Hid (Tl w B wb O M.v6 1 R s 0 a (.returned (.tuple #[])) w2):=by
        refine⟨rfl,s,74,x.pl,⟨Lk.refl s,by omega,fun e=>absurd rfl e,fun _ => ?_⟩,hw.behind HW1.out⟩
        rw[HR.out]
        have hu:useR bi x.name x.pl wt s = .error (x.pl,74):=by unfold Rz.useR;rw[HF.out];simp only[HFV.out];rfl
        rw[hu];exact⟨rfl,rfl,by decide⟩
       clear kf hw
       go_wp2_with fail
       go_end0
       exact HE.out
     | false =>
       rw[hfx] at HFV
       clear hfx
       by_cases hq:yv.fn=s.fn
       ·rw[hq] at df
        have hqq:((s.fn:Int) != (s.fn:Int))=false:=by simp
        have HDONE:Hid (∀w',RWent w B wb O { s with uses:=s.uses++[⟨x.pl,(u:Int)⟩] } 0 a M.v6 w'→Tl w B wb O M.v6 1 R s 0 a (.returned (.tuple #[])) w'):=fun w' hw=>by
         have hu:useR bi x.name x.pl wt s = .ok { s with uses:=s.uses++[⟨x.pl,(u:Int)⟩] }:=by unfold Rz.useR;rw[HF.out];simp only[HFV.out];simp only[Bool.false_eq_true,if_false,HFN.out];rw[if_neg (fun c=>c hq)]
         refine⟨rfl,{ s with uses:=s.uses++[⟨x.pl,(u:Int)⟩] },0,a,⟨⟨rfl,rfl,rfl,rfl,Nat.le_refl _⟩,?_,fun e=>absurd rfl e,fun _ => ?_⟩,hw⟩
         ·unfold Rv.cr;simp only[List.length_append,List.length_singleton,List.length_modify];omega
         ·rw[HR.out,hu];exact⟨rfl,rfl⟩
        have HZ0:Hid (∀nq,At (w1.drewN nq) B wb tg s 0 a M∧Stp wn tg (w1.drewN nq) tg∧tg w.heap.size=0∧w.heap.size<(w1.drewN nq).heap.size):=fun nq=>⟨HM.out.1.below (Go.below_drewN HNW.out nq),Stp.below (Go.below_drewN HNW.out nq),HTN.out,Nat.lt_of_lt_of_le HM.out.2.2.2.2 (Go.below_drewN HNW.out nq).size⟩
        have HY:Hid (∀nq,(w1.drewN nq).cell? ⟨w.heap.size,1,none⟩=some (.int .i64 x.pl)):=fun nq=>Sc.cells_below (Go.below_drewN (Below.refl _ _) nq) _ _ y1
        clear HF HFV HFN HYV HNW HMW HW1 HBW hq dc dfz tgv
        go_wp2_with fail
        go_quiet (fail)
        clear d1 d4 df hqq
        obtain⟨wz,hwz⟩:∃wz,wz=w1.drewN nq:=⟨_,rfl⟩
        obtain⟨tz,htz⟩:∃tz,tz=tg:=⟨_,rfl⟩
        have HZ:Hid (At wz B wb tz s 0 a M∧Stp wn tg wz tz∧tz w.heap.size=0∧w.heap.size<wz.heap.size):=by rw[htz,hwz];exact HZ0.out nq
        rw[←hwz]
        clear y1
        have y1:wz.cell? ⟨w.heap.size,1,none⟩=some (.int .i64 x.pl):=by rw[hwz];exact HY.out nq
        clear hwz htz HZ0 HY
        have rU:RowIn usC 2 57 B wz (fun b=>tz b=4) M.v2 s.uses:=HZ.out.1.prt 4
        obtain⟨adU,capU,hvU,lU1,lU2,_⟩:=own_slice rU.1
        have HVU:Hid (M.v2 = .slice adU s.uses.length capU):=hvU
        have y2:wz.cell? ⟨wb,2,none⟩=some (.slice adU s.uses.length capU):=by have:=HZ.out.1.box.2.2.1;rw[hvU] at this;exact this
        rw[hvU] at rU
        have hwbl:=HZ.out.1.B0
        have hfzU:=HZ.out.1.box.2.2.2.2.2.2.2.2.2 2
        have hnl:=HZ.out.2.2.2
        have HLD:Hid (Below wz.heap.size wz wz.drew):=(Below.refl _ _).drew
        have HLO:Hid (∀o,Below wz.heap.size wz (wz.drew.alloc o)):=fun o=>((Below.refl wz.heap.size wz).drew).alloc (Nat.le_refl _) _
        have HSW:Hid (∀W,Below wz.heap.size wz W→W.cell? ⟨wb,2,none⟩=some (.slice adU s.uses.length capU)∧W.cell? ⟨w.heap.size,1,none⟩=some (.int .i64 x.pl)):=fun W q=>⟨Sc.cells_below q _ _ y2,Sc.cells_below q _ _ y1⟩
        have HALU:Hid (Below wz.heap.size wz (wz.drew.alloc (.cells #[.int .i64 x.pl,.int .i64 ((u:Int))] 57))):=HLO.out _
        have HOWU:Hid (OwnR usC 2 57 B (wz.drew.alloc (.cells #[.int .i64 x.pl,.int .i64 ((u:Int))] 57)) (.slice adU s.uses.length capU) s.uses):=rU.1.below HALU.out
        have HBXU:Hid (((s.uses.length+1)+(s.uses.length+1) / 4+192)*16≤281474976710656∧s.uses.length+1≤maxLen):=by have h1:=HCR.out;unfold Rv.cr at h1;exact⟨by omega,by unfold maxLen;omega⟩
        have HBBU:Hid (B≤wz.heap.size):=by show B≤_;omega
        have HFZU:Hid (∀w6:World,Chg (fun b=>(Value.slice adU s.uses.length capU).ownBlock=some b) wz w6→(w6.cell? ⟨wb,2,none⟩=some (.slice adU s.uses.length capU)∧w6.cell? ⟨w.heap.size,1,none⟩=some (.int .i64 x.pl))∧w6.frozen? ⟨wb,2,none⟩=false):=fun w6 h6=>by
         have e1:¬(Value.slice adU s.uses.length capU).ownBlock=some wb:=fun q=>by have:=rU.2 wb q;omega
         have e2:¬(Value.slice adU s.uses.length capU).ownBlock=some w.heap.size:=fun q=>by have h1:=rU.2 w.heap.size q;have h2:=HZ.out.2.2.1;omega
         exact⟨⟨h6.cell y2 e1,h6.cell y1 e2⟩,by rw[World.frozen?_of_block (w:=wz) (h6.block wb hwbl.2.1 e1)];exact hfzU⟩
        clear rU hvU lU1 lU2 hwbl hfzU hnl y1 y2
        go_wp2_with fail
        have hS:(fun W:World=>W.cell? ⟨wb,2,none⟩=some (.slice adU s.uses.length capU)∧W.cell? ⟨w.heap.size,1,none⟩=some (.int .i64 x.pl)) wz.drew:=HSW.out _ HLD.out
        refine region_E (S:=(fun W:World=>W.cell? ⟨wb,2,none⟩=some (.slice adU s.uses.length capU)∧W.cell? ⟨w.heap.size,1,none⟩=some (.int .i64 x.pl))) (s:=15) (by kernel_rfl) ?_
        refine anyE_take (i:=0) (v := ?_) rfl (by kernel_rfl) (by kernel_rfl) (by kernel_rfl) (by kernel_rfl) (fun _ _ _ h=>h) (Or.inl ⟨by rfl,?_⟩) hS ?_
        rotate_left
        ·intro W hSW
         obtain⟨s1,s2⟩:=hSW
         go_simp
         all_goals (with_reducible rfl)
        simp only[Act.put]
        refine anyE_take (i:=1) (v := ?_) rfl (by kernel_rfl) (by kernel_rfl) (by kernel_rfl) (by kernel_rfl) (fun _ _ _ h=>h) (Or.inl ⟨by rfl,?_⟩) hS ?_
        rotate_left
        ·intro W hSW
         obtain⟨s1,s2⟩:=hSW
         go_simp
         all_goals (with_reducible rfl)
        simp only[Act.put]
        refine anyE_take (i:=2) (v := ?_) rfl (by kernel_rfl) (by kernel_rfl) (by kernel_rfl) (by kernel_rfl) (fun _ _ _ h=>h) (Or.inl ⟨by rfl,?_⟩) hS ?_
        rotate_left
        ·intro W hSW
         obtain⟨s1,s2⟩:=hSW
         go_simp
         all_goals (with_reducible rfl)
        simp only[Act.put]
        refine anyE_take (i:=3) (v := ?_) rfl (by kernel_rfl) (by kernel_rfl) (by kernel_rfl) (by kernel_rfl) (fun _ _ _ h=>h) (Or.inl ⟨by rfl,?_⟩) hS ?_
        rotate_left
        ·intro W hSW
         obtain⟨s1,s2⟩:=hSW
         go_simp
         all_goals (with_reducible rfl)
        simp only[Act.put]
        refine anyE_take (i:=4) (v := ?_) rfl (by kernel_rfl) (by kernel_rfl) (by kernel_rfl) (by kernel_rfl) (fun _ _ _ h=>h) (Or.inl ⟨by rfl,?_⟩) hS ?_
        rotate_left
        ·intro W hSW
         obtain⟨s1,s2⟩:=hSW
         go_simp
         all_goals (with_reducible rfl)
        simp only[Act.put]
        refine anyE_take (i:=5) (v := ?_) rfl (by kernel_rfl) (by kernel_rfl) (by kernel_rfl) (by kernel_rfl) (fun _ _ _ h=>h) (Or.inl ⟨by rfl,?_⟩) hS ?_
        rotate_left
        ·intro W hSW
         obtain⟨s1,s2⟩:=hSW
         go_simp
         all_goals (with_reducible rfl)
        simp only[Act.put]
        refine anyE_take (i:=6) (v := ?_) rfl (by kernel_rfl) (by kernel_rfl) (by kernel_rfl) (by kernel_rfl) (fun _ _ _ h=>h) (Or.inl ⟨by rfl,?_⟩) hS ?_
        rotate_left
        ·intro W hSW
         obtain⟨s1,s2⟩:=hSW
         go_simp
         all_goals (with_reducible rfl)
        simp only[Act.put]
        refine anyE_take (i:=7) (v := ?_) rfl (by kernel_rfl) (by kernel_rfl) (by kernel_rfl) (by kernel_rfl) (fun _ _ _ h=>h) (Or.inl ⟨by rfl,?_⟩) hS ?_
        rotate_left
        ·intro W hSW
         obtain⟨s1,s2⟩:=hSW
         go_simp
         all_goals (with_reducible rfl)
        simp only[Act.put]
        refine anyE_take (i:=8) (v := ?_) rfl (by kernel_rfl) (by kernel_rfl) (by kernel_rfl) (by kernel_rfl) (fun _ _ _ h=>h) (Or.inl ⟨by rfl,?_⟩) hS ?_
        rotate_left
        ·intro W hSW
         obtain⟨s1,s2⟩:=hSW
         go_simp
         all_goals (with_reducible rfl)
        simp only[Act.put]
        refine anyE_take (i:=9) (v := ?_) rfl (by kernel_rfl) (by kernel_rfl) (by kernel_rfl) (by kernel_rfl) (fun _ _ _ h=>h) (Or.inl ⟨by rfl,?_⟩) hS ?_
        rotate_left
        ·intro W hSW
         obtain⟨s1,s2⟩:=hSW
         go_simp
         all_goals (with_reducible rfl)
        simp only[Act.put]
        refine anyE_only (i:=10) (by kernel_rfl) (op_step rfl (fun K hK => ?_))
        go_simp
        refine hK.out _ _ ⟨fun _=>HSW.out _ (HLO.out _),?_⟩
        clear hK K hS
        have hS:=HSW.out (wz.drew.alloc (.cells #[.int .i64 x.pl,.int .i64 ((u:Int))] 57)) (HLO.out _)
        refine anyE_only (i:=11) (by kernel_rfl) (op_step rfl (fun K hK => ?_))
        refine step_row rxUs (by rfl) _ _ (by rfl) B (.slice adU s.uses.length capU) s.uses (by rfl) (by exact HOWU.out) wz.heap.size ⟨x.pl,(u:Int)⟩ #[.int .i64 x.pl,.int .i64 ((u:Int))] 57 (by rfl) (by exact at_new _ _) (by rfl) (by exact HBXU.out.2) (by exact HBXU.out.1) (by exact Nat.le_trans HBBU.out HALU.out.size) ?_
        intro g6 cap6 w6 ho6 hg6 hl6
        have HO6:Hid (OwnR usC 2 57 B w6 (.slice (some ⟨g6,0,none⟩) (s.uses.length+1) cap6) (s.uses++[⟨x.pl,(u:Int)⟩])∧Chg (fun b=>(Value.slice adU s.uses.length capU).ownBlock=some b) wz w6∧((Value.slice adU s.uses.length capU).ownBlock=some g6∨wz.heap.size≤g6)):=⟨ho6,(Chg.of_below HALU.out).trans (Chg.of_grown (S:=fun b=>(Value.slice adU s.uses.length capU).ownBlock=some b) hg6 (fun k q=>q)) (fun _ _ q=>q),hl6.imp id (fun q=>by rw[q];exact HALU.out.size)⟩
        obtain⟨z1,z3⟩:=HFZU.out w6 HO6.out.2.1
        clear ho6 hg6 hl6 hS
        have hS:=z1
        clear z1
        refine hK.out _ _ ⟨fun _=>hS,?_⟩
        clear hK K
        refine anyE_only (i:=12) (by kernel_rfl) (op_step rfl (fun K hK => ?_))
        go_simp
        refine hK.out _ _ ⟨fun _=>hS,?_⟩
        clear hK K
        refine anyE_only (i:=13) (by kernel_rfl) (op_step rfl (fun K hK => ?_))
        go_simp
        refine hK.out _ _ ⟨fun _=>hS,?_⟩
        clear hK K
        refine anyE_only (i:=14) (by kernel_rfl) (op_step rfl (fun K hK => ?_))
        go_simp
        refine hK.out _ _ ⟨fun _=>hS,?_⟩
        clear hK K
        refine anyE_only (i:=15) (by kernel_rfl) (op_step rfl (fun K hK => ?_))
        obtain⟨s1,s2⟩:=hS
        go_simp
        refine hK.out _ _ ⟨fun e=>absurd rfl e,?_⟩
        refine anyE_done (by kernel_rfl) ?_ _
        clear hK K
        have hr2:=HZ.out.1.row2 (w5:=w6) (v' := .slice (some ⟨g6,0,none⟩) (s.uses.length+1) cap6) (xs':=s.uses++[⟨x.pl,(u:Int)⟩]) (by rw[HVU.out];exact HO6.out.2.1) HO6.out.1 (fun b q=>by
         have q:g6=b:=by simpa [Value.ownBlock] using q
         rw[←q,HVU.out]
         exact HO6.out.2.2)
        have hfin:RWent w B wb O { s with uses:=s.uses++[⟨x.pl,(u:Int)⟩] } 0 a M.v6 (w6.setCell ⟨wb,2,none⟩ (.slice (some ⟨g6,0,none⟩) (s.uses.length+1) cap6)):=Stp.went (((Stp.below HM.out.2.2.2.1).trans HZ.out.2.1).trans (Stp.rtg hr2.2 (fun b q=>by omega))) HM.out.2.2.1 hr2.1 ⟨HM.out.2.1.fnl,HM.out.2.1.blk,HM.out.2.1.wf,HM.out.2.1.few,HM.out.2.1.scl⟩ rfl
        have HE:Hid (Tl w B wb O M.v6 1 R s 0 a (.returned (.tuple #[])) (w6.setCell ⟨wb,2,none⟩ (.slice (some ⟨g6,0,none⟩) (s.uses.length+1) cap6))):=HDONE.out _ hfin
        clear hr2 hfin HO6 HZ HDONE HFZU HBBU HBXU HOWU HALU HSW HLO HLD HVU z3
        go_wp2_with fail
        go_end0
        exact HE.out
       ·have hqq:((yv.fn:Int) != (s.fn:Int))=true:=by simp;omega
        have HDONE:Hid (∀w',RWent w B wb O { capP u s with uses:=s.uses++[⟨x.pl,(u:Int)⟩] } 0 a M.v6 w'→Tl w B wb O M.v6 1 R s 0 a (.returned (.tuple #[])) w'):=fun w' hw=>by
         have hu:useR bi x.name x.pl wt s = .ok { capP u s with uses:=s.uses++[⟨x.pl,(u:Int)⟩] }:=by unfold Rz.useR;rw[HF.out];simp only[HFV.out];simp only[Bool.false_eq_true,if_false,HFN.out];rw[if_pos hq];rfl
         refine⟨rfl,{ capP u s with uses:=s.uses++[⟨x.pl,(u:Int)⟩] },0,a,⟨⟨rfl,rfl,rfl,rfl,Nat.le_refl _⟩,?_,fun e=>absurd rfl e,fun _ => ?_⟩,hw⟩
         ·unfold Rv.cr capP;simp only[List.length_append,List.length_singleton,List.length_modify];omega
         ·rw[HR.out,hu];exact⟨rfl,rfl⟩
        have HZ0:Hid (∀nq,At (w1.drewN nq) B wb tg s 0 a M∧Stp wn tg (w1.drewN nq) tg∧tg w.heap.size=0∧w.heap.size<(w1.drewN nq).heap.size):=fun nq=>⟨HM.out.1.below (Go.below_drewN HNW.out nq),Stp.below (Go.below_drewN HNW.out nq),HTN.out,Nat.lt_of_lt_of_le HM.out.2.2.2.2 (Go.below_drewN HNW.out nq).size⟩
        have HY:Hid (∀nq,(w1.drewN nq).cell? ⟨w.heap.size,1,none⟩=some (.int .i64 x.pl)):=fun nq=>Sc.cells_below (Go.below_drewN (Below.refl _ _) nq) _ _ y1
        have HGV:Hid (∀nq,(w1.drewN nq).cell? ⟨wb,1,none⟩=some (.slice (some ⟨gv,0,none⟩) s.vars.length capv)∧(w1.drewN nq).cell? ⟨gv,u*6+5,none⟩=some (.bool cz)∧(w1.drewN nq).frozen? ⟨gv,u*6+5,none⟩=false):=fun nq=>⟨Sc.cells_below (Go.below_drewN (Below.refl _ _) nq) _ _ d1,Sc.cells_below (Go.below_drewN (Below.refl _ _) nq) _ _ dc,by
         rw[World.frozen?_of_block (w:=w1) ((Go.below_drewN (Below.refl w1.heap.size w1) nq).block gv ((HM.out.1.below HNW.out).lt gv (by omega)).2)]
         exact dfz _⟩
        clear HF HFV HFN HNW HMW HW1 HBW hq dfz dc
        generalize (yv.fn:Int)=fz at *
        go_wp2_with fail
        go_quiet (fail)
        obtain⟨wy,hwy⟩:∃wy,wy=w1.drewN nq:=⟨_,rfl⟩
        have hz0:=HZ0.out nq
        have hgv:=HGV.out nq
        have hy:=HY.out nq
        rw[←hwy] at hz0 hgv hy ⊢
        obtain⟨hgv1,hgv2,hgv3⟩:=hgv
        have HZY:Hid (At wy B wb tg s 0 a M∧Stp wn tg wy tg∧tg w.heap.size=0∧w.heap.size<wy.heap.size):=hz0
        have HYY:Hid (wy.cell? ⟨w.heap.size,1,none⟩=some (.int .i64 x.pl)):=hy
        clear HZ0 HGV HY hz0 hy d1 d4 df hqq y1 hwy
        go_upto_region 20 with fail
        obtain⟨wz,hwz⟩:∃wz,wz=wy.setCell ⟨gv,u*6+5,none⟩ (.bool true):=⟨_,rfl⟩
        rw[←hwz]
        obtain⟨g8,cap8,y8,e8,_,tg8,_,_,_,_,_,hA8,hC8⟩:=HZY.out.1.cap HYV.out.2.2
        have eg8:gv=g8:=by
         rw[HYV.out.2.1] at e8
         injection e8 with e _ _
         injection e with e
         injection e
        subst eg8
        rw[←hwz] at hA8 hC8
        obtain⟨tz,htz⟩:∃tz,tz=rtg tg wy.heap.size wy.heap.size 0:=⟨_,rfl⟩
        rw[←htz] at hA8
        have HZ:Hid (At wz B wb tz (capP u s) 0 a M∧Stp wn tg wz tz∧tz w.heap.size=0∧w.heap.size<wz.heap.size):=⟨hA8,HZY.out.2.1.trans (by rw[htz];exact Stp.rtg hC8 (fun b q=>by omega)),by rw[htz,rtg_old HZY.out.2.2.2];exact HZY.out.2.2.1,Nat.lt_of_lt_of_le HZY.out.2.2.2 hC8.size⟩
        have y1:wz.cell? ⟨w.heap.size,1,none⟩=some (.int .i64 x.pl):=hC8.cell HYY.out (by have:=HZY.out.2.2.1;show ¬tg w.heap.size=3;omega)
        clear hwz htz hA8 hC8 tg8 e8 HZY HYY HYV hgv1 hgv2 hgv3 tgv
        have rU:RowIn usC 2 57 B wz (fun b=>tz b=4) M.v2 s.uses:=HZ.out.1.prt 4
        obtain⟨adU,capU,hvU,lU1,lU2,_⟩:=own_slice rU.1
        have HVU:Hid (M.v2 = .slice adU s.uses.length capU):=hvU
        have y2:wz.cell? ⟨wb,2,none⟩=some (.slice adU s.uses.length capU):=by have:=HZ.out.1.box.2.2.1;rw[hvU] at this;exact this
        rw[hvU] at rU
        have hwbl:=HZ.out.1.B0
        have hfzU:=HZ.out.1.box.2.2.2.2.2.2.2.2.2 2
        have hnl:=HZ.out.2.2.2
        have HLD:Hid (Below wz.heap.size wz wz.drew):=(Below.refl _ _).drew
        have HLO:Hid (∀o,Below wz.heap.size wz (wz.drew.alloc o)):=fun o=>((Below.refl wz.heap.size wz).drew).alloc (Nat.le_refl _) _
        have HSW:Hid (∀W,Below wz.heap.size wz W→W.cell? ⟨wb,2,none⟩=some (.slice adU s.uses.length capU)∧W.cell? ⟨w.heap.size,1,none⟩=some (.int .i64 x.pl)):=fun W q=>⟨Sc.cells_below q _ _ y2,Sc.cells_below q _ _ y1⟩
        have HALU:Hid (Below wz.heap.size wz (wz.drew.alloc (.cells #[.int .i64 x.pl,.int .i64 ((u:Int))] 57))):=HLO.out _
        have HOWU:Hid (OwnR usC 2 57 B (wz.drew.alloc (.cells #[.int .i64 x.pl,.int .i64 ((u:Int))] 57)) (.slice adU s.uses.length capU) s.uses):=rU.1.below HALU.out
        have HBXU:Hid (((s.uses.length+1)+(s.uses.length+1) / 4+192)*16≤281474976710656∧s.uses.length+1≤maxLen):=by have h1:=HCR.out;unfold Rv.cr at h1;exact⟨by omega,by unfold maxLen;omega⟩
        have HBBU:Hid (B≤wz.heap.size):=by show B≤_;omega
        have HFZU:Hid (∀w6:World,Chg (fun b=>(Value.slice adU s.uses.length capU).ownBlock=some b) wz w6→(w6.cell? ⟨wb,2,none⟩=some (.slice adU s.uses.length capU)∧w6.cell? ⟨w.heap.size,1,none⟩=some (.int .i64 x.pl))∧w6.frozen? ⟨wb,2,none⟩=false):=fun w6 h6=>by
         have e1:¬(Value.slice adU s.uses.length capU).ownBlock=some wb:=fun q=>by have:=rU.2 wb q;omega
         have e2:¬(Value.slice adU s.uses.length capU).ownBlock=some w.heap.size:=fun q=>by have h1:=rU.2 w.heap.size q;have h2:=HZ.out.2.2.1;omega
         exact⟨⟨h6.cell y2 e1,h6.cell y1 e2⟩,by rw[World.frozen?_of_block (w:=wz) (h6.block wb hwbl.2.1 e1)];exact hfzU⟩
        clear rU hvU lU1 lU2 hwbl hfzU hnl y1 y2
        go_wp2_with fail
        have hS:(fun W:World=>W.cell? ⟨wb,2,none⟩=some (.slice adU s.uses.length capU)∧W.cell? ⟨w.heap.size,1,none⟩=some (.int .i64 x.pl)) wz.drew:=HSW.out _ HLD.out
        refine region_E (S:=(fun W:World=>W.cell? ⟨wb,2,none⟩=some (.slice adU s.uses.length capU)∧W.cell? ⟨w.heap.size,1,none⟩=some (.int .i64 x.pl))) (s:=15) (by kernel_rfl) ?_
        refine anyE_take (i:=0) (v := ?_) rfl (by kernel_rfl) (by kernel_rfl) (by kernel_rfl) (by kernel_rfl) (fun _ _ _ h=>h) (Or.inl ⟨by rfl,?_⟩) hS ?_
        rotate_left
        ·intro W hSW
         obtain⟨s1,s2⟩:=hSW
         go_simp
         all_goals (with_reducible rfl)
        simp only[Act.put]
        refine anyE_take (i:=1) (v := ?_) rfl (by kernel_rfl) (by kernel_rfl) (by kernel_rfl) (by kernel_rfl) (fun _ _ _ h=>h) (Or.inl ⟨by rfl,?_⟩) hS ?_
        rotate_left
        ·intro W hSW
         obtain⟨s1,s2⟩:=hSW
         go_simp
         all_goals (with_reducible rfl)
        simp only[Act.put]
        refine anyE_take (i:=2) (v := ?_) rfl (by kernel_rfl) (by kernel_rfl) (by kernel_rfl) (by kernel_rfl) (fun _ _ _ h=>h) (Or.inl ⟨by rfl,?_⟩) hS ?_
        rotate_left
        ·intro W hSW
         obtain⟨s1,s2⟩:=hSW
         go_simp
         all_goals (with_reducible rfl)
        simp only[Act.put]
        refine anyE_take (i:=3) (v := ?_) rfl (by kernel_rfl) (by kernel_rfl) (by kernel_rfl) (by kernel_rfl) (fun _ _ _ h=>h) (Or.inl ⟨by rfl,?_⟩) hS ?_
        rotate_left
        ·intro W hSW
         obtain⟨s1,s2⟩:=hSW
         go_simp
         all_goals (with_reducible rfl)
        simp only[Act.put]
        refine anyE_take (i:=4) (v := ?_) rfl (by kernel_rfl) (by kernel_rfl) (by kernel_rfl) (by kernel_rfl) (fun _ _ _ h=>h) (Or.inl ⟨by rfl,?_⟩) hS ?_
        rotate_left
        ·intro W hSW
         obtain⟨s1,s2⟩:=hSW
         go_simp
         all_goals (with_reducible rfl)
        simp only[Act.put]
        refine anyE_take (i:=5) (v := ?_) rfl (by kernel_rfl) (by kernel_rfl) (by kernel_rfl) (by kernel_rfl) (fun _ _ _ h=>h) (Or.inl ⟨by rfl,?_⟩) hS ?_
        rotate_left
        ·intro W hSW
         obtain⟨s1,s2⟩:=hSW
         go_simp
         all_goals (with_reducible rfl)
        simp only[Act.put]
        refine anyE_take (i:=6) (v := ?_) rfl (by kernel_rfl) (by kernel_rfl) (by kernel_rfl) (by kernel_rfl) (fun _ _ _ h=>h) (Or.inl ⟨by rfl,?_⟩) hS ?_
        rotate_left
        ·intro W hSW
         obtain⟨s1,s2⟩:=hSW
         go_simp
         all_goals (with_reducible rfl)
        simp only[Act.put]
        refine anyE_take (i:=7) (v := ?_) rfl (by kernel_rfl) (by kernel_rfl) (by kernel_rfl) (by kernel_rfl) (fun _ _ _ h=>h) (Or.inl ⟨by rfl,?_⟩) hS ?_
        rotate_left
        ·intro W hSW
         obtain⟨s1,s2⟩:=hSW
         go_simp
         all_goals (with_reducible rfl)
        simp only[Act.put]
        refine anyE_take (i:=8) (v := ?_) rfl (by kernel_rfl) (by kernel_rfl) (by kernel_rfl) (by kernel_rfl) (fun _ _ _ h=>h) (Or.inl ⟨by rfl,?_⟩) hS ?_
        rotate_left
        ·intro W hSW
         obtain⟨s1,s2⟩:=hSW
         go_simp
         all_goals (with_reducible rfl)
        simp only[Act.put]
        refine anyE_take (i:=9) (v := ?_) rfl (by kernel_rfl) (by kernel_rfl) (by kernel_rfl) (by kernel_rfl) (fun _ _ _ h=>h) (Or.inl ⟨by rfl,?_⟩) hS ?_
        rotate_left
        ·intro W hSW
         obtain⟨s1,s2⟩:=hSW
         go_simp
         all_goals (with_reducible rfl)
        simp only[Act.put]
        refine anyE_only (i:=10) (by kernel_rfl) (op_step rfl (fun K hK => ?_))
        go_simp
        refine hK.out _ _ ⟨fun _=>HSW.out _ (HLO.out _),?_⟩
        clear hK K hS
        have hS:=HSW.out (wz.drew.alloc (.cells #[.int .i64 x.pl,.int .i64 ((u:Int))] 57)) (HLO.out _)
        refine anyE_only (i:=11) (by kernel_rfl) (op_step rfl (fun K hK => ?_))
        refine step_row rxUs (by rfl) _ _ (by rfl) B (.slice adU s.uses.length capU) s.uses (by rfl) (by exact HOWU.out) wz.heap.size ⟨x.pl,(u:Int)⟩ #[.int .i64 x.pl,.int .i64 ((u:Int))] 57 (by rfl) (by exact at_new _ _) (by rfl) (by exact HBXU.out.2) (by exact HBXU.out.1) (by exact Nat.le_trans HBBU.out HALU.out.size) ?_
        intro g6 cap6 w6 ho6 hg6 hl6
        have HO6:Hid (OwnR usC 2 57 B w6 (.slice (some ⟨g6,0,none⟩) (s.uses.length+1) cap6) (s.uses++[⟨x.pl,(u:Int)⟩])∧Chg (fun b=>(Value.slice adU s.uses.length capU).ownBlock=some b) wz w6∧((Value.slice adU s.uses.length capU).ownBlock=some g6∨wz.heap.size≤g6)):=⟨ho6,(Chg.of_below HALU.out).trans (Chg.of_grown (S:=fun b=>(Value.slice adU s.uses.length capU).ownBlock=some b) hg6 (fun k q=>q)) (fun _ _ q=>q),hl6.imp id (fun q=>by rw[q];exact HALU.out.size)⟩
        obtain⟨z1,z3⟩:=HFZU.out w6 HO6.out.2.1
        clear ho6 hg6 hl6 hS
        have hS:=z1
        clear z1
        refine hK.out _ _ ⟨fun _=>hS,?_⟩
        clear hK K
        refine anyE_only (i:=12) (by kernel_rfl) (op_step rfl (fun K hK => ?_))
        go_simp
        refine hK.out _ _ ⟨fun _=>hS,?_⟩
        clear hK K
        refine anyE_only (i:=13) (by kernel_rfl) (op_step rfl (fun K hK => ?_))
        go_simp
        refine hK.out _ _ ⟨fun _=>hS,?_⟩
        clear hK K
        refine anyE_only (i:=14) (by kernel_rfl) (op_step rfl (fun K hK => ?_))
        go_simp
        refine hK.out _ _ ⟨fun _=>hS,?_⟩
        clear hK K
        refine anyE_only (i:=15) (by kernel_rfl) (op_step rfl (fun K hK => ?_))
        obtain⟨s1,s2⟩:=hS
        go_simp
        refine hK.out _ _ ⟨fun e=>absurd rfl e,?_⟩
        refine anyE_done (by kernel_rfl) ?_ _
        clear hK K
        have hr2:=HZ.out.1.row2 (w5:=w6) (v' := .slice (some ⟨g6,0,none⟩) (s.uses.length+1) cap6) (xs':=s.uses++[⟨x.pl,(u:Int)⟩]) (by rw[HVU.out];exact HO6.out.2.1) HO6.out.1 (fun b q=>by
         have q:g6=b:=by simpa [Value.ownBlock] using q
         rw[←q,HVU.out]
         exact HO6.out.2.2)
        have hfin:RWent w B wb O { capP u s with uses:=s.uses++[⟨x.pl,(u:Int)⟩] } 0 a M.v6 (w6.setCell ⟨wb,2,none⟩ (.slice (some ⟨g6,0,none⟩) (s.uses.length+1) cap6)):=Stp.went (((Stp.below HM.out.2.2.2.1).trans HZ.out.2.1).trans (Stp.rtg hr2.2 (fun b q=>by omega))) HM.out.2.2.1 hr2.1 ⟨HM.out.2.1.fnl,fun b q e q2=>by have:=HM.out.2.1.blk b q e q2;show _<(s.vars.modify u _).length;simpa using this,HM.out.2.1.wf,fun b q=>by have:=HM.out.2.1.few b q;show _≤(s.vars.modify u _).length;simpa using this,HM.out.2.1.scl⟩ rfl
        have HE:Hid (Tl w B wb O M.v6 1 R s 0 a (.returned (.tuple #[])) (w6.setCell ⟨wb,2,none⟩ (.slice (some ⟨g6,0,none⟩) (s.uses.length+1) cap6))):=HDONE.out _ hfin
        clear hr2 hfin HO6 HZ HDONE HFZU HBBU HBXU HOWU HALU HSW HLO HLD HVU z3
        go_wp2_with fail
        go_end0
        exact HE.out
end Go.Proofs.YtihmdcdifakepaaGreat.Rv.Rx
