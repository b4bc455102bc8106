/- CN, HW, HD -/
import Derived.Test.YtahhionlbfhinabGreatDoorB5
import Derived.Test.YtahhionlbfhinabGreatDoorB1
import Derived.Laws.BitsAllLaws
import Derived.Test.YtahhionlbfhinabGreatDoorB4
set_option linter.unusedVariables false
set_option linter.unusedSimpArgs false
set_option maxRecDepth 100000
set_option maxHeartbeats 40000000
namespace Go.Proofs.YtahhionlbfhinabGreatDoor.Ce
open Go.RowKit Go.Proofs.YtahhionlbfhinabGreatDoor.Hp
theorem liftE_len (E:List En)(j:Nat)(e:En):(liftE E j e).length=E.length:=by
 unfold liftE
 split
 ·rfl
 ·rw[List.length_set]
theorem CsAt.ent {w:World}{B cb ga L capa:Nat}{O:Nat→Prop}{E:List En}(h:CsAt w B cb O E (.slice (some ⟨ga,0,none⟩) L capa))(hL:E.length=L){k:Nat}{x:En}(hk:E[k]?=some x) :
  w.cell? ⟨cb,0,none⟩=some (.slice (some ⟨ga,0,none⟩) L capa)∧w.cell? ⟨ga,k*3,none⟩=some (.bool x.ok)∧w.frozen? ⟨ga,k*3,none⟩=false∧k<L∧(L:Int)≤9223372036854775807 ∧
  CsAt (w.setCell ⟨ga,k*3,none⟩ (.bool false)) B cb O (E.set k ⟨false,x.top,x.bes⟩) (.slice (some ⟨ga,0,none⟩) L capa)∧Chg O w (w.setCell ⟨ga,k*3,none⟩ (.bool false)):=by
 subst hL
 have hkl:=(List.getElem?_eq_some_iff.1 hk).1
 obtain⟨g',cap',e1,hr⟩:=h.row hkl
 cases e1
 have h2:=hr.max
 have h1:=hr.len
 refine⟨hr.c0,(hr.at' k x hk).1,hr.fr (k*3) (by omega),hkl,by unfold maxLen at h2;omega,?_,Chg.set w ⟨ga,k*3,none⟩ _ ((h.os ga).2 (Or.inr rfl))⟩
 have:=h.put (j:=0) (e':=⟨false,x.top,x.bes⟩) (u := .bool false) hk (by omega) rfl
 rw[Nat.add_zero] at this
 exact this
theorem lt_of_os {w:World}{B cb:Nat}{O:Nat→Prop}{E:List En}{v:Value}(h:CsAt w B cb O E v):∀b,O b→b<w.heap.size:=fun b q=>(h.lt b q).2
theorem break_in (w:World)(B cb:Nat)(O:Nat→Prop)(l:List Cel)(E0:List En)(v:Value)(h:CsAt w B cb O E0 v)(hr:Rl E0 l)(hi:Inv l)(ht:l.length≤top)(n:Nat)(hn:okAt l n=true) :
  Calls Tryz.prog 114 #[.pointer (some ⟨cb,0,none⟩),.int .i64 (n:Int)] w fun ex w'=>ex = .returned (.int .i64 ((breakD l n).2:Int))∧Went w B cb O (breakD l n).1 w':=by
 have kv:=valid_at w B cb O E0 v h (n:Int)
 have hvt:vB E0 (n:Int)=true:=by
  unfold vB
  rw[hr.at',Int.toNat_natCast,hn]
  simp
 rw[hvt] at kv
 have hlen:=hr.len
 have hnl:n<E0.length:=by rw[hlen];exact ok_lt hn
 have hex:∃e,E0[n]?=some e:=⟨_,List.getElem?_eq_getElem hnl⟩
 obtain⟨e0,he0⟩:=hex
 obtain⟨ga,capa,rfl,hrow⟩:=h.row hnl
 rw[hlen] at h
 have HO:Hid (∀b,O b→b<w.heap.size):=lt_of_os h
 have HT:Hid (l.length≤top∧Inv l∧okAt l n=true):=⟨ht,hi,hn⟩
 obtain⟨c0,c1,f1,hnL,hlim,hcs1,hch1⟩:=h.ent hlen he0
 obtain⟨hp0,hp1⟩:=pile_start hr hn e0 he0
 have hnLi:(n:Int)<l.length:=by omega
 have HS:Hid (∀w5 s6,Below (w.setCell ⟨ga,n*3,none⟩ (.bool false)).heap.size (w.setCell ⟨ga,n*3,none⟩ (.bool false)) w5→OwnR natC 1 3 w.heap.size w5 s6 [n]→BrAt w B cb O l n (.slice (some ⟨ga,0,none⟩) l.length capa) w5 (E0.set n ⟨false,e0.top,e0.bes⟩) (put (fun _=>false) n) [n] s6):=fun w5 s6 hb5 ho5=>⟨hp0,hcs1.below hb5,hch1.trans (Chg.of_below hb5) (fun _ _ q=>q),ho5⟩
 have HP1:Hid (cntD (put (fun _=>false) n) l.length=1):=hp1
 have HSZ:Hid ((w.setCell ⟨ga,n*3,none⟩ (.bool false)).heap.size=w.heap.size):=by show _=_;simp
 generalize hL:l.length=L at *
 clear h hr hi ht hrow hlen hn hvt hcs1 hch1 hp0 hp1 hnl
 obtain⟨eo,et,eb⟩:=e0
 simp only at *
 have HLL:Hid (l.length=L):=hL
 clear hL
 go_enter Tryz.func114,Tryz.ntmps114
 go_wp2_with fail
 go_step3
 go_wp2_with fail
 refine kv.mono ?_
 rintro e w2 ⟨rfl,rfl⟩
 clear kv
 go_wp2_with fail
 go_step3
 go_wp2_with fail
 have hst:BrAt w2 B cb O l n (.slice (some ⟨ga,0,none⟩) L capa) ((w2.setCell ⟨ga,n*3,none⟩ (.bool false)).alloc (.cells #[.int .i64 (n:Int)] 3)) (E0.set n ⟨false,et,eb⟩) (put (fun _=>false) n) [n] (.slice (some ⟨w2.heap.size,0,none⟩) 1 1):=by
  refine HS.out _ _ (below_new (Below.refl _ _) (Nat.le_refl _) _) ?_
  refine⟨rfl,Or.inr ⟨w2.heap.size,1,#[.int .i64 (n:Int)],rfl,Nat.le_refl _,?_,Nat.le_refl _,by unfold maxLen;omega,rfl,rfl⟩⟩
  have:=at_new (w2.setCell ⟨ga,n*3,none⟩ (.bool false)) (.cells #[.int .i64 (n:Int)] 3)
  rw[HSZ.out] at this
  exact this
 have HST:=(show Hid _ from hst)
 clear hst HS HSZ c0 c1 f1 he0 hnL hnLi
 go_loopg [5,6] (2*(L - 1)+1) (fun g s5 s6 wx=>∃(E:List En) (D:Nat→Bool) (S:List Nat),BrAt w2 B cb O l n (.slice (some ⟨ga,0,none⟩) L capa) wx E D S s6∧s5 = .int .i64 (cntD D L:Int)∧g=2*(L - cntD D L)+S.length)
 case atStart=>exact⟨_,_,_,HST.out,by rw[HP1.out];rfl,by rw[HP1.out];rfl⟩
 case round =>
  clear HST HP1
  obtain⟨E,D,S,hb,rfl,hg⟩:=hrel
  have HB:=(show Hid _ from hb)
  have HG:=(show Hid _ from hg)
  have hbd:=hb.bound (by rw[HLL.out];exact HT.out.1)
  rw[HLL.out] at hbd
  clear hb hg
  rcases List.eq_nil_or_concat S with rfl | ⟨S',j,rfl⟩
  ·have hfin:=HB.out.pile.last HT.out.2.1 HT.out.2.2
   rw[HLL.out] at hfin
   have HF:Hid (((cntD D L:Nat):Int)=((breakD l n).2:Int)∧Went w2 B cb O (breakD l n).1 wr):=⟨by rw[hfin.1],O,⟨E,_,HB.out.cs,hfin.2,inv_break HT.out.2.1 _,by
    have h5:(breakD l n).1.length=l.length:=by rw[←hfin.2.len,HB.out.pile.bk.len]
    rw[h5,HLL.out];exact HT.out.1⟩,HB.out.chg,fun b q=>Or.inl q⟩
   obtain⟨⟨ad,cap,xs⟩,e1,e2,_⟩:=HB.out.stk.sl rtNat.len
   simp only at e2
   subst e2
   unfold Sli.val at e1
   simp only[List.length_nil] at e1
   subst e1
   clear hfin HB HG hbd
   generalize (cntD D L:Int)=z at *
   go_wp2_with fail
   go_ret
   exact⟨by rw[←HF.out.1];rfl,HF.out.2⟩
  ·rw[List.concat_eq_append] at *
   obtain⟨gs,cs,rfl,hgs,hgl,hlast,hc1,hc2⟩:=HB.out.stk.last
   obtain⟨e,he⟩:=HB.out.entry
   have kl:=HB.out.lift HO.out e he
   have hm:((S'.length+1:Nat):Int)≤9223372036854775807:=by unfold maxLen at hc2;omega
   have hcs1:(S'.length:Int)≤cs:=by omega
   have hcs2:(cs:Int)≤9223372036854775807:=by unfold maxLen at hc2;omega
   have HBD:=(show Hid _ from hbd)
   clear hgs hgl hc1 hc2 he hbd
   go_wp2_with fail
   refine kl.mono ?_
   rintro ex w3 ⟨rfl,hbi⟩
   have HBI:=(show Hid _ from hbi)
   clear kl hbi HB hlast
   go_wp2_with fail
   go_loopg [5,6,8] (e.top.toNat) (fun g2 s5 s6 s8 wy=>s5 = .int .i64 (cntD D L:Int)∧s6 = .slice (some ⟨gs,0,none⟩) (S'.length+1) cs∧∃(E1:List En) (e1:En),BiAt w2 B cb O l n (.slice (some ⟨ga,0,none⟩) L capa) wy E1 D S' j e1 (.slice (some ⟨gs,0,none⟩) (S'.length+1) cs)∧s8 = .int .i64 e1.top∧g2=e1.top.toNat)
   case atStart=>exact⟨rfl,rfl,E,e,HBI.out,rfl,rfl⟩
   case round =>
    clear HBI
    rename_i wr0 _ _ gk0 _ _ _
    obtain⟨rfl,rfl,E1,e1,hbi,rfl,hg2⟩:=hrel
    have HBI:=(show Hid _ from hbi)
    have HG2:=(show Hid _ from hg2)
    clear hbi hg2
    by_cases h0:e1.top=0
    ·have hpop:=HBI.out.pop h0
     have HPOP:=(show Hid _ from hpop)
     rw[h0]
     clear hpop HBI HG2
     go_wp2_with fail
     go_roundg (2*(L - cntD D L)+S'.length)
     case measure=>have h5:=HG.out;rw[List.length_append,List.length_singleton] at h5;omega
     case rel=>exact⟨E1,D,S',HPOP.out,rfl,rfl⟩
    ·obtain⟨k,x,k1,k2,k3,k4,k5,k6,k7,k8⟩:=HBI.out.took h0
     rw[HLL.out] at k6
     obtain⟨c0,c1,f1,hkL,_,hcs',hch'⟩:=HBI.out.cs.ent (by rw[liftE_len,HBI.out.pile.bk.len,HLL.out]) k5
     have hkLi:(k:Int)<L:=by omega
     have hk0:((k:Int) != 0)=true:=by simp;omega
     rw[k1]
     cases hx:x.ok with
     | false =>
       obtain⟨b1,b2⟩:=k7 hx
       rw[hx] at c1
       have kl:=b1.lift HO.out _ b2
       simp only at kl
       have HK:Hid (x.bes.toNat<k∧gk=k):=⟨by omega,by have:=HG2.out;rw[k1,Int.toNat_natCast] at this;exact this⟩
       obtain⟨gs',cs',es,_,_,hlast,_,_⟩:=b1.stk.last
       cases es
       clear b1 b2 k7 k8 k1 k2 k3 k4 k5 k6 hcs' hch' f1 HBI HG2 h0 hx hkL
       go_wp2_with fail
       refine kl.mono ?_
       rintro ex w4 ⟨rfl,hbi⟩
       have HBI:=(show Hid _ from hbi)
       clear kl hbi hlast c0 c1
       go_wp2_with fail
       go_roundg (x.bes.toNat)
       case measure=>have h5:=HK.out;omega
       case rel=>exact⟨rfl,rfl,_,_,HBI.out,rfl,rfl⟩
     | true =>
       obtain⟨b1,b2,b3,b4⟩:=k8 hx
       rw[HLL.out] at b4
       rw[hx] at c1
       have HSTK:Hid (OwnR natC 1 3 w2.heap.size (wr.setCell ⟨ga,k*3,none⟩ (.bool false)) (.slice (some ⟨gs,0,none⟩) (S'.length+1) cs) (S'++[j])):=stk_kept HO.out HBI.out.stk hch'
       have HCS:Hid (CsAt (wr.setCell ⟨ga,k*3,none⟩ (.bool false)) B cb O ((liftE E1 j e1).set k ⟨false,x.top,x.bes⟩) (.slice (some ⟨ga,0,none⟩) L capa)∧Chg O w2 (wr.setCell ⟨ga,k*3,none⟩ (.bool false))∧Pile ((liftE E1 j e1).set k ⟨false,x.top,x.bes⟩) l n (put D k) (S'++[j]++[k])):=⟨hcs',HBI.out.chg.trans hch' (fun _ _ q=>q),b3⟩
       have HB4:Hid (cntD (put D k) L=cntD D L+1):=b4
       have hz0:(cntD D L:Int)≤9223372036854775806:=by have:=HBD.out.1;omega
       have hz1:(0:Int)≤(cntD D L:Int):=by omega
       have HZ:Hid (((cntD (put D k) L:Nat):Int)=(cntD D L:Int)+1):=by show _=_;rw[HB4.out];omega
       have HBX:Hid ((((S'++[j]).length+1)+((S'++[j]).length+1) / 4+192)*8≤281474976710656∧(S'++[j]).length+1≤maxLen):=by
        have h5:=HBD.out
        refine⟨by omega,by unfold maxLen;omega⟩
       clear b1 b2 b3 b4 k7 k8 k1 k2 k3 k4 k5 k6 hcs' hch' HBI HG2 h0 hx hkL
       generalize hzz:(cntD D L:Int)=z at *
       have HZZ:=(show Hid _ from hzz)
       clear hzz
       go_upto_region 13 with fail
       generalize hwm:wr.setCell ⟨ga,k*3,none⟩ (.bool false)=wm at *
       have HWM:Hid (wm.heap.size=wr.heap.size):=by show _=_;rw[←hwm];simp
       clear hwm c0 c1 f1
       have HA:Hid (∀o,Below wm.heap.size wm (wm.alloc o)):=fun o=>(Below.refl _ _).alloc (Nat.le_refl _) _
       go_upto_region 14 with fail
       have HSTK2:Hid (OwnR natC 1 3 w2.heap.size (wm.alloc (.cells #[.int .i64 (k:Int)] 3)) (.slice (some ⟨gs,0,none⟩) (S'.length+1) cs) (S'++[j])):=HSTK.out.below (HA.out _)
       have HONE:Hid (Sli.ok natC 1 (wm.alloc (.cells #[.int .i64 (k:Int)] 3)) ⟨some ⟨wm.heap.size,0,none⟩,1,[k]⟩):=one_sli rtNat (at_new _ _) rfl
       have HSZ:Hid (w2.heap.size≤(wm.alloc (.cells #[.int .i64 (k:Int)] 3)).heap.size):=Nat.le_trans HCS.out.2.1.size (HA.out _).size
       go_wp2_with (at_builtin;refine app_row rtNat rfl _ _ rfl w2.heap.size (.slice (some ⟨gs,0,none⟩) (S'.length+1) cs) (S'++[j]) ?h1 HSTK2.out ⟨some ⟨wm.heap.size,0,none⟩,1,[k]⟩ ?h3 HONE.out HBX.out.2 HBX.out.1 HSZ.out ?_)
       case h1=>rfl
       case h3=>rfl
       intro v6 w6 ho6 hg6 hl6
       have hne6:∀b,v6.ownBlock=some b→w2.heap.size≤b:=fun b hb=>(ho6.lt b hb).1
       have hch6:Chg (fun b=>b=gs) wm w6:=(Chg.of_below (HA.out _)).trans (Chg.of_grown (S:=fun b=>b=gs) hg6 (fun b q=>by simp[Value.ownBlock] at q;exact q.symm)) (fun _ _ q=>q)
       have hgs2:∀b,O b→¬b=gs:=fun b q r=>by
        have h5:=HO.out b q
        have h6:=(HSTK.out.lt gs rfl).1
        omega
       have HNEW:Hid (BrAt w2 B cb O l n (.slice (some ⟨ga,0,none⟩) L capa) w6 ((liftE E1 j e1).set k ⟨false,x.top,x.bes⟩) (put D k) (S'++[j]++[k]) v6):=⟨HCS.out.2.2,HCS.out.1.kept hch6 hgs2,HCS.out.2.1.trans hch6 (fun i hi q=>by
        have h6:=(HSTK.out.lt gs rfl).1
        omega),by rw[List.append_assoc];exact ho6⟩
       have HCN:Hid (2*(L - cntD (put D k) L)+(S'++[j]++[k]).length<2*(L - cntD D L)+(S'++[j]).length):=by
        show _<_
        have h5:=HB4.out
        have h6:=cntD_le (put D k) L
        simp only[List.length_append,List.length_singleton]
        omega
       clear ho6 hg6 hl6 hne6 hch6 hgs2 HSTK HSTK2 HCS HONE HSZ HBX HB4 HWM HA
       go_wp2_with fail
       go_roundg (2*(L - cntD (put D k) L)+(S'++[j]++[k]).length)
       case measure=>have h5:=HG.out;have h6:=HCN.out;omega
       case rel=>exact⟨_,put D k,_,HNEW.out,by rw[HZ.out],rfl⟩
theorem break_out (w:World)(B cb:Nat)(O:Nat→Prop)(l:List Cel)(E:List En)(v:Value)(h:CsAt w B cb O E v)(n:Int)(hv:vB E n=false) :
  Calls Tryz.prog 114 #[.pointer (some ⟨cb,0,none⟩),.int .i64 n] w fun ex w'=>ex = .returned (.int .i64 0)∧w'=w:=by
 have kv:=valid_at w B cb O E v h n
 rw[hv] at kv
 clear h hv
 go_enter Tryz.func114,Tryz.ntmps114
 go_wp2_with fail
 go_step3
 go_wp2_with fail
 refine kv.mono ?_
 rintro e w2 ⟨rfl,rfl⟩
 clear kv
 go_wp2_with fail
 try rw[Exit.noGoto_ret]
 go_ret
 exact⟨rfl,rfl⟩
theorem break_any (w:World)(B cb:Nat)(O:Nat→Prop)(l:List Cel)(h:Cs w B cb O l)(n:Int) :
  Calls Tryz.prog 114 #[.pointer (some ⟨cb,0,none⟩),.int .i64 n] w fun ex w'=>ex = .returned (.int .i64 ((breakD l n).2:Int))∧Went w B cb O (breakD l n).1 w':=by
 have h0:=h
 obtain⟨E,v,h1,h2,h3,h4⟩:=h
 by_cases c:0≤n∧okAt l n.toNat=true
 ·obtain⟨m,rfl⟩:∃m:Nat,n=m:=⟨n.toNat,by omega⟩
  rw[Int.toNat_natCast] at c
  exact break_in w B cb O l E v h1 h2 h3 h4 m c.2
 ·rw[break_none c]
  refine(break_out w B cb O l E v h1 n ?_).mono ?_
  ·unfold vB
   rw[h2.at']
   by_cases q:0≤n
   ·rw[decide_eq_true q,Bool.true_and]
    cases hh:okAt l n.toNat with
    | false=>rfl
    | true=>exact absurd ⟨q,hh⟩ c
   ·rw[decide_eq_false q,Bool.false_and]
  ·rintro ex w' ⟨rfl,rfl⟩
   exact⟨rfl,Went.same h0 (Below.refl _ _)⟩
theorem new_any (w:World):Calls Tryz.prog 47 #[] w fun e w'=>e = .returned (.pointer (some ⟨w.heap.size,0,none⟩))∧Cs w' w.heap.size w.heap.size (fun b=>b=w.heap.size) []∧Below w.heap.size w w':=by
 have HC:Hid (Cs (w.alloc (.cells #[.slice none 0 0] 137)) w.heap.size w.heap.size (fun b=>b=w.heap.size) []∧Below w.heap.size w (w.alloc (.cells #[.slice none 0 0] 137))):=⟨⟨[],.slice none 0 0,⟨at_new _ _,OwnR.nil _ _,Nat.le_refl _,by simp[Value.ownBlock],fun b=>by simp[Value.ownBlock]⟩,rl_nil,inv_nil,Nat.zero_le _⟩,below_new (Below.refl _ _) (Nat.le_refl _) _⟩
 go_enter Tryz.func47,Tryz.ntmps47
 go_wp2_with fail
 go_ret
 exact⟨rfl,HC.out⟩
end Go.Proofs.YtahhionlbfhinabGreatDoor.Ce
namespace Go.Proofs.YtahhionlbfhinabGreatDoor.Hp
open Go.RowKit
theorem or_tag (t n:Int)(t0:0≤t)(t1:t<65536)(n0:0≤n)(n1:n<4294967296):bits .or .u64 (t*281474976710656) n=t*281474976710656+n:=by
 rw[u64_or _ _ (by omega) (by omega) (by omega) (by omega)]
 have e:=nat_join 48 (t.toNat*281474976710656) n.toNat (by omega) (by show n.toNat<281474976710656;omega)
 rw[show(t*281474976710656).toNat=t.toNat*281474976710656 from by omega,e]
 omega
theorem tagged_any (t n:Int)(w:World)(t0:0≤t)(t1:t<65536)(n0:0≤n)(n1:n<4294967296) :
  Calls Tryz.prog 57 #[.int .u64 t,.int .u32 n] w fun e w'=>e = .returned (.int .u64 (t*281474976710656+n))∧w'=w:=by
 have ho:=or_tag t n t0 t1 n0 n1
 have hw:IntKind.u64.wrap (t*281474976710656)=t*281474976710656:=by rw[IntKind.wrap_u64];omega
 go_enter Tryz.func57,Tryz.ntmps57
 go_wp2
 go_ret
 exact⟨rfl,rfl⟩
def intW (n:Int):Int:=18444773748872577024+n % 4294967296
def objW (n:Int):Int:=18445055223849287680+n
def undW:Int:=18445336698825998336
def nulW:Int:=18445336698825998337
def holW:Int:=18445336698825998340
theorem refInt_any (n:Int)(w:World):Calls Tryz.prog 19 #[.int .i32 n] w fun e w'=>e = .returned (.int .u64 (intW n))∧w'=w:=by
 have hw:IntKind.u32.wrap n=n % 4294967296:=IntKind.wrap_u32 n
 unfold intW
 have m0:0≤n % 4294967296:=by omega
 have m1:n % 4294967296<4294967296:=by omega
 generalize n % 4294967296=m at *
 go_enter Tryz.func19,Tryz.ntmps19
 go_wp2
 go_ret
 exact⟨rfl,rfl⟩
theorem object_any (n:Int)(w:World)(n0:0≤n)(n1:n<4294967296):Calls Tryz.prog 53 #[.int .u32 n] w fun e w'=>e = .returned (.int .u64 (objW n))∧w'=w:=by
 have c:=fun w=>tagged_any 65530 n w (by omega) (by omega) n0 n1
 unfold objW
 rw[show(65530*281474976710656:Int)=18445055223849287680 from rfl] at c
 go_enter Tryz.func53,Tryz.ntmps53
 go_wp2_with (go_at_call 57;refine(c _).mono ?_;rintro e w1 ⟨rfl,rfl⟩)
 go_ret
 exact⟨rfl,rfl⟩
def isT (a t:Int):Bool:=a / 4294967296 == t*65536
theorem payU_any (a t:Int)(w:World)(h0:0≤a)(h1:a<18446744073709551616)(t0:0≤t)(t1:t<65536) :
  Calls Tryz.prog 106 #[.int .u64 a,.int .u64 t] w fun e w'=>e = .returned (.tuple #[.int .u32 (if isT a t then a % 4294967296 else 0),.bool (isT a t)])∧w'=w:=by
 have hw:IntKind.u64.wrap (t*65536)=t*65536:=by rw[IntKind.wrap_u64];omega
 have hu:IntKind.u32.wrap a=a % 4294967296:=IntKind.wrap_u32 a
 cases hc:isT a t with
 | true =>
   have hn:(a / 4294967296 != t*65536)=false:=by unfold isT at hc;rw[bne,hc];rfl
   rw[if_pos rfl]
   clear hc
   go_enter Tryz.func106,Tryz.ntmps106
   go_wp2
   go_ret2
   exact⟨rfl,rfl⟩
 | false =>
   have hn:(a / 4294967296 != t*65536)=true:=by unfold isT at hc;rw[bne,hc];rfl
   rw[if_neg (by decide)]
   clear hc
   go_enter Tryz.func106,Tryz.ntmps106
   go_wp2
   go_ret2
   exact⟨rfl,rfl⟩
def payN (a t:Int):Int:=if isT a t then a % 4294967296 else 0
theorem isObject_any (a:Int)(w:World)(h0:0≤a)(h1:a<18446744073709551616) :
  Calls Tryz.prog 85 #[.int .u64 a] w fun e w'=>e = .returned (.tuple #[.int .u32 (payN a 65530),.bool (isT a 65530)])∧w'=w:=by
 have c:=fun w=>payU_any a 65530 w h0 h1 (by omega) (by omega)
 unfold payN
 generalize (if isT a 65530 then a % 4294967296 else 0)=x at *
 generalize isT a 65530=y at *
 go_enter Tryz.func85,Tryz.ntmps85
 go_wp2_with (go_at_call 106;refine(c _).mono ?_;rintro e w1 ⟨rfl,rfl⟩)
 go_ret2
 exact⟨rfl,rfl⟩
theorem payN_bd (a t:Int):0≤payN a t∧payN a t<4294967296:=by unfold payN;split <;> omega
theorem isT_iff (a t:Int):isT a t=true↔a / 4294967296=t*65536:=by unfold isT;exact beq_iff_eq
theorem isT_obj (n:Int)(h0:0≤n)(h1:n<4294967296):isT (objW n) 65530=true∧payN (objW n) 65530=n:=by
 have h:isT (objW n) 65530=true:=by rw[isT_iff];unfold objW;omega
 refine⟨h,?_⟩
 unfold payN
 rw[h,if_pos rfl]
 unfold objW
 omega
theorem obj_of (a:Int)(h:isT a 65530=true):a=objW (payN a 65530):=by
 unfold payN objW
 rw[if_pos h]
 rw[isT_iff] at h
 omega
theorem isT_nul:isT nulW 65530=false:=by decide
structure De where
 va:Int
 se:Int
 fl:Int
structure Pr where
 key:ByteArray
 came:Int
 de:De
structure Ob where
 kind:Int
 proto:Int
 shut:Bool
 above:Bool
 ps:List Pr
 next:Int
 el:List Int
 inn:List Int
 shape:Int
 shaped:Bool
 cell:Int
 hm:Bool
 mp:List (ByteArray×Int)
structure He where
 tx:List ByteArray
 obs:List Ob
 most:Int
 L:List Sp.Sh
 C:List Ce.Cel
 br:Int
structure SV where
 ad:Option Addr
 len:Nat
 cap:Nat
def SV.val (s:SV):Value := .slice s.ad s.len s.cap
def SV.nil:SV:=⟨none,0,0⟩
structure OV where
 vl:SV
 vm:Option Nat
 ve:SV
 vi:SV
def OV.none:OV:=⟨.nil,Option.none,.nil,.nil⟩
structure HV where
 vt:SV
 mb:Nat
 vo:SV
 tb:Nat
 cb:Nat
 ovs:List OV
def strC (k:ByteArray):List Value:=[.string k]
def wC (z:Int):List Value:=[.int .u64 z]
def prC (p:Pr):List Value:=[.string p.key,.int .i64 p.came,.int .u64 p.de.va,.int .u64 p.de.se,.int .i64 p.de.fl]
def obC (x:Ob×OV):List Value:=[.int .i64 x.1.kind,.int .u64 x.1.proto,.bool x.1.shut,.bool x.1.above,x.2.vl.val,.map x.2.vm,.int .i64 x.1.next,x.2.ve.val,x.2.vi.val,.int .i64 x.1.shape,.bool x.1.shaped,.int .i64 x.1.cell]
theorem rtStr:RT strC 31 9 1 16:=⟨fun _=>rfl,Tryz.underlying31,rt_inf (z := .string ⟨#[]⟩) (by kernel_rfl) rfl,by decide,fun y u h=>by simp[strC] at h;subst h;rfl⟩
theorem rtW:RT wC 69 24 1 8:=⟨fun _=>rfl,Tryz.underlying69,rt_inf (z := .int .u64 0) (by kernel_rfl) rfl,by decide,fun y u h=>by simp[wC] at h;subst h;rfl⟩
theorem rtPr:RT prC 91 116 5 48:=⟨fun _=>rfl,Tryz.underlying91,rt_inf (z := .agg #[.string ⟨#[]⟩,.int .i64 0,.int .u64 0,.int .u64 0,.int .i64 0]) (by kernel_rfl) rfl,by decide,fun y u h=>by simp[prC] at h;rcases h with rfl | rfl | rfl | rfl | rfl <;> rfl⟩
theorem rtOb:RT obC 102 96 12 136:=⟨fun _=>rfl,Tryz.underlying102,rt_inf (z := .agg #[.int .i64 0,.int .u64 0,.bool false,.bool false,.slice none 0 0,.map none,.int .i64 0,.slice none 0 0,.slice none 0 0,.int .i64 0,.bool false,.int .i64 0]) (by kernel_rfl) rfl,by decide,fun y u h=>by
 simp[obC,SV.val] at h
 rcases h with rfl | rfl | rfl | rfl | rfl | rfl | rfl | rfl | rfl | rfl | rfl | rfl <;> rfl⟩
def RowIn {β:Type}(enc:β→List Value)(k:Nat)(e:TypeId)(B:Nat)(w:World)(O:Nat→Prop)(s:SV)(xs:List β):Prop:=OwnR enc k e B w s.val xs∧∀b,s.val.ownBlock=some b→O b
def MpIs (w:World)(mb:Nat)(k:IntKind)(b:List (ByteArray×Int)):Prop:=∃es clock,w.heap[mb]?=some (.map es clock)∧es.toList.map (fun e=>(e.key,e.val))=b.map (fun x=>((.string x.1:Value),(.int k x.2:Value)))
def numd (tx:List ByteArray):List (ByteArray×Int):=tx.zipIdx.map (fun x=>(x.1,(x.2:Int)))
def camd (ps:List Pr):List (ByteArray×Int):=ps.map (fun p=>(p.key,p.came))
def ObP (w:World)(B:Nat)(O:Nat→Prop)(ob:Ob)(ov:OV):Nat→Prop
 | 0=>RowIn prC 5 116 B w O ov.vl ob.ps
 | 1=>ov.vm.isSome=ob.hm∧∀mb,ov.vm=some mb→O mb∧MpIs w mb .i64 ob.mp
 | 2=>RowIn wC 1 24 B w O ov.ve ob.el
 | _=>RowIn wC 1 24 B w O ov.vi ob.inn
def hpC (H:He)(M:HV):Array Value:=#[M.vt.val,.map (some M.mb),M.vo.val,.pointer (some ⟨M.tb,0,none⟩),.pointer (some ⟨M.cb,0,none⟩),.int .i64 H.br]
def Prt (w:World)(B hb:Nat)(H:He)(M:HV)(O:Nat→Prop):Nat→Prop
 | 0=>True
 | 1=>O hb∧w.heap[hb]?=some (.cells (hpC H M) 104 (0,0))
 | 2=>RowIn strC 1 9 B w O M.vt H.tx
 | 3=>O M.mb∧MpIs w M.mb .u32 (numd H.tx)
 | 4=>RowIn obC 12 96 B w O M.vo (H.obs.zip M.ovs)
 | 5=>∃Ot,Sp.Tree w B M.tb Ot H.most H.L∧∀b,Ot b→O b
 | 6=>∃Oc,Ce.Cs w B M.cb Oc H.C∧∀b,Oc b→O b
 | j+7=>∀ob ov,H.obs[j / 4]?=some ob→M.ovs[j / 4]?=some ov→ObP w B O ob ov (j % 4)
structure Ob.wf (o:Ob):Prop where
 kd:0≤o.kind∧o.kind≤6
 pr:0≤o.proto∧o.proto<18446744073709551616
 ks:∀p∈o.ps,p.key.size≤maxLen
 fl:∀p∈o.ps,0≤p.de.fl∧p.de.fl≤15
 nx:0≤o.next∧o.next≤2000000000001∧o.ps.length≤2000000000001
 el:o.el.length≤4096
 inn:o.inn.length≤17592186044416
structure Ob.neat (o:Ob):Prop where
 kn:(o.ps.map Pr.key).Nodup
 cm:o.ps.Pairwise (fun a b=>a.came<b.came)
 c0:∀p∈o.ps,0≤p.came∧p.came<o.next
 pl:(o.ps.length:Int)≤o.next
 mp:o.hm=true→o.mp=camd o.ps
structure He.wf (H:He):Prop where
 ob:∀o∈H.obs,o.wf
 ol:H.obs.length≤65536
 tn:H.tx.Nodup
 ts:∀t∈H.tx,t.size≤4096
 tl:H.tx.length≤16384
 mo:H.most≤256
 br:0≤H.br∧H.br+(H.C.countP Ce.Cel.ok:Int)≤(H.C.length:Int)
structure HeapAt (w:World)(B hb:Nat)(tg:Nat→Nat)(H:He)(M:HV):Prop where
 prt:∀j,Prt w B hb H M (fun b=>tg b=j) j
 lt:∀b,tg b≠0→B≤b∧b<w.heap.size
 len:M.ovs.length=H.obs.length
 wf:H.wf
def Heap (w:World)(B hb:Nat)(O:Nat→Prop)(H:He):Prop:=∃tg M,HeapAt w B hb tg H M∧∀b,O b↔tg b≠0
section
variable {w w':World}{B hb:Nat}{O O' S:Nat→Prop}{H H':He}{M M':HV}{tg:Nat→Nat}
theorem RowIn.kept {β:Type}{enc:β→List Value}{k:Nat}{e:TypeId}{s:SV}{xs:List β}(h:RowIn enc k e B w O s xs)(hc:Chg S w w')(hs:∀b,O b→¬S b):RowIn enc k e B w' O s xs :=
 ⟨h.1.kept hc (fun b q=>hs b (h.2 b q)),h.2⟩
theorem RowIn.mono {β:Type}{enc:β→List Value}{k:Nat}{e:TypeId}{s:SV}{xs:List β}(h:RowIn enc k e B w O s xs)(hs:∀b,b<w.heap.size→O b→O' b):RowIn enc k e B w O' s xs :=
 ⟨h.1,fun b q=>hs b (h.1.lt b q).2 (h.2 b q)⟩
theorem MpIs.kept {mb:Nat}{k:IntKind}{b:List (ByteArray×Int)}(h:MpIs w mb k b)(hc:Chg S w w')(hs:¬S mb):MpIs w' mb k b:=by
 obtain⟨es,cl,h1,h2⟩:=h
 exact⟨es,cl,by rw[hc.block mb (Array.getElem?_eq_some_iff.1 h1).1 hs];exact h1,h2⟩
theorem MpIs.lt {mb:Nat}{k:IntKind}{b:List (ByteArray×Int)}(h:MpIs w mb k b):mb<w.heap.size:=by
 obtain⟨es,cl,h1,h2⟩:=h
 exact(Array.getElem?_eq_some_iff.1 h1).1
theorem ObP.kept {ob:Ob}{ov:OV}:∀(j:Nat),ObP w B O ob ov j→Chg S w w'→(∀b,O b→¬S b)→ObP w' B O ob ov j
 | 0,h,hc,hs=>RowIn.kept h hc hs
 | 1,h,hc,hs=>⟨h.1,fun mb e=>⟨(h.2 mb e).1,(h.2 mb e).2.kept hc (hs mb (h.2 mb e).1)⟩⟩
 | 2,h,hc,hs=>RowIn.kept h hc hs
 | _+3,h,hc,hs=>RowIn.kept (xs:=ob.inn) h hc hs
theorem ObP.mono {ob:Ob}{ov:OV}:∀(j:Nat),ObP w B O ob ov j→(∀b,b<w.heap.size→O b→O' b)→ObP w B O' ob ov j
 | 0,h,hs=>RowIn.mono h hs
 | 1,h,hs=>⟨h.1,fun mb e=>⟨hs mb (h.2 mb e).2.lt (h.2 mb e).1,(h.2 mb e).2⟩⟩
 | 2,h,hs=>RowIn.mono h hs
 | _+3,h,hs=>RowIn.mono (xs:=ob.inn) h hs
theorem Prt.kept:∀(j:Nat),Prt w B hb H M O j→Chg S w w'→(∀b,O b→¬S b)→Prt w' B hb H M O j
 | 0,h,hc,hs=>trivial
 | 1,h,hc,hs=>⟨h.1,by rw[hc.block hb (Array.getElem?_eq_some_iff.1 h.2).1 (hs hb h.1)];exact h.2⟩
 | 2,h,hc,hs=>RowIn.kept h hc hs
 | 3,h,hc,hs=>⟨h.1,h.2.kept hc (hs _ h.1)⟩
 | 4,h,hc,hs=>RowIn.kept h hc hs
 | 5,h,hc,hs=>by
   obtain⟨Ot,h1,h2⟩:=h
   exact⟨Ot,h1.kept hc (fun b q=>hs b (h2 b q)),h2⟩
 | 6,h,hc,hs=>by
   obtain⟨Ot,h1,h2⟩:=h
   exact⟨Ot,h1.kept hc (fun b q=>hs b (h2 b q)),h2⟩
 | j+7,h,hc,hs=>fun ob ov e1 e2=>ObP.kept _ (h ob ov e1 e2) hc hs
theorem Prt.mono:∀(j:Nat),Prt w B hb H M O j→(∀b,b<w.heap.size→O b→O' b)→Prt w B hb H M O' j
 | 0,h,hs=>trivial
 | 1,h,hs=>⟨hs hb (Array.getElem?_eq_some_iff.1 h.2).1 h.1,h.2⟩
 | 2,h,hs=>RowIn.mono h hs
 | 3,h,hs=>⟨hs _ h.2.lt h.1,h.2⟩
 | 4,h,hs=>RowIn.mono h hs
 | 5,h,hs=>by
   obtain⟨Ot,h1,h2⟩:=h
   exact⟨Ot,h1,fun b q=>hs b (h1.lt b q).2 (h2 b q)⟩
 | 6,h,hs=>by
   obtain⟨Ot,h1,h2⟩:=h
   exact⟨Ot,h1,fun b q=>hs b (h1.lt b q).2 (h2 b q)⟩
 | j+7,h,hs=>fun ob ov e1 e2=>ObP.mono _ (h ob ov e1 e2) hs
def rtg (tg:Nat→Nat)(lo hi k:Nat)(b:Nat):Nat:=if b<lo then tg b else if b<hi then k else 0
theorem rtg_old {tg:Nat→Nat}{lo hi k b:Nat}(h:b<lo):rtg tg lo hi k b=tg b:=by unfold rtg;rw[if_pos h]
theorem rtg_new {tg:Nat→Nat}{lo hi k b:Nat}(h:lo≤b)(h2:b<hi):rtg tg lo hi k b=k:=by unfold rtg;rw[if_neg (by omega),if_pos h2]
theorem HeapAt.B0 (h:HeapAt w B hb tg H M):tg hb=1∧hb<w.heap.size∧B≤hb:=by
 have h1:=(h.prt 1).1
 have h2:=h.lt hb (by omega)
 exact⟨h1,h2.2,h2.1⟩
theorem HeapAt.up (h:HeapAt w B hb tg H M)(hc:Chg S w w')(K:Nat→Prop)(k0:Nat)(hS:∀b,b<w.heap.size→S b→K (tg b)∧tg b≠0)
  (hnew:∀j,K j→Prt w' B hb H' M' (fun b=>rtg tg w.heap.size w'.heap.size k0 b=j) j)
  (hold:∀j O,¬K j→Prt w' B hb H M O j→Prt w' B hb H' M' O j) (hl:M'.ovs.length=H'.obs.length) (hw:H'.wf) :
  HeapAt w' B hb (rtg tg w.heap.size w'.heap.size k0) H' M':=by
 have hB:B≤w.heap.size:=by have:=h.B0;omega
 refine⟨fun j => ?_,fun b q => ?_,hl,hw⟩
 ·by_cases c:K j
  ·exact hnew j c
  ·cases j with
   | zero=>trivial
   | succ j =>
     refine hold _ _ c (Prt.mono _ (Prt.kept (O:=fun b=>tg b=j+1∧b<w.heap.size) _ (Prt.mono _ (h.prt (j+1)) (fun b hb q=>⟨q,hb⟩)) hc (fun b q s=>c (q.1 ▸ (hS b q.2 s).1))) (fun b _ q => ?_))
     rw[rtg_old q.2]
     exact q.1
 ·by_cases c:b<w.heap.size
  ·rw[rtg_old c] at q
   have:=h.lt b q
   have:=hc.size
   omega
  ·unfold rtg at q
   rw[if_neg c] at q
   by_cases c2:b<w'.heap.size
   ·omega
   ·rw[if_neg c2] at q
    exact absurd rfl q
theorem HeapAt.kept (h:HeapAt w B hb tg H M)(hc:Chg S w w')(hs:∀b,tg b≠0→¬S b):HeapAt w' B hb tg H M:=by
 refine⟨fun j => ?_,fun b q => ?_,h.len,h.wf⟩
 ·cases j with
  | zero=>trivial
  | succ j=>exact Prt.kept _ (h.prt _) hc (fun b q=>hs b (by omega))
 ·have:=h.lt b q
  have:=hc.size
  omega
theorem HeapAt.below (h:HeapAt w B hb tg H M)(hb':Below w.heap.size w w'):HeapAt w' B hb tg H M:=h.kept (S:=fun _=>False) (Chg.of_below hb') (fun _ _ q=>q)
end
end Go.Proofs.YtahhionlbfhinabGreatDoor.Hp
