/- MK, MV -/
import Derived.Test.YtihmdcdifakepaaGreatB23
import Derived.Test.YtihmdcdifakepaaGreatB21
import Derived.Test.YtihmdcdifakepaaGreatB20
set_option linter.unusedVariables false
set_option linter.unusedSimpArgs false
set_option maxRecDepth 100000
set_option maxHeartbeats 40000000
namespace Go.Proofs.YtihmdcdifakepaaGreat.Rv
open Go.RowKit Go.Proofs.YtihmdcdifakepaaGreat.Sc Go.Proofs.YtihmdcdifakepaaGreat.Rz
theorem wf_put {b0:Blk}(h:Blk.wf b0){nm:ByteArray}(hn:nm.size≤maxLen)(hno:∀x∈b0,x.1≠nm)(v:Nat):Blk.wf ((nm,v) :: b0):=by
 refine⟨?_,fun e he => ?_⟩
 ·rw[List.map_cons,List.nodup_cons]
  exact⟨fun q=>by obtain⟨x,h1,h2⟩:=List.mem_map.1 q;exact hno x h1 h2,h.nd⟩
 ·rcases List.mem_cons.1 he with q | q
  ·rw[q];exact hn
  ·exact h.sz e q
theorem gd_put {s:Rz.RS}(h:Gd s){b0:Blk}{bs:List Blk}(hbs:s.blocks=b0 :: bs){nm:ByteArray}(hn:nm.size≤maxLen)(hno:∀x∈b0,x.1≠nm)(x:Rz.Vr):Gd { s with blocks:=((nm,s.vars.length) :: b0) :: bs,vars:=s.vars++[x] }:=by
 refine⟨h.fnl,fun b hb e he => ?_,fun b hb => ?_⟩
 ·simp only[List.length_append,List.length_singleton]
  rcases List.mem_cons.1 hb with q | q
  ·rw[q] at he
   rcases List.mem_cons.1 he with q2 | q2
   ·rw[q2];simp
   ·have:=h.blk b0 (by rw[hbs];exact List.mem_cons_self ..) e q2;omega
  ·have:=h.blk b (by rw[hbs];exact List.mem_cons_of_mem _ q) e he;omega
 ·rcases List.mem_cons.1 hb with q | q
  ·rw[q];exact wf_put (h.wf b0 (by rw[hbs];exact List.mem_cons_self ..)) hn hno _
  ·exact h.wf b (by rw[hbs];exact List.mem_cons_of_mem _ q)
theorem put_is {s:Rz.RS}{b0:Blk}{bs:List Blk}(hbs:s.blocks=b0 :: bs)(nm:ByteArray)(pl kd:Int)(slot:Nat):putVarP nm pl kd slot s={ s with blocks:=((nm,s.vars.length) :: b0) :: bs,vars:=s.vars++[⟨nm,pl,kd,s.fn,slot,false⟩] }:=by
 unfold putVarP
 rw[hbs]
theorem MemW.var {w w5:World}{B rb:Nat}{tg:Nat→Nat}{s:Rz.RS}{v0 v2 v3 v6:Value}{ms:List (Option Nat)}{ad:Option Addr}{cap:Nat}(h:MemW w B rb tg s v0 (.slice ad s.vars.length cap) v2 v3 v6 ms){g5 cap5:Nat}{x:Rz.Vr}
  (ho:OwnR vrC 6 61 B w5 (.slice (some ⟨g5,0,none⟩) (s.vars.length+1) cap5) (s.vars++[x])) (hc:Chg (fun b=>(Value.slice ad s.vars.length cap).ownBlock=some b) w w5) (hg:(Value.slice ad s.vars.length cap).ownBlock=some g5∨w.heap.size≤g5) :
  MemW (w5.setCell ⟨rb,1,none⟩ (.slice (some ⟨g5,0,none⟩) (s.vars.length+1) cap5)) B rb (retag tg (.slice (some ⟨g5,0,none⟩) (s.vars.length+1) cap5) 2) { s with vars:=s.vars++[x] } v0 (.slice (some ⟨g5,0,none⟩) (s.vars.length+1) cap5) v2 v3 v6 ms∧Chg (Ow rb v0 (.slice ad s.vars.length cap) v2 v3 v6 ms) w (w5.setCell ⟨rb,1,none⟩ (.slice (some ⟨g5,0,none⟩) (s.vars.length+1) cap5))∧∀b,Ow rb v0 (.slice (some ⟨g5,0,none⟩) (s.vars.length+1) cap5) v2 v3 v6 ms b→Ow rb v0 (.slice ad s.vars.length cap) v2 v3 v6 ms b∨w.heap.size≤b :=
 h.row1 hc ho (fun b q=>by
  simp[Value.ownBlock] at q
  subst q
  exact hg)
theorem variable_any (w:World)(B rb:Nat)(O:Nat→Prop)(s:Rz.RS)(v6:Value)(h:Mem w B rb O s v6)(hb:bg s≤1000000000)(b0:Blk)(bs:List Blk)(hbs:s.blocks=b0 :: bs)(kind pl num:Int)(nm op:ByteArray)(kv:Value)(hs:nm.size≤maxLen)(hno:∀x∈b0,x.1≠nm)(kd:Int)(slot:Nat) :
  Calls Tryz.prog 71 #[.pointer (some ⟨rb,0,none⟩),.agg #[.int .i64 kind,.int .i64 pl,.string nm,.int .u64 num,.string op,kv],.int .i64 kd,.int .i64 (slot:Int)] w fun e w'=>e = .returned (.tuple #[])∧Went w B rb O (putVarP nm pl kd slot s) v6 w':=by
 obtain⟨wb,hwb⟩:∃wb,wb=w.alloc (.cells #[.int .i64 kind,.int .i64 pl,.string nm,.int .u64 num,.string op,kv] 25):=⟨_,rfl⟩
 have hbl:Below w.heap.size w wb:=by rw[hwb];exact below_new (Below.refl _ _) (Nat.le_refl _) _
 have b1:wb.cell? ⟨w.heap.size,1,none⟩=some (.int .i64 pl):=by rw[hwb];exact box_new w _ _ 1 _ rfl
 have b2:wb.cell? ⟨w.heap.size,2,none⟩=some (.string nm):=by rw[hwb];exact box_new w _ _ 2 _ rfl
 have HB:Hid (Below w.heap.size w wb):=hbl
 have HOL:Hid (∀b,O b→b<w.heap.size):=fun b q=>(h.lt b q).2
 have hbox:w.heap.size<wb.heap.size:=by rw[hwb,size_new];omega
 have HBX0:Hid (w.heap.size<wb.heap.size):=hbox
 obtain⟨tg,v0,v1,v2,v3,ms,hm,hO⟩:=h.below hbl
 have HV:Hid (s.vars.length≤1000000000):=by show _≤_;unfold bg at hb;omega
 have HPI:=(show Hid _ from put_is hbs nm pl kd slot)
 have HGD:=(show Hid _ from gd_put (h.gd) hbs hs hno ⟨nm,pl,kd,s.fn,slot,false⟩)
 have hml:=hm.ml
 rw[hbs,List.length_cons] at hml
 obtain⟨ms0,m,rfl⟩:∃ms0 m,ms=ms0++[m]:=by
  rcases List.eq_nil_or_concat ms with e | ⟨a,b,e⟩
  ·rw[e] at hml;simp at hml
  ·exact⟨a,b,by rw[e,List.concat_eq_append]⟩
 have hlast:(ms0++[m])[ms0.length]?=some m:=by simp
 have hln:(ms0++[m]).length=ms0.length+1:=by simp
 obtain⟨ad3,cap3,rfl,l1,l2,hg3⟩:=own_slice hm.r3
 obtain⟨g,rfl⟩:=hg3 (by simp)
 obtain⟨ad,cap,rfl,l3,l4,_⟩:=own_slice hm.r1
 obtain⟨_,_,_,_,_,r6,r7⟩:=hm.r3.read rtMp.len
 have d3:=r6 ms0.length m hlast 0 _ rfl
 rw[Nat.mul_one,Nat.add_zero] at d3
 have fz3:=r7 ms0.length
 rw[hln] at hm l1 hO
 have c3:=hm.c.2.2.2.1
 have c1:=hm.c.2.1
 have c4:=hm.c.2.2.2.2.1
 have hmp:=hm.mp ms0.length m b0 hlast (by rw[hbs,List.reverse_cons,List.getElem?_append_right (by rw[List.length_reverse];omega)];simp only[List.length_reverse];rw[show ms0.length - bs.length=0 by omega];rfl)
 have hwf0:=hm.gd.wf b0 (by rw[hbs];exact List.mem_cons_self ..)
 have HMP:Hid (MpAt wb m b0∧Blk.wf b0∧nm.size≤maxLen∧(∀x∈b0,x.1≠nm)∧s.blocks=b0 :: bs):=⟨hmp,hwf0,hs,hno,hbs⟩
 have hli:(ms0.length:Int)+1≤9223372036854775807:=by unfold maxLen at l2;omega
 have hlv:(s.vars.length:Int)≤9223372036854775806:=by have:=HV.out;omega
 have HM:Hid (MemAt wb B rb tg s v0 (.slice ad s.vars.length cap) v2 (.slice (some ⟨g,0,none⟩) (ms0.length+1) cap3) v6 (ms0++[m])):=hm
 have HO:=(show Hid _ from hO)
 have hne0:¬rb=w.heap.size:=by have:=HOL.out rb ((hO rb).2 (Or.inl rfl));omega
 have hgl:g<w.heap.size:=HOL.out g ((hO g).2 (Or.inr (Or.inr (Or.inr (Or.inr (Or.inl rfl))))))
 have hne1:¬g=w.heap.size:=by omega
 have hgr:¬g=rb:=fun e=>by have h1:=hm.t4 g rfl;have h2:=hm.t0;rw[e] at h1;omega
 clear h hb hbl hbs hs hno hm hO hmp hwf0 r6 r7 l1 l2 l3 l4 hg3 hml hlast
 cases m with
 | none =>
   have qn:∀W,(binOp BinOp.eql 124 (.map none) (.map none)).run Tryz.prog W = .ok (.bool true) W:=fun W=>run_eql_map_nil W 124 9 3 none Tryz.underlying124
   have qm:∀W:World,(Instr.makeMap 124 none).run Tryz.prog W = .ok (.map (some W.heap.size)) (W.alloc (.map #[] 0)):=fun W=>rfl
   have hA2:Below wb.heap.size wb (wb.alloc (.map #[] 0)):=below_new (Below.refl _ _) (Nat.le_refl _) _
   have hp3:=(HM.out.below hA2).put3 (i:=ms0.length) (mb:=wb.heap.size) (by simp) (at_new _ _) rfl (Nat.le_trans HM.out.lo (Nat.le_of_lt HM.out.rlt)) (fun b q e=>by have:=(HM.out.lt b q).2;omega)
   rw[List.set_append_right _ _ (Nat.le_refl _),Nat.sub_self] at hp3
   have hp3':MemAt ((wb.alloc (.map #[] 0)).setCell ⟨g,ms0.length,none⟩ (.map (some wb.heap.size))) B rb (fun b=>if b=wb.heap.size then 6+ms0.length else tg b) s v0 (.slice ad s.vars.length cap) v2 (.slice (some ⟨g,0,none⟩) (ms0.length+1) cap3) v6 (ms0++[some wb.heap.size])∧Chg (Ow rb v0 (.slice ad s.vars.length cap) v2 (.slice (some ⟨g,0,none⟩) (ms0.length+1) cap3) v6 (ms0++[none])) (wb.alloc (.map #[] 0)) ((wb.alloc (.map #[] 0)).setCell ⟨g,ms0.length,none⟩ (.map (some wb.heap.size))):=hp3
   have HP3:=(show Hid _ from hp3')
   have hgw:¬g=wb.heap.size:=by omega
   have hrw:¬rb=wb.heap.size:=Nat.ne_of_lt HM.out.rlt
   have hbw:¬w.heap.size=wb.heap.size:=by omega
   have f3a:(wb.alloc (.map #[] 0)).frozen? ⟨g,ms0.length,none⟩=false:=by
    obtain⟨_,_,_,_,_,_,r7⟩:=(HM.out.below hA2).r3.read rtMp.len
    exact r7 _
   have d3a:=Sc.cells_below hA2 _ _ d3
   have HA2:Hid (Below wb.heap.size wb (wb.alloc (.map #[] 0))):=hA2
   clear hp3 hp3' hA2
   go_enter Tryz.func71,Tryz.ntmps71
   go_upto_region 1 with fail
   rw[←hwb]
   clear hwb
   go_upto_region 4 with fail
   have hcm:(wb.alloc (.map #[] 0)).setCell ⟨g,ms0.length,none⟩ (.map (some wb.heap.size))=(wb.setCell ⟨g,ms0.length,none⟩ (.map (some wb.heap.size))).alloc (.map #[] 0):=World.setCell_alloc_past _ _ _ _ (by omega)
   rw[←hcm]
   clear hcm
   generalize hw3:(wb.alloc (.map #[] 0)).setCell ⟨g,ms0.length,none⟩ (.map (some wb.heap.size))=w3 at *
   have HM3:Hid (MemAt w3 B rb (fun b=>if b=wb.heap.size then 6+ms0.length else tg b) s v0 (.slice ad s.vars.length cap) v2 (.slice (some ⟨g,0,none⟩) (ms0.length+1) cap3) v6 (ms0++[some wb.heap.size])∧MpAt w3 (some wb.heap.size) b0):=by
    refine⟨HP3.out.1,HP3.out.1.mp ms0.length _ b0 (by simp) ?_⟩
    have hml:=HP3.out.1.ml
    rw[HMP.out.2.2.2.2] at hml ⊢
    rw[List.length_append,List.length_singleton,List.length_cons] at hml
    rw[List.reverse_cons,List.getElem?_append_right (by rw[List.length_reverse];omega)]
    simp only[List.length_reverse]
    rw[show ms0.length - bs.length=0 by omega]
    rfl
   have HCH:Hid (Chg (Ow rb v0 (.slice ad s.vars.length cap) v2 (.slice (some ⟨g,0,none⟩) (ms0.length+1) cap3) v6 (ms0++[none])) wb w3):=(Chg.of_below HA2.out).trans HP3.out.2 (fun _ _ q=>q)
   have HWF:Hid (∀ {w':World} {tg':Nat→Nat} {u1:Value} (s':Rz.RS),MemAt w' B rb tg' s' v0 u1 v2 (.slice (some ⟨g,0,none⟩) (ms0.length+1) cap3) v6 (ms0++[some wb.heap.size])→Chg (Ow rb v0 (.slice ad s.vars.length cap) v2 (.slice (some ⟨g,0,none⟩) (ms0.length+1) cap3) v6 (ms0++[some wb.heap.size])) w3 w'→(∀b,Ow rb v0 u1 v2 (.slice (some ⟨g,0,none⟩) (ms0.length+1) cap3) v6 (ms0++[some wb.heap.size]) b→Ow rb v0 (.slice ad s.vars.length cap) v2 (.slice (some ⟨g,0,none⟩) (ms0.length+1) cap3) v6 (ms0++[some wb.heap.size]) b∨w3.heap.size≤b)→Went wb B rb O s' v6 w'):=by
    intro w' tg' u1 s' k1 k2 k3
    have key:∀b,Ow rb v0 (.slice ad s.vars.length cap) v2 (.slice (some ⟨g,0,none⟩) (ms0.length+1) cap3) v6 (ms0++[some wb.heap.size]) b→Ow rb v0 (.slice ad s.vars.length cap) v2 (.slice (some ⟨g,0,none⟩) (ms0.length+1) cap3) v6 (ms0++[none]) b∨wb.heap.size≤b:=by
     rintro b (q | q | q | q | q | q | ⟨i,q⟩)
     ·exact Or.inl (Or.inl q)
     ·exact Or.inl (Or.inr (Or.inl q))
     ·exact Or.inl (Or.inr (Or.inr (Or.inl q)))
     ·exact Or.inl (Or.inr (Or.inr (Or.inr (Or.inl q))))
     ·exact Or.inl (Or.inr (Or.inr (Or.inr (Or.inr (Or.inl q)))))
     ·exact Or.inl (Or.inr (Or.inr (Or.inr (Or.inr (Or.inr (Or.inl q))))))
     ·rcases Nat.lt_or_ge i ms0.length with c | c
      ·rw[List.getElem?_append_left c] at q
       exact Or.inl (Or.inr (Or.inr (Or.inr (Or.inr (Or.inr (Or.inr ⟨i,by rw[List.getElem?_append_left c];exact q⟩))))))
      ·rw[List.getElem?_append_right c,List.getElem?_singleton] at q
       split at q
       ·cases q;exact Or.inr (Nat.le_refl _)
       ·cases q
    refine went_of HO.out k1 (HCH.out.trans k2 (fun i hi q => ?_)) (fun b q => ?_)
    ·rcases key i q with c | c
     ·exact c
     ·omega
    ·rcases k3 b q with c | c
     ·exact key b c
     ·exact Or.inr (Nat.le_trans HCH.out.size c)
   have d3':w3.cell? ⟨g,ms0.length,none⟩=some (.map (some wb.heap.size)):=by rw[←hw3];exact World.cell?_setCell_same _ _ _ d3a
   have c3':=HP3.out.1.c.2.2.2.1
   have c1':=HP3.out.1.c.2.1
   have c4':=HP3.out.1.c.2.2.2.2.1
   have y1:w3.cell? ⟨w.heap.size,1,none⟩=some (.int .i64 pl):=by rw[←hw3,World.cell?_setCell_other _ _ _ _ (by intro e;have e2:=congrArg Addr.block e;simp only at e2;omega)];exact Sc.cells_below HA2.out _ _ b1
   have y2:w3.cell? ⟨w.heap.size,2,none⟩=some (.string nm):=by rw[←hw3,World.cell?_setCell_other _ _ _ _ (by intro e;have e2:=congrArg Addr.block e;simp only at e2;omega)];exact Sc.cells_below HA2.out _ _ b2
   have HNE:Hid (w.heap.size≠wb.heap.size∧rb≠wb.heap.size):=⟨by omega,by omega⟩
   clear hw3 d3 d3a f3a fz3 c3 c1 c4 b1 b2 qn qm hgw hrw hbw hne0 hne1 hgr hgl hbox
   generalize wb.heap.size=mb at *
   have hput:=(show MpAt w3.drew (some mb) b0 from (MpAt.kept HM3.out.2 (fun _ _=>rfl))).put HMP.out.2.1 HMP.out.2.2.1 HMP.out.2.2.2.1 s.vars.length
   obtain⟨w4,p1,p2,p3,p4⟩:=hput
   have hname:=HM3.out.1.weak.name (w':=w4) (i:=ms0.length) (mb:=mb) (b1:=(nm,s.vars.length) :: b0) (by simp) (by simp) HMP.out.2.2.2.2 ⟨p3.1,p3.2,p3.3,p3.4,p3.5⟩ p2
   have HN:=(show Hid _ from hname)
   have hk4:∀a u,w3.cell? a=some u→a.block≠mb→w4.cell? a=some u:=fun a u hu ha=>by
    rw[World.cell?_of_block (w:=w3) (p3.5 a.block (World.block_lt_of_cell? w3 _ hu) (fun e=>ha (by cases e;rfl)))]
    exact hu
   have x1:=hk4 _ _ y1 (by have:=HNE.out.1;simp only;omega)
   have x2:=hk4 _ _ y2 (by have:=HNE.out.1;simp only;omega)
   have x3:=hk4 _ _ c1' (by have:=HNE.out.2;simp only;omega)
   have x4:=hk4 _ _ c4' (by have:=HNE.out.2;simp only;omega)
   clear p2 p3 p4 hname hk4
   go_region
   go_upto_region 5 with fail
   clear p1 y1 y2 c1' c3' c4' d3'
   have HMW:=HN.out.1
   have hne4:¬rb=w4.heap.size:=Nat.ne_of_lt HMW.rlt
   have HAL:Hid (Below w4.heap.size w4 (w4.drew.alloc (.cells #[.string nm,.int .i64 pl,.int .i64 kd,.int .i64 (s.fn:Int),.int .i64 (slot:Int),.bool false] 61))):=((Below.refl w4.heap.size w4).drew).alloc (Nat.le_refl _) _
   have HOW:Hid (OwnR vrC 6 61 B (w4.drew.alloc (.cells #[.string nm,.int .i64 pl,.int .i64 kd,.int .i64 (s.fn:Int),.int .i64 (slot:Int),.bool false] 61)) (.slice ad s.vars.length cap) s.vars):=HMW.r1.below HAL.out
   have HBB:Hid (B≤w4.heap.size):=Nat.le_trans HMW.lo (Nat.le_of_lt HMW.rlt)
   have g1:(w4.alloc (.cells #[.string nm,.int .i64 pl,.int .i64 kd,.int .i64 (s.fn:Int),.int .i64 (slot:Int),.bool false] 61)).cell? ⟨rb,1,none⟩=some (.slice ad s.vars.length cap):=Sc.cells_below ((Below.refl w4.heap.size w4).alloc (Nat.le_refl _) _) _ _ x3
   have HBX:Hid (((s.vars.length+1)+(s.vars.length+1) / 4+192)*56≤281474976710656∧s.vars.length+1≤maxLen):=by have:=HV.out;exact⟨by omega,by unfold maxLen;omega⟩
   have HFZ:Hid (∀w5,Chg (fun b=>(Value.slice ad s.vars.length cap).ownBlock=some b) w4 w5→w5.cell? ⟨rb,1,none⟩=some (.slice ad s.vars.length cap)∧w5.frozen? ⟨rb,1,none⟩=false):=fun w5 h5=>by
    have hrs:¬(Value.slice ad s.vars.length cap).ownBlock=some rb:=fun q=>by have:=HN.out.1.t2 rb q;have:=HN.out.1.t0;omega
    exact⟨h5.cell x3 hrs,by rw[World.frozen?_of_block (w:=w4) (h5.block rb HN.out.1.rlt hrs)];exact frozen_of_row w4 rb 1 _ 45 HN.out.1.box⟩
   clear HMW
   go_region_law ((refine step_row rtVr (by rfl) _ _ (by rfl) B (.slice ad s.vars.length cap) s.vars (by rfl) (by exact HOW.out) w4.heap.size ⟨nm,pl,kd,s.fn,slot,false⟩ #[.string nm,.int .i64 pl,.int .i64 kd,.int .i64 (s.fn:Int),.int .i64 (slot:Int),.bool false] 61 (by rfl) (by exact at_new _ _) (by rfl) (by exact HBX.out.2) (by exact HBX.out.1) (by exact Nat.le_trans HBB.out HAL.out.size) ?_;intro g5 cap5 w5 ho5 hg5 hl5;have HO5:Hid (OwnR vrC 6 61 B w5 (.slice (some ⟨g5,0,none⟩) (s.vars.length+1) cap5) (s.vars++[⟨nm,pl,kd,s.fn,slot,false⟩])∧Chg (fun b=>(Value.slice ad s.vars.length cap).ownBlock=some b) w4 w5∧((Value.slice ad s.vars.length cap).ownBlock=some g5∨w4.heap.size≤g5)):=⟨ho5,(Chg.of_below HAL.out).trans (Chg.of_grown (S:=fun b=>(Value.slice ad s.vars.length cap).ownBlock=some b) hg5 (fun k q=>q)) (fun _ _ q=>q),hl5.imp id (fun q=>by rw[q];exact HAL.out.size)⟩;obtain⟨z1,z2⟩:=HFZ.out w5 HO5.out.2.1;clear ho5 hg5 hl5))
   all_goals
    have hV:=HN.out.1.var HO5.out.1 HO5.out.2.1 HO5.out.2.2
    have hW:Went w B rb O (putVarP nm pl kd slot s) v6 (w5.setCell ⟨rb,1,none⟩ (.slice (some ⟨g5,0,none⟩) (s.vars.length+1) cap5)):=by
     rw[HPI.out]
     refine Went.behind HB.out (HWF.out _ (hV.1.full HGD.out) ?_ ?_)
     ·exact HN.out.2.trans hV.2.1 (fun i _ q=>q)
     ·intro b q
      rcases hV.2.2 b q with c | c
      ·exact Or.inl c
      ·exact Or.inr (Nat.le_trans (by have:=HN.out.2.size;exact this) c)
    have HWW:Hid (Went w B rb O (putVarP nm pl kd slot s) v6 (w5.setCell ⟨rb,1,none⟩ (.slice (some ⟨g5,0,none⟩) (s.vars.length+1) cap5))):=hW
    clear hW hV HO5 HFZ HOW HBB HAL HBX g1 z1 z2 x1 x2 x3 x4
    go_wp2_with fail
    go_end0
    exact⟨rfl,by first | exact HWW.out | exact Went.drew HWW.out⟩
 | some mb =>
   have qs:∀W,(binOp BinOp.eql 124 (.map (some mb)) (.map none)).run Tryz.prog W = .ok (.bool false) W:=fun W=>run_eql_map_nil W 124 9 3 (some mb) Tryz.underlying124
   have hmbl:mb<w.heap.size:=HOL.out mb ((HO.out mb).2 (Or.inr (Or.inr (Or.inr (Or.inr (Or.inr (Or.inr ⟨ms0.length,by simp⟩)))))))
   have hmbr:rb≠mb:=fun e=>by have h1:=(HM.out.tm ms0.length mb (by simp)).1;have h2:=HM.out.t0;rw[e] at h2;omega
   go_enter Tryz.func71,Tryz.ntmps71
   go_upto_region 1 with fail
   rw[←hwb]
   clear hwb
   go_upto_region 4 with fail
   have HM3:Hid (MemAt wb B rb tg s v0 (.slice ad s.vars.length cap) v2 (.slice (some ⟨g,0,none⟩) (ms0.length+1) cap3) v6 (ms0++[some mb])∧MpAt wb (some mb) b0):=⟨HM.out,HMP.out.1⟩
   have HWF:Hid (∀ {w':World} {tg':Nat→Nat} {u1:Value} (s':Rz.RS),MemAt w' B rb tg' s' v0 u1 v2 (.slice (some ⟨g,0,none⟩) (ms0.length+1) cap3) v6 (ms0++[some mb])→Chg (Ow rb v0 (.slice ad s.vars.length cap) v2 (.slice (some ⟨g,0,none⟩) (ms0.length+1) cap3) v6 (ms0++[some mb])) wb w'→(∀b,Ow rb v0 u1 v2 (.slice (some ⟨g,0,none⟩) (ms0.length+1) cap3) v6 (ms0++[some mb]) b→Ow rb v0 (.slice ad s.vars.length cap) v2 (.slice (some ⟨g,0,none⟩) (ms0.length+1) cap3) v6 (ms0++[some mb]) b∨wb.heap.size≤b)→Went wb B rb O s' v6 w'):=fun s' k1 k2 k3=>went_of HO.out k1 k2 k3
   have d3':=d3
   have c3':=c3
   have c1':=c1
   have c4':=c4
   have y1:=b1
   have y2:=b2
   have HNE:Hid (w.heap.size≠mb∧rb≠mb):=⟨by omega,hmbr⟩
   clear d3 fz3 c3 c1 c4 b1 b2 qs hmbl hmbr hne0 hne1 hgr hgl hbox
   generalize hw3:wb=w3 at *
   clear hw3
   have hput:=(show MpAt w3.drew (some mb) b0 from (MpAt.kept HM3.out.2 (fun _ _=>rfl))).put HMP.out.2.1 HMP.out.2.2.1 HMP.out.2.2.2.1 s.vars.length
   obtain⟨w4,p1,p2,p3,p4⟩:=hput
   have hname:=HM3.out.1.weak.name (w':=w4) (i:=ms0.length) (mb:=mb) (b1:=(nm,s.vars.length) :: b0) (by simp) (by simp) HMP.out.2.2.2.2 ⟨p3.1,p3.2,p3.3,p3.4,p3.5⟩ p2
   have HN:=(show Hid _ from hname)
   have hk4:∀a u,w3.cell? a=some u→a.block≠mb→w4.cell? a=some u:=fun a u hu ha=>by
    rw[World.cell?_of_block (w:=w3) (p3.5 a.block (World.block_lt_of_cell? w3 _ hu) (fun e=>ha (by cases e;rfl)))]
    exact hu
   have x1:=hk4 _ _ y1 (by have:=HNE.out.1;simp only;omega)
   have x2:=hk4 _ _ y2 (by have:=HNE.out.1;simp only;omega)
   have x3:=hk4 _ _ c1' (by have:=HNE.out.2;simp only;omega)
   have x4:=hk4 _ _ c4' (by have:=HNE.out.2;simp only;omega)
   clear p2 p3 p4 hname hk4
   go_region
   go_upto_region 5 with fail
   clear p1 y1 y2 c1' c3' c4' d3'
   have HMW:=HN.out.1
   have hne4:¬rb=w4.heap.size:=Nat.ne_of_lt HMW.rlt
   have HAL:Hid (Below w4.heap.size w4 (w4.drew.alloc (.cells #[.string nm,.int .i64 pl,.int .i64 kd,.int .i64 (s.fn:Int),.int .i64 (slot:Int),.bool false] 61))):=((Below.refl w4.heap.size w4).drew).alloc (Nat.le_refl _) _
   have HOW:Hid (OwnR vrC 6 61 B (w4.drew.alloc (.cells #[.string nm,.int .i64 pl,.int .i64 kd,.int .i64 (s.fn:Int),.int .i64 (slot:Int),.bool false] 61)) (.slice ad s.vars.length cap) s.vars):=HMW.r1.below HAL.out
   have HBB:Hid (B≤w4.heap.size):=Nat.le_trans HMW.lo (Nat.le_of_lt HMW.rlt)
   have g1:(w4.alloc (.cells #[.string nm,.int .i64 pl,.int .i64 kd,.int .i64 (s.fn:Int),.int .i64 (slot:Int),.bool false] 61)).cell? ⟨rb,1,none⟩=some (.slice ad s.vars.length cap):=Sc.cells_below ((Below.refl w4.heap.size w4).alloc (Nat.le_refl _) _) _ _ x3
   have HBX:Hid (((s.vars.length+1)+(s.vars.length+1) / 4+192)*56≤281474976710656∧s.vars.length+1≤maxLen):=by have:=HV.out;exact⟨by omega,by unfold maxLen;omega⟩
   have HFZ:Hid (∀w5,Chg (fun b=>(Value.slice ad s.vars.length cap).ownBlock=some b) w4 w5→w5.cell? ⟨rb,1,none⟩=some (.slice ad s.vars.length cap)∧w5.frozen? ⟨rb,1,none⟩=false):=fun w5 h5=>by
    have hrs:¬(Value.slice ad s.vars.length cap).ownBlock=some rb:=fun q=>by have:=HN.out.1.t2 rb q;have:=HN.out.1.t0;omega
    exact⟨h5.cell x3 hrs,by rw[World.frozen?_of_block (w:=w4) (h5.block rb HN.out.1.rlt hrs)];exact frozen_of_row w4 rb 1 _ 45 HN.out.1.box⟩
   clear HMW
   go_region_law ((refine step_row rtVr (by rfl) _ _ (by rfl) B (.slice ad s.vars.length cap) s.vars (by rfl) (by exact HOW.out) w4.heap.size ⟨nm,pl,kd,s.fn,slot,false⟩ #[.string nm,.int .i64 pl,.int .i64 kd,.int .i64 (s.fn:Int),.int .i64 (slot:Int),.bool false] 61 (by rfl) (by exact at_new _ _) (by rfl) (by exact HBX.out.2) (by exact HBX.out.1) (by exact Nat.le_trans HBB.out HAL.out.size) ?_;intro g5 cap5 w5 ho5 hg5 hl5;have HO5:Hid (OwnR vrC 6 61 B w5 (.slice (some ⟨g5,0,none⟩) (s.vars.length+1) cap5) (s.vars++[⟨nm,pl,kd,s.fn,slot,false⟩])∧Chg (fun b=>(Value.slice ad s.vars.length cap).ownBlock=some b) w4 w5∧((Value.slice ad s.vars.length cap).ownBlock=some g5∨w4.heap.size≤g5)):=⟨ho5,(Chg.of_below HAL.out).trans (Chg.of_grown (S:=fun b=>(Value.slice ad s.vars.length cap).ownBlock=some b) hg5 (fun k q=>q)) (fun _ _ q=>q),hl5.imp id (fun q=>by rw[q];exact HAL.out.size)⟩;obtain⟨z1,z2⟩:=HFZ.out w5 HO5.out.2.1;clear ho5 hg5 hl5))
   all_goals
    have hV:=HN.out.1.var HO5.out.1 HO5.out.2.1 HO5.out.2.2
    have hW:Went w B rb O (putVarP nm pl kd slot s) v6 (w5.setCell ⟨rb,1,none⟩ (.slice (some ⟨g5,0,none⟩) (s.vars.length+1) cap5)):=by
     rw[HPI.out]
     refine Went.behind HB.out (HWF.out _ (hV.1.full HGD.out) ?_ ?_)
     ·exact HN.out.2.trans hV.2.1 (fun i _ q=>q)
     ·intro b q
      rcases hV.2.2 b q with c | c
      ·exact Or.inl c
      ·exact Or.inr (Nat.le_trans (by have:=HN.out.2.size;exact this) c)
    have HWW:Hid (Went w B rb O (putVarP nm pl kd slot s) v6 (w5.setCell ⟨rb,1,none⟩ (.slice (some ⟨g5,0,none⟩) (s.vars.length+1) cap5))):=hW
    clear hW hV HO5 HFZ HOW HBB HAL HBX g1 z1 z2 x1 x2 x3 x4
    go_wp2_with fail
    go_end0
    exact⟨rfl,by first | exact HWW.out | exact Went.drew HWW.out⟩
theorem fnd_any (nm:ByteArray):∀b:Blk,(fnd nm b).isSome=b.any (fun e=>decide (e.1=nm))
 | []=>rfl
 | e :: b=>by
   have ih:=fnd_any nm b
   unfold fnd at *
   by_cases c:e.1=nm
   ·rw[List.find?_cons_of_pos (by simpa using c),List.any_cons]
    simp[c]
   ·rw[List.find?_cons_of_neg (by simpa using c),List.any_cons,ih]
    simp[c]
theorem le_sum {x:Nat}:∀ {l:List Nat},x∈l→x≤l.sum
 | [],h=>by cases h
 | y :: l,h=>by
   rw[List.sum_cons]
   rcases List.mem_cons.1 h with q | q
   ·omega
   ·have:=le_sum q;omega
theorem Mem.bump {w:World}{B rb:Nat}{O:Nat→Prop}{s:Rz.RS}{v6:Value}(h:Mem w B rb O s v6):∃g n cap,w.cell? ⟨rb,0,none⟩=some (.slice (some ⟨g,0,none⟩) n cap)∧w.cell? ⟨g,s.fn*4+3,none⟩=some (.int .i64 (varsAt s:Int))∧w.frozen? ⟨g,s.fn*4+3,none⟩=false∧(∀W,Below w.heap.size w W→Calls Tryz.prog 70 #[.pointer (some ⟨rb,0,none⟩)] W fun e w'=>e = .returned (.pointer (some ⟨g,s.fn*4,none⟩))∧Below W.heap.size W w')∧∀W,Below w.heap.size w W→Went W B rb O (bumpP s) v6 (W.setCell ⟨g,s.fn*4+3,none⟩ (.int .i64 ((varsAt s:Int)+1))):=by
 obtain⟨tg,v0,v1,v2,v3,ms,h,hO⟩:=h
 have hfn:=h.gd.fnl
 obtain⟨y,hy⟩:∃y,s.scopes[s.fn]?=some y:=⟨_,List.getElem?_eq_getElem hfn⟩
 have hva:varsAt s=y.vars:=by unfold varsAt;rw[hy];rfl
 obtain⟨ad,cap,rfl,l1,l2,hg⟩:=own_slice h.r0
 obtain⟨g,rfl⟩:=hg (by intro e;rw[e] at hfn;simp at hfn)
 obtain⟨_,_,_,_,_,r6,r7⟩:=h.r0.read rtScp.len
 have d3:=r6 s.fn y hy 3 _ rfl
 refine⟨g,s.scopes.length,cap,h.c.1,by rw[hva];exact d3,r7 _,fun W hW=>scope_any W B rb O s v6 tg _ v1 v2 v3 ms (h.below hW) g _ cap rfl,fun W hW => ?_⟩
 have hp:=(h.below hW).put0 (i:=s.fn) (j:=3) (y:=y) (y':={ y with vars:=y.vars+1 }) (u := .int .i64 ((varsAt s:Int)+1)) hy (by omega) (by rw[hva];simp[scpC]) ?_
 ·obtain⟨p1,p2⟩:=hp
  have e1:bumpP s={ s with scopes:=s.scopes.set s.fn { y with vars:=y.vars+1 } }:=by
   unfold bumpP
   rw[modify_set _ _ _ y hy]
  rw[e1]
  exact went_of hO p1 p2 (fun b q=>Or.inl q)
 ·exact⟨by simpa using hfn,h.gd.blk,h.gd.wf⟩
theorem declare_any (w:World)(B rb:Nat)(O:Nat→Prop)(s:Rz.RS)(v6:Value)(h:Mem w B rb O s v6)(hb:bg s<1000000000)(b0:Blk)(bs:List Blk)(hbs:s.blocks=b0 :: bs)(kind pl num:Int)(nm op:ByteArray)(kv:Value)(hs:nm.size≤maxLen)(kd:Int) :
  Calls Tryz.prog 49 #[.pointer (some ⟨rb,0,none⟩),.agg #[.int .i64 kind,.int .i64 pl,.string nm,.int .u64 num,.string op,kv],.int .i64 kd] w (Out w B rb O v6 (.tuple #[]) (declP nm pl kd s)):=by
 obtain⟨wb,hwb⟩:∃wb,wb=w.alloc (.cells #[.int .i64 kind,.int .i64 pl,.string nm,.int .u64 num,.string op,kv] 25):=⟨_,rfl⟩
 have hbl:Below w.heap.size w wb:=by rw[hwb];exact below_new (Below.refl _ _) (Nat.le_refl _) _
 have hbx:wb.heap[w.heap.size]?=some (.cells #[.int .i64 kind,.int .i64 pl,.string nm,.int .u64 num,.string op,kv] 25 (0,0)):=by rw[hwb];exact at_new _ _
 have HOL:Hid (∀b,O b→b<w.heap.size):=fun b q=>(h.lt b q).2
 have hmb:=h.below hbl
 have HMB:Hid (Mem wb B rb O s v6):=hmb
 have HBL:Hid (Below w.heap.size w wb):=hbl
 obtain⟨tg,v0,v1,v2,v3,ms,hm,hO⟩:=hmb
 have hml:=hm.ml
 rw[hbs,List.length_cons] at hml
 obtain⟨ms0,m,rfl⟩:∃ms0 m,ms=ms0++[m]:=by
  rcases List.eq_nil_or_concat ms with e | ⟨a,b,e⟩
  ·rw[e] at hml;simp at hml
  ·exact⟨a,b,by rw[e,List.concat_eq_append]⟩
 have hlast:(ms0++[m])[ms0.length]?=some m:=by simp
 have hln:(ms0++[m]).length=ms0.length+1:=by simp
 obtain⟨ad3,cap3,rfl,l1,l2,hg3⟩:=own_slice hm.r3
 obtain⟨g,rfl⟩:=hg3 (by simp)
 obtain⟨_,_,_,_,_,r6,r7⟩:=hm.r3.read rtMp.len
 have d3:=r6 ms0.length m hlast 0 _ rfl
 rw[Nat.mul_one,Nat.add_zero] at d3
 have c3:=hm.c.2.2.2.1
 rw[hln] at c3
 have hmp:=hm.mp ms0.length m b0 hlast (by rw[hbs,List.reverse_cons,List.getElem?_append_right (by rw[List.length_reverse];omega)];simp only[List.length_reverse];rw[show ms0.length - bs.length=0 by omega];rfl)
 have hwf0:=hm.gd.wf b0 (by rw[hbs];exact List.mem_cons_self ..)
 have hlk:∀W,Below wb.heap.size wb W→(Instr.lookup 124 (.map m) (.string nm) true).run Tryz.prog W = .ok (lookV nm b0) W:=fun W hW=>(hmp.kept (fun mb e=>by subst e;exact hW.block mb (hm.tm ms0.length mb hlast).2.2)).look hwf0 hs
 have hli:(ms0.length:Int)+1≤9223372036854775807:=by unfold maxLen at l2;rw[hln] at l1;omega
 obtain⟨bg0,bn0,bc0,q0,q3,qf,qs,qw⟩:=HMB.out.bump
 have HSTEP:Hid (∀W,Below wb.heap.size wb W→Calls Tryz.prog 70 #[.pointer (some ⟨rb,0,none⟩)] W fun e w'=>e = .returned (.pointer (some ⟨bg0,s.fn*4,none⟩))∧Below W.heap.size W w'):=qs
 have HW:Hid (∀W,Below wb.heap.size wb W→Went W B rb O (bumpP s) v6 (W.setCell ⟨bg0,s.fn*4+3,none⟩ (.int .i64 ((varsAt s:Int)+1)))):=qw
 have HVW:Hid (lookV nm b0 = .tuple #[.int .i64 (((fnd nm b0).map (fun e=>(e.2:Int))).getD 0),.bool (b0.any (fun e=>decide (e.1=nm)))]):=by show _=_;unfold lookV;rw[fnd_any]
 rw[HVW.out] at hlk
 generalize ((fnd nm b0).map (fun e=>(e.2:Int))).getD 0=fkk at *
 have HNO:Hid (b0.any (fun e=>decide (e.1=nm))=false→∀x∈b0,x.1≠nm):=fun q x hx e=>by
  have:b0.any (fun e=>decide (e.1=nm))=true:=List.any_eq_true.2 ⟨x,hx,by simpa using e⟩
  rw[q] at this;cases this
 obtain⟨R,hR⟩:∃R,R=declP nm pl kd s:=⟨_,rfl⟩
 rw[←hR]
 unfold declP at hR
 have hhd:s.blocks.headD []=b0:=by rw[hbs];rfl
 rw[hhd] at hR
 have HR:Hid (R=if b0.any (fun e=>decide (e.1=nm))=true then .error (pl,71) else if 200≤varsAt s then .error (pl,72) else .ok (putVarP nm pl kd (varsAt s) (bumpP s))):=hR
 have HVAR:Hid (b0.any (fun e=>decide (e.1=nm))=false→∀W,Below wb.heap.size wb W→(W.setCell ⟨bg0,s.fn*4+3,none⟩ (.int .i64 ((varsAt s:Int)+1))).heap[w.heap.size]?=some (.cells #[.int .i64 kind,.int .i64 pl,.string nm,.int .u64 num,.string op,kv] 25 (0,0))∧Calls Tryz.prog 71 #[.pointer (some ⟨rb,0,none⟩),.agg #[.int .i64 kind,.int .i64 pl,.string nm,.int .u64 num,.string op,kv],.int .i64 kd,.int .i64 (varsAt s:Int)] (W.setCell ⟨bg0,s.fn*4+3,none⟩ (.int .i64 ((varsAt s:Int)+1))) fun e w'=>e = .returned (.tuple #[])∧Went w B rb O (putVarP nm pl kd (varsAt s) (bumpP s)) v6 w'):=fun hno W hW=>by
  have hw:=qw W hW
  have hchg:Chg O w (W.setCell ⟨bg0,s.fn*4+3,none⟩ (.int .i64 ((varsAt s:Int)+1))):=by
   obtain⟨O1,m1,c1,o1⟩:=hw
   exact(Chg.of_below (HBL.out.trans (hW.mono HBL.out.size))).trans c1 (fun _ _ q=>q)
  refine⟨?_,?_⟩
  ·obtain⟨O1,m1,c1,o1⟩:=hw
   rw[c1.block w.heap.size (Nat.lt_of_lt_of_le (by rw[hwb,size_new];omega) hW.size) (fun q=>by have:=HOL.out _ q;omega),hW.block _ (by rw[hwb,size_new];omega)]
   exact hbx
  ·obtain⟨O1,m1,c1,o1⟩:=hw
   have hbg:bg (bumpP s)≤1000000000:=by
    have h1:=sum_bump s.scopes s.fn
    unfold bg bumpP at *
    simp only[List.length_modify]
    omega
   refine(variable_any _ B rb O1 (bumpP s) v6 m1 hbg b0 bs hbs kind pl num nm op kv hs (HNO.out hno) kd (varsAt s)).mono ?_
   rintro e w' ⟨rfl,hq⟩
   exact⟨rfl,went_then hchg (fun b q=>(o1 b q).imp id (fun q=>Nat.le_trans (Nat.le_trans HBL.out.size hW.size) q)) hq⟩
 have HCH:Hid (∀W,Below wb.heap.size wb W→Chg O w W):=fun W hW=>Chg.of_below (HBL.out.trans (hW.mono HBL.out.size))
 have a1:wb.cell? ⟨w.heap.size,1,none⟩=some (.int .i64 pl):=by rw[cell_of_row wb _ 1 _ 25 (0,0) hbx];rfl
 have a2:wb.cell? ⟨w.heap.size,2,none⟩=some (.string nm):=by rw[cell_of_row wb _ 2 _ 25 (0,0) hbx];rfl
 have HLK:Hid (∀W,Below wb.heap.size wb W→(Instr.lookup 124 (.map m) (.string nm) true).run Tryz.prog W = .ok (.tuple #[.int .i64 fkk,.bool (b0.any (fun e=>decide (e.1=nm)))]) W):=hlk
 have hva:(varsAt s:Int)≤1000000000:=by
  obtain⟨y,hy⟩:∃y,s.scopes[s.fn]?=some y:=⟨_,List.getElem?_eq_getElem h.gd.fnl⟩
  have h1:varsAt s=y.vars:=by unfold varsAt;rw[hy];rfl
  have h2:y.vars≤(s.scopes.map Rz.Scp.vars).sum:=le_sum (List.mem_map.2 ⟨y,List.mem_of_getElem? hy,rfl⟩)
  unfold bg at hb
  omega
 have HQ3:Hid (wb.cell? ⟨bg0,s.fn*4+3,none⟩=some (.int .i64 (varsAt s:Int))∧wb.frozen? ⟨bg0,s.fn*4+3,none⟩=false∧bg0<wb.heap.size):=⟨q3,qf,World.block_lt_of_cell? wb _ q3⟩
 generalize b0.any (fun e=>decide (e.1=nm))=an at *
 generalize varsAt s=va at *
 generalize s.fn=fn at *
 have hli2:(0:Int)≤(ms0.length:Int):=by omega
 generalize ms0.length=ml at *
 clear hR hhd h hmp hwf0 hm hO hml hlast hln l1 l2 r6 r7 qs qw HMB hbs hb hs hg3 q0 q3 qf HNO HVW hlk
 go_enter Tryz.func49,Tryz.ntmps49
 go_upto_region 1 with fail
 rw[←hwb]
 clear hwb
 have hwk:IntKind.i64.wrap ((ml:Int)+1 - 1)=(ml:Int):=by rw[IntKind.wrap_i64];omega
 have hwk2:IntKind.i64.wrap (ml:Int)=(ml:Int):=by rw[IntKind.wrap_i64];omega
 have hlt1:(ml:Int)<(ml:Int)+1:=by omega
 go_region_held (fun W=>W.cell? ⟨rb,3,none⟩=some (.slice (some ⟨g,0,none⟩) (ml+1) cap3)∧W.cell? ⟨g,ml,none⟩=some (.map m)∧W.cell? ⟨w.heap.size,2,none⟩=some (.string nm)∧(Instr.lookup 124 (.map m) (.string nm) true).run Tryz.prog W = .ok (.tuple #[.int .i64 fkk,.bool an]) W) (exact⟨Sc.cells_below ((Below.refl _ _).drew) _ _ c3,Sc.cells_below ((Below.refl _ _).drew) _ _ d3,Sc.cells_below ((Below.refl _ _).drew) _ _ a2,HLK.out _ ((Below.refl _ _).drew)⟩) (fail)
 obtain⟨wc,hwc⟩:∃wc,wc=wb.drew:=⟨_,rfl⟩
 have hbc:Below wb.heap.size wb wc:=by rw[hwc];exact(Below.refl _ _).drew
 have HBC:Hid (Below wb.heap.size wb wc):=hbc
 have e1:=Sc.cells_below hbc _ _ a1
 rw[←hwc]
 clear hwc c3 d3 a2 a1 hwk hwk2 hlt1 hbl hbx
 cases an with
 | true =>
   have HC:=(show Hid _ from HCH.out wc hbc)
   clear HVAR HSTEP HW hbc
   go_wp2_with fail
   refine⟨rfl,?_⟩
   rw[HR.out]
   first | rw[if_pos trivial] | rw[if_pos rfl]
   exact⟨rfl,HC.out⟩
 | false =>
   have k1:=HSTEP.out wc hbc
   clear hbc
   go_wp2_with fail
   refine k1.mono ?_
   rintro e w1 ⟨rfl,hb1⟩
   have HB1:Hid (Below wb.heap.size wb w1):=HBC.out.trans (hb1.mono HBC.out.size)
   have z3:=Sc.cells_below HB1.out _ _ HQ3.out.1
   have z1:=Sc.cells_below hb1 _ _ e1
   clear k1 hb1 e1
   by_cases c2:200≤va
   ·have c2':(200:Int)≤(va:Int):=by omega
    have HC:=(show Hid _ from HCH.out w1 HB1.out)
    clear HVAR HSTEP HW
    go_wp2_with fail
    refine⟨rfl,?_⟩
    rw[HR.out]
    first | rw[if_neg (fun q=>q)] | rw[if_neg (by decide)]
    rw[if_pos c2]
    exact⟨rfl,HC.out⟩
   ·have c2':(va:Int)<200:=by omega
    have HC2:Hid (¬200≤va):=c2
    have k2:=HSTEP.out w1 HB1.out
    clear c2 hva hli hli2
    go_upto_region 7 with fail
    clear c2' z1 z3
    go_wp2_with fail
    refine k2.mono ?_
    rintro e w2 ⟨rfl,hb2⟩
    have HB2:Hid (Below wb.heap.size wb w2):=HB1.out.trans (hb2.mono HB1.out.size)
    have y3:=Sc.cells_below HB2.out _ _ HQ3.out.1
    have yf:w2.frozen? ⟨bg0,fn*4+3,none⟩=false:=by
     rw[World.frozen?_of_block (w:=wb) (a:=⟨bg0,fn*4+3,none⟩) (HB2.out.block bg0 HQ3.out.2.2)]
     exact HQ3.out.2.1
    obtain⟨hbx2,kv2⟩:=HVAR.out (by first | trivial | rfl) w2 HB2.out
    have hw5:IntKind.i64.wrap ((va:Int)+1)=(va:Int)+1:=by have:=HC2.out;rw[IntKind.wrap_i64];omega
    obtain⟨w3,hw3⟩:∃w3,w3=w2.setCell ⟨bg0,fn*4+3,none⟩ (.int .i64 ((va:Int)+1)):=⟨_,rfl⟩
    rw[←hw3] at hbx2 kv2
    have g0:w3.cell? ⟨w.heap.size,0,none⟩=some (.int .i64 kind):=by rw[cell_of_row w3 _ 0 _ 25 (0,0) hbx2];rfl
    have g1:w3.cell? ⟨w.heap.size,1,none⟩=some (.int .i64 pl):=by rw[cell_of_row w3 _ 1 _ 25 (0,0) hbx2];rfl
    have g2:w3.cell? ⟨w.heap.size,2,none⟩=some (.string nm):=by rw[cell_of_row w3 _ 2 _ 25 (0,0) hbx2];rfl
    have g3:w3.cell? ⟨w.heap.size,3,none⟩=some (.int .u64 num):=by rw[cell_of_row w3 _ 3 _ 25 (0,0) hbx2];rfl
    have g4:w3.cell? ⟨w.heap.size,4,none⟩=some (.string op):=by rw[cell_of_row w3 _ 4 _ 25 (0,0) hbx2];rfl
    have g5:w3.cell? ⟨w.heap.size,5,none⟩=some kv:=by rw[cell_of_row w3 _ 5 _ 25 (0,0) hbx2];rfl
    clear k2 hb2 hbx2 HVAR HSTEP HW
    go_upto_region 8 with fail
    rw[←hw3]
    clear hw3 y3 yf
    go_wp2_with fail
    refine kv2.mono ?_
    rintro e w4 ⟨rfl,h4⟩
    have HG:Hid (Went w B rb O (putVarP nm pl kd va (bumpP s)) v6 w4):=h4
    clear kv2 h4
    go_wp2_with fail
    go_end0
    rw[HR.out]
    first | rw[if_neg (fun q=>q)] | rw[if_neg (by decide)]
    rw[if_neg HC2.out]
    exact⟨rfl,HG.out⟩
end Go.Proofs.YtihmdcdifakepaaGreat.Rv
