/- XX -/
import Derived.Test.YtahhionlbfhinaaGreatDoorXZ
import Derived.Test.YtahhionlbfhinaaGreatDoorB40
import Derived.Deep.QuietTactic
import Derived.Lib.MinMax
import Derived.Test.YtahhionlbfhinaaGreatDoorOW
set_option linter.unusedVariables false
set_option linter.unusedSimpArgs false
set_option maxRecDepth 100000
set_option maxHeartbeats 40000000
namespace Go.Proofs.YtahhionlbfhinaaGreatDoor.Hp
open Go.RowKit
theorem Sli.ok.take {w:World}{ca:Option Addr}{cc:Nat}{cx:List OpP}(h:Sli.ok opP 11 w ⟨ca,cc,cx⟩)(k:Nat):Sli.ok opP 11 w ⟨ca,cc,cx.take k⟩:=by
 have a:=h.len
 refine⟨?_,h.cap,fun h0 => ?_⟩
 ·simp only[List.length_take] at a ⊢
  omega
 ·have hne:cx≠[]:=by
   rintro rfl
   simp at h0
  obtain⟨b,off,e1,e2⟩:=h.cells hne
  refine⟨b,off,e1,fun i y hy j u hu=>e2 i y ?_ j u hu⟩
  simp only[List.getElem?_take] at hy
  split at hy
  ·exact hy
  ·cases hy
theorem all_walk14 (w:World)(hT:TbAt w)(m:Int)(sc:Sli OpP)(hsc:sc.ok opP 11 w)(hwf:∀a∈sc.xs,a.wf) :
  Calls Tryz.prog 3 #[.int .i64 m,sc.val] w fun e w'=>e = .returned (.bool true)∧Below w.heap.size w w':=by
 obtain⟨ca,cc,cx⟩:=sc
 unfold Sli.val
 simp only at *
 have kn:=new_any w m
 have HC:Hid (∀W,Below w.heap.size w W→Sli.ok opP 11 W ⟨ca,cc,cx⟩):=fun W hW=>hsc.kept (cells_below hW)
 have HWF:Hid (∀a∈cx,a.wf):=hwf
 have hcl:(cx.length:Int)≤9223372036854775807:=by
  have a:=hsc.len
  have b:=hsc.cap
  simp only at a b
  unfold maxLen at b
  omega
 have HTB:Hid (TbAt w):=hT
 clear hsc hwf hT
 go_enter Tryz.func3,Tryz.ntmps3
 go_wp2_with fail
 refine kn.mono ?_
 rintro e w1 ⟨hb,O,rfl,hT,hb1⟩
 have HS:Hid (LawP w (w1.alloc (.cells #[.slice none 0 0,.slice none 0 0] 28)) (fun b=>b=w1.heap.size) hb w1.heap.size (He.new m) [] .nil 0):=LawP.start HTB.out hT hb1
 clear kn hT hb1
 go_upto_region 3 with fail
 generalize w1.alloc (.cells #[.slice none 0 0,.slice none 0 0] 28)=w2 at *
 generalize w1.heap.size=bs at *
 have kal:=palive_any w2 HS.out.tbr.fp
 go_wp2_with fail
 refine kal.mono ?_
 rintro e w3 ⟨rfl,hb3⟩
 have HI:Hid (LawP w w3 (fun b=>b=bs) hb bs (He.new m) [] .nil 0):=HS.out.below hb3
 clear kal hb3 HS
 go_wp2_with fail
 go_loopw [7,8] (fun ok iv wr=>∃(i:Nat) (H:He) (S:List So) (vo:SV),((i≤cx.length∧i≤500)∧Hid (LawP w wr (fun b=>b=bs) hb bs H S vo i))∧ok = .bool true∧iv = .int .i64 i) (fun ok iv wr=>cx.length - (intOf iv).toNat)
 case atStart=>exact⟨0,_,_,_,⟨⟨Nat.zero_le _,Nat.zero_le _⟩,HI⟩,rfl,rfl⟩
 case round =>
  clear HI
  obtain⟨i,H,S,⟨oa,ol,oc⟩,⟨⟨ple,pl5⟩,HL⟩,rfl,rfl⟩:=hrel
  obtain⟨r0,r1⟩:=HL.out.box.ce
  rw[show(SV.mk oa ol oc).val = .slice oa ol oc from rfl] at r0
  rw[show SV.nil.val = .slice none 0 0 from rfl] at r1
  rcases Nat.lt_or_ge i cx.length with c | c
  ·have cil:(i:Int)<cx.length:=by omega
   rcases Nat.lt_or_ge i 500 with c5 | c5
   ·have hi5:(i:Int)<500:=by omega
    have hex:∃a,cx[i]?=some a:=⟨_,List.getElem?_eq_getElem c⟩
    obtain⟨a,ha⟩:=hex
    obtain⟨b,off,e1,hc⟩:=(HC.out wr HL.out.two.bel).cells (by intro e;have e:cx=[]:=e;rw[e] at c;simp at c)
    simp only at e1
    subst e1
    have d0:=hc i a ha 0 _ rfl
    have d1:=hc i a ha 1 _ rfl
    have d2:=hc i a ha 2 _ rfl
    have d3:=hc i a ha 3 _ rfl
    have d4:=hc i a ha 4 _ rfl
    have d5:=hc i a ha 5 _ rfl
    have d6:=hc i a ha 6 _ rfl
    have d7:=hc i a ha 7 _ rfl
    have d8:=hc i a ha 8 _ rfl
    have d9:=hc i a ha 9 _ rfl
    have d10:=hc i a ha 10 _ rfl
    rw[Nat.add_zero] at d0
    have hmem:=HWF.out a (List.mem_of_getElem? ha)
    have hdr:=HL.out.below ((Below.refl _ _).drew)
    have ks:=hdr.step (by omega) a hmem
    obtain⟨kd,oo,op,kk,⟨has,va,ge,se,fl⟩,vv,nn⟩:=a
    unfold stV OpP.val OpP.cells at ks
    rw[show(SV.mk oa ol oc).val = .slice oa ol oc from rfl,show SV.nil.val = .slice none 0 0 from rfl] at ks
    simp only at ks d0 d1 d2 d3 d4 d5 d6 d7 d8 d9 d10
    have HIC:Hid (i<cx.length∧i<500):=⟨c,c5⟩
    clear hc ha hdr hmem HL c c5
    go_upto_region 7 with fail
    go_region_with ((go_at_call 10;refine ks.mono ?_;rintro e w5 ⟨⟨za,zl,zc⟩,rfl,bx5,hl5,hk5⟩;have HX:=(show Hid _ from hl5);obtain⟨m0,m1⟩:=bx5.ce;obtain⟨n0,n1⟩:=bx5.fz;rw[show(SV.mk oa ol oc).val = .slice oa ol oc from rfl] at m0;try rw[show SV.nil.val = .slice none 0 0 from rfl] at m1;try rw[show(SV.mk za zl zc).val = .slice za zl zc from rfl] at HX;try rw[show(SV.mk za zl zc).val = .slice za zl zc from rfl];try rw[show SV.nil.val = .slice none 0 0 from rfl] at HX;try rw[show SV.nil.val = .slice none 0 0 from rfl];clear hl5 bx5 hk5))
    all_goals
     clear ks d0 d1 d2 d3 d4 d5 d6 d7 d8 d9 d10 r0 r1 m0 m1 n0 n1
     generalize ((w5.setCell ⟨bs,0,none⟩ (.slice za zl zc)).setCell ⟨bs,1,none⟩ (.slice none 0 0))=w6 at *
     have HN:Hid (∃H' S',LawP w w6 (fun b=>b=bs) hb bs H' S' ⟨za,zl,zc⟩ (i+1)):=⟨_,_,HX.out⟩
     clear HX
     go_wp2_with fail
     obtain⟨H',S',hn⟩:=HN.out
     refine⟨⟨i+1,H',S',⟨za,zl,zc⟩,⟨⟨HIC.out.1,HIC.out.2⟩,hn⟩,rfl,by go_num⟩,?_⟩
     have:=HIC.out.1
     simp[intOf]
     omega
   ·have hi5:¬((i:Int)<500):=by omega
    clear c5 c
    obtain⟨q,hq⟩:∃q:Nat,q=min cx.length 60:=⟨_,rfl⟩
    have hmn:min (cx.length:Int) 60=(q:Int):=by omega
    have hcc:(q:Int)≤cc:=by have:=(HC.out wr HL.out.two.bel).len;simp only at this;omega
    have hdr:=HL.out.below ((Below.refl _ _).drew)
    have kw:=whole_e hdr (by omega) ⟨ca,cc,cx.take q⟩ ((HC.out _ hdr.two.bel).take q) (fun a ha=>HWF.out a (List.mem_of_mem_take ha))
    have HFB:Hid (Below w.heap.size w wr.drew):=hdr.two.bel
    have hlq:(cx.take q).length=q:=by rw[List.length_take];omega
    unfold stV Sli.val at kw
    simp only[hlq] at kw
    rw[show(SV.mk oa ol oc).val = .slice oa ol oc from rfl,show SV.nil.val = .slice none 0 0 from rfl] at kw
    clear hdr HL hlq hq
    go_upto_region 8 with fail
    go_region_with ((go_at_call 11;refine kw.mono ?_;rintro e w5 ⟨rfl,hb5⟩;have HF:Hid (Below w.heap.size w w5):=HFB.out.trans (hb5.mono HFB.out.size);clear hb5))
    all_goals
     clear kw
     go_wp2_with fail
     go_ret
     exact⟨rfl,HF.out⟩
  ·have hil:¬(i:Int)<cx.length:=by omega
   clear c
   obtain⟨q,hq⟩:∃q:Nat,q=min cx.length 60:=⟨_,rfl⟩
   have hmn:min (cx.length:Int) 60=(q:Int):=by omega
   have hcc:(q:Int)≤cc:=by have:=(HC.out wr HL.out.two.bel).len;simp only at this;omega
   have hdr:=HL.out.below ((Below.refl _ _).drew)
   have kw:=whole_e hdr (by omega) ⟨ca,cc,cx.take q⟩ ((HC.out _ hdr.two.bel).take q) (fun a ha=>HWF.out a (List.mem_of_mem_take ha))
   have HFB:Hid (Below w.heap.size w wr.drew):=hdr.two.bel
   have hlq:(cx.take q).length=q:=by rw[List.length_take];omega
   unfold stV Sli.val at kw
   simp only[hlq] at kw
   rw[show(SV.mk oa ol oc).val = .slice oa ol oc from rfl,show SV.nil.val = .slice none 0 0 from rfl] at kw
   clear hdr HL hlq hq
   go_upto_region 8 with fail
   go_region_with ((go_at_call 11;refine kw.mono ?_;rintro e w5 ⟨rfl,hb5⟩;have HF:Hid (Below w.heap.size w w5):=HFB.out.trans (hb5.mono HFB.out.size);clear hb5))
   all_goals
    clear kw
    go_wp2_with fail
    go_ret
    exact⟨rfl,HF.out⟩
end Go.Proofs.YtahhionlbfhinaaGreatDoor.Hp
