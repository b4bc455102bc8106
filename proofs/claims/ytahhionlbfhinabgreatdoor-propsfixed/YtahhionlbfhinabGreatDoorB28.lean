/- KK, LA, LQ, LB -/
import Derived.Test.YtahhionlbfhinabGreatDoorB14
import Derived.Test.YtahhionlbfhinabGreatDoorB27
import Derived.Test.YtahhionlbfhinabGreatDoorB1
import Derived.OrdersHeld
import Derived.Test.YtahhionlbfhinabGreatDoorB21
set_option linter.unusedVariables false
set_option linter.unusedSimpArgs false
set_option maxRecDepth 100000
set_option maxHeartbeats 40000000
namespace Go.Proofs.YtahhionlbfhinabGreatDoor.Hp
open Go.RowKit
def wsV (u:Ws):Value := .agg #[.int .i64 u.has,.int .u64 u.va,.int .u64 u.ge,.int .u64 u.se,.int .i64 u.fl]
def Bx5 (W:World)(b:Nat)(u:Ws):Prop:=W.heap[b]?=some (.cells #[.int .i64 u.has,.int .u64 u.va,.int .u64 u.ge,.int .u64 u.se,.int .i64 u.fl] 26 (0,0))
theorem Bx5.ce {W:World}{b:Nat}{u:Ws}(h:Bx5 W b u):W.cell? ⟨b,0,none⟩=some (.int .i64 u.has)∧W.cell? ⟨b,1,none⟩=some (.int .u64 u.va)∧W.cell? ⟨b,2,none⟩=some (.int .u64 u.ge)∧W.cell? ⟨b,3,none⟩=some (.int .u64 u.se)∧W.cell? ⟨b,4,none⟩=some (.int .i64 u.fl):=⟨cell_of_row W b 0 _ _ (0,0) h,cell_of_row W b 1 _ _ (0,0) h,cell_of_row W b 2 _ _ (0,0) h,cell_of_row W b 3 _ _ (0,0) h,cell_of_row W b 4 _ _ (0,0) h⟩
theorem Bx5.lt {W:World}{b:Nat}{u:Ws}(h:Bx5 W b u):b<W.heap.size:=(Array.getElem?_eq_some_iff.1 h).1
theorem Bx5.below {W W':World}{b:Nat}{u:Ws}(h:Bx5 W b u)(hB:Below W.heap.size W W'):Bx5 W' b u:=by
 unfold Bx5
 rw[hB.block b h.lt]
 exact h
def accB (d:De):Bool:=bits .and .i64 d.fl 8 != 0
def turnD (d:De)(u:Ws):De:=if (bits .and .i64 u.has (if accB d=true then 3 else 48) == 0)=true then d else ⟨undW,undW,bits .andNot .i64 (bits .xor .i64 d.fl 8) 1⟩
theorem isAcc_any (w:World)(d:De):Calls Tryz.prog 27 #[deV d] w fun e w'=>e = .returned (.bool (accB d))∧Below w.heap.size w w':=by
 have HB:Hid (Below w.heap.size w (w.alloc (.cells #[.int .u64 d.va,.int .u64 d.se,.int .i64 d.fl] 39))):=(Below.refl _ _).alloc (Nat.le_refl _) _
 obtain⟨c0,c1,c2⟩:=(Bx3.box w d).ce
 unfold accB deV
 go_enter Tryz.func27,Tryz.ntmps27
 go_wp2_with fail
 go_ret
 exact⟨rfl,HB.out⟩
structure Bxs (w W:World)(d:De)(u:Ws)(r:De):Prop where
 x:Bx3 W w.heap.size d
 y:Bx5 W (w.heap.size+1) u
 z:Bx3 W (w.heap.size+2) r
 bel:Below w.heap.size w W
def w3b (w:World)(d:De)(u:Ws):World:=((w.alloc (.cells #[.int .u64 d.va,.int .u64 d.se,.int .i64 d.fl] 39)).alloc (.cells #[.int .i64 u.has,.int .u64 u.va,.int .u64 u.ge,.int .u64 u.se,.int .i64 u.fl] 26)).alloc (.cells #[.int .u64 0,.int .u64 0,.int .i64 0] 39)
theorem bxs_new (w:World)(d:De)(u:Ws):Bxs w (w3b w d u) d u zDe:=by
 have s1:(w.alloc (.cells #[.int .u64 d.va,.int .u64 d.se,.int .i64 d.fl] 39)).heap.size=w.heap.size+1:=size_new _ _
 have s2:((w.alloc (.cells #[.int .u64 d.va,.int .u64 d.se,.int .i64 d.fl] 39)).alloc (.cells #[.int .i64 u.has,.int .u64 u.va,.int .u64 u.ge,.int .u64 u.se,.int .i64 u.fl] 26)).heap.size=w.heap.size+2:=by rw[size_new,s1]
 refine⟨at_old _ _ _ _ (at_old _ _ _ _ (at_new _ _)),?_,?_,below_new (below_new (below_new (Below.refl _ _) (Nat.le_refl _) _) (by rw[s1];omega) _) (by rw[s2];omega) _⟩
 ·have:=at_new (w.alloc (.cells #[.int .u64 d.va,.int .u64 d.se,.int .i64 d.fl] 39)) (.cells #[.int .i64 u.has,.int .u64 u.va,.int .u64 u.ge,.int .u64 u.se,.int .i64 u.fl] 26)
  rw[s1] at this
  exact at_old _ _ _ _ this
 ·have:=Bx3.new ((w.alloc (.cells #[.int .u64 d.va,.int .u64 d.se,.int .i64 d.fl] 39)).alloc (.cells #[.int .i64 u.has,.int .u64 u.va,.int .u64 u.ge,.int .u64 u.se,.int .i64 u.fl] 26))
  rw[s2] at this
  exact this
section
variable {w W W':World}{d d' r:De}{u:Ws}
theorem Bxs.below (h:Bxs w W d u r)(hB:Below W.heap.size W W'):Bxs w W' d u r:=⟨h.x.below hB,h.y.below hB,h.z.below hB,h.bel.trans (hB.mono h.bel.size)⟩
theorem heap_other (W:World)(a:Addr)(v:Value){b:Nat}(hb:b≠a.block):(W.setCell a v).heap[b]?=W.heap[b]?:=Below.heap_setCell W a v b hb
theorem st3_other (W:World)(g:Nat)(d:De){b:Nat}(hb:b≠g):(st3 W g d).heap[b]?=W.heap[b]?:=by
 unfold st3
 rw[heap_other _ _ _ hb,heap_other _ _ _ hb,heap_other _ _ _ hb]
theorem Bxs.res (h:Bxs w W d u r)(d':De):Bxs w (st3 W (w.heap.size+2) d') d u d':=by
 refine⟨?_,?_,h.z.put _,st3_below h.bel (by omega) _⟩
 ·unfold Bx3;rw[st3_other _ _ _ (by omega)];exact h.x
 ·unfold Bx5;rw[st3_other _ _ _ (by omega)];exact h.y
theorem Bxs.set (h:Bxs w W d u r)(d':De):Bxs w (st3 W w.heap.size d') d' u r:=by
 refine⟨h.x.put _,?_,?_,st3_below h.bel (Nat.le_refl _) _⟩
 ·unfold Bx5;rw[st3_other _ _ _ (by omega)];exact h.y
 ·unfold Bx3;rw[st3_other _ _ _ (by omega)];exact h.z
theorem Bxs.one (h:Bxs w W d u r)(j:Nat)(v:Value)(hx:Bx3 (W.setCell ⟨w.heap.size,j,none⟩ v) w.heap.size d'):Bxs w (W.setCell ⟨w.heap.size,j,none⟩ v) d' u r:=by
 refine⟨hx,?_,?_,h.bel.setCell (Nat.le_refl _) _⟩
 ·unfold Bx5;rw[heap_other _ _ _ (by show w.heap.size+1≠w.heap.size;omega)];exact h.y
 ·unfold Bx3;rw[heap_other _ _ _ (by show w.heap.size+2≠w.heap.size;omega)];exact h.z
end
theorem turned_any (w:World)(d:De)(u:Ws):Calls Tryz.prog 95 #[deV d,wsV u] w fun e w'=>e = .returned (deV (turnD d u))∧Below w.heap.size w w':=by
 obtain⟨wb,hwb⟩:∃wb,wb=w3b w d u:=⟨_,rfl⟩
 have h:=bxs_new w d u
 rw[←hwb] at h
 have ka:=isAcc_any wb d
 have HN:Hid (∀W,Below wb.heap.size wb W→Bxs w W d u zDe):=fun W q=>h.below q
 obtain⟨x0,x1,x2⟩:=h.x.ce
 have kd:=fun W=>dataOf_any W undW (bits .andNot .i64 (bits .xor .i64 d.fl 8) 1)
 unfold undW at kd
 unfold w3b at hwb
 unfold turnD deV wsV at *
 clear h
 cases hac:accB d with
 | true =>
   rw[hac] at ka
   simp only[if_true]
   cases hz:(bits .and .i64 u.has 3 == 0) with
   | true =>
     simp only[if_true]
     clear kd
     go_enter Tryz.func95,Tryz.ntmps95
     go_upto_region 1 with fail
     rw[←hwb]
     clear hwb
     go_wp2_with fail
     refine ka.mono ?_
     rintro e w2 ⟨rfl,hB2⟩
     have hx:=HN.out w2 hB2
     obtain⟨x0,x1,x2⟩:=hx.x.ce
     obtain⟨y0,y1,y2,y3,y4⟩:=hx.y.ce
     obtain⟨z0,z1,z2⟩:=hx.z.ce
     obtain⟨f0,f1,f2⟩:=hx.z.fz
     unfold zDe at z0 z1 z2
     have HF:=(show Hid _ from hx.res d)
     clear ka hB2 hx HN
     go_wp2_with fail
     refine bodyPost_ret (res1 rfl _ _ (w.heap.size+2) 39 _ (0,0) _ rfl HF.out.z Tryz.underlying39 rfl (by kernel_rfl)) rfl ?_
     exact⟨rfl,HF.out.bel⟩
   | false =>
     simp only[Bool.false_eq_true,if_false]
     go_enter Tryz.func95,Tryz.ntmps95
     go_upto_region 1 with fail
     rw[←hwb]
     clear hwb
     go_wp2_with fail
     refine ka.mono ?_
     rintro e w2 ⟨rfl,hB2⟩
     have hx:=HN.out w2 hB2
     obtain⟨x0,x1,x2⟩:=hx.x.ce
     obtain⟨y0,y1,y2,y3,y4⟩:=hx.y.ce
     have HX2:Hid (Bxs w w2 d u zDe):=hx
     clear ka hB2 hx HN
     go_wp2_with fail
     refine(kd _).mono ?_
     rintro e w4 ⟨rfl,hB4⟩
     have hx:=HX2.out.below hB4
     obtain⟨z0,z1,z2⟩:=hx.z.ce
     obtain⟨f0,f1,f2⟩:=hx.z.fz
     unfold zDe at z0 z1 z2
     have HF:=(show Hid _ from hx.res ⟨undW,undW,bits .andNot .i64 (bits .xor .i64 d.fl 8) 1⟩)
     clear kd hB4 hx HX2
     go_wp2_with fail
     refine bodyPost_ret (res1 rfl _ _ (w.heap.size+2) 39 _ (0,0) _ rfl HF.out.z Tryz.underlying39 rfl (by kernel_rfl)) rfl ?_
     exact⟨rfl,HF.out.bel⟩
 | false =>
   rw[hac] at ka
   simp only[Bool.false_eq_true,if_false]
   cases hz:(bits .and .i64 u.has 48 == 0) with
   | true =>
     simp only[if_true]
     clear kd
     go_enter Tryz.func95,Tryz.ntmps95
     go_upto_region 1 with fail
     rw[←hwb]
     clear hwb
     go_wp2_with fail
     refine ka.mono ?_
     rintro e w2 ⟨rfl,hB2⟩
     have hx:=HN.out w2 hB2
     obtain⟨x0,x1,x2⟩:=hx.x.ce
     obtain⟨y0,y1,y2,y3,y4⟩:=hx.y.ce
     obtain⟨z0,z1,z2⟩:=hx.z.ce
     obtain⟨f0,f1,f2⟩:=hx.z.fz
     unfold zDe at z0 z1 z2
     have HF:=(show Hid _ from hx.res d)
     clear ka hB2 hx HN
     go_wp2_with fail
     refine bodyPost_ret (res1 rfl _ _ (w.heap.size+2) 39 _ (0,0) _ rfl HF.out.z Tryz.underlying39 rfl (by kernel_rfl)) rfl ?_
     exact⟨rfl,HF.out.bel⟩
   | false =>
     simp only[Bool.false_eq_true,if_false]
     go_enter Tryz.func95,Tryz.ntmps95
     go_upto_region 1 with fail
     rw[←hwb]
     clear hwb
     go_wp2_with fail
     refine ka.mono ?_
     rintro e w2 ⟨rfl,hB2⟩
     have hx:=HN.out w2 hB2
     obtain⟨x0,x1,x2⟩:=hx.x.ce
     obtain⟨y0,y1,y2,y3,y4⟩:=hx.y.ce
     have HX2:Hid (Bxs w w2 d u zDe):=hx
     clear ka hB2 hx HN
     go_wp2_with fail
     refine(kd _).mono ?_
     rintro e w4 ⟨rfl,hB4⟩
     have hx:=HX2.out.below hB4
     obtain⟨z0,z1,z2⟩:=hx.z.ce
     obtain⟨f0,f1,f2⟩:=hx.z.fz
     unfold zDe at z0 z1 z2
     have HF:=(show Hid _ from hx.res ⟨undW,undW,bits .andNot .i64 (bits .xor .i64 d.fl 8) 1⟩)
     clear kd hB4 hx HX2
     go_wp2_with fail
     refine bodyPost_ret (res1 rfl _ _ (w.heap.size+2) 39 _ (0,0) _ rfl HF.out.z Tryz.underlying39 rfl (by kernel_rfl)) rfl ?_
     exact⟨rfl,HF.out.bel⟩
def hasU (u:Ws)(c:Int):Bool:=bits .and .i64 u.has c != 0
def flagU (o:Int)(u:Ws)(c p:Int):Int:=if hasU u c=true then bits .and .i64 u.fl p else bits .and .i64 o p
theorem has_any (w:World)(u:Ws)(c:Int):Calls Tryz.prog 64 #[wsV u,.int .i64 c] w fun e w'=>e = .returned (.bool (hasU u c))∧Below w.heap.size w w':=by
 have HB:Hid (Below w.heap.size w (w.alloc (.cells #[.int .i64 u.has,.int .u64 u.va,.int .u64 u.ge,.int .u64 u.se,.int .i64 u.fl] 26))):=(Below.refl _ _).alloc (Nat.le_refl _) _
 unfold hasU wsV
 go_enter Tryz.func64,Tryz.ntmps64
 go_wp2_with fail
 go_ret
 exact⟨rfl,HB.out⟩
theorem flag_any (w:World)(o:Int)(u:Ws)(c p:Int):Calls Tryz.prog 96 #[.int .i64 o,wsV u,.int .i64 c,.int .i64 p] w fun e w'=>e = .returned (.int .i64 (flagU o u c p))∧Below w.heap.size w w':=by
 obtain⟨wb,hwb⟩:∃wb,wb=w.alloc (.cells #[.int .i64 u.has,.int .u64 u.va,.int .u64 u.ge,.int .u64 u.se,.int .i64 u.fl] 26):=⟨_,rfl⟩
 have hB:Below w.heap.size w wb:=by rw[hwb];exact(Below.refl _ _).alloc (Nat.le_refl _) _
 have hbx:Bx5 wb w.heap.size u:=by rw[hwb];exact at_new _ _
 have kh:=has_any wb u c
 obtain⟨y0,y1,y2,y3,y4⟩:=hbx.ce
 have HN:Hid (∀W,Below wb.heap.size wb W→Bx5 W w.heap.size u∧Below w.heap.size w W):=fun W q=>⟨hbx.below q,hB.trans (q.mono hB.size)⟩
 have HE:Hid (flagU o u c p=if hasU u c=true then bits .and .i64 u.fl p else bits .and .i64 o p):=rfl
 generalize flagU o u c p=R at *
 unfold wsV at *
 clear hB hbx
 cases hc:hasU u c with
 | true =>
   rw[hc] at kh
   have HR:Hid (R=bits .and .i64 u.fl p):=by show R=_;rw[HE.out,if_pos hc]
   clear HE hc
   go_enter Tryz.func96,Tryz.ntmps96
   go_upto_region 1 with fail
   rw[←hwb]
   clear hwb
   go_wp2_with fail
   refine kh.mono ?_
   rintro e w2 ⟨rfl,hB2⟩
   obtain⟨q1,q2⟩:=HN.out w2 hB2
   obtain⟨y0,y1,y2,y3,y4⟩:=q1.ce
   have HB2:Hid (Below w.heap.size w w2):=q2
   clear kh hB2 HN q1 q2
   go_wp2_with fail
   go_ret
   rw[HR.out]
   exact⟨rfl,HB2.out⟩
 | false =>
   rw[hc] at kh
   have HR:Hid (R=bits .and .i64 o p):=by show R=_;rw[HE.out,if_neg (by rw[hc];simp)]
   clear HE hc
   go_enter Tryz.func96,Tryz.ntmps96
   go_upto_region 1 with fail
   rw[←hwb]
   clear hwb
   go_wp2_with fail
   refine kh.mono ?_
   rintro e w2 ⟨rfl,hB2⟩
   have HB2:Hid (Below w.heap.size w w2):=(HN.out w2 hB2).2
   clear kh hB2 HN
   go_wp2_with fail
   go_ret
   rw[HR.out]
   exact⟨rfl,HB2.out⟩
section
variable {P:Program}{ops:Array Oper}{Q:Exit→Act→World→Prop}{md:Region.Mode}{S:World→Prop}{s:Nat}
def anyE (P:Program)(md:Region.Mode)(ops:Array Oper)(Q:Exit→Act→World→Prop)(S:World→Prop)(s:Nat):Nat→Array Bool→Act→World→Prop
 | 0,l,a,w=>Region.ready md ops l=[]∧Q .normal a w
 | n+1,l,a,w=>(Region.ready md ops l=[]→Q .normal a w)∧∀i∈Region.ready md ops l,wpOp P ops Q i (fun a' w'=>(i≠s→S w')∧anyE P md ops Q S s n (l.setIfInBounds i true) a' w') a w
theorem any_of_E:∀(n:Nat)(l:Array Bool)(a:Act)(w:World),anyE P md ops Q S s n l a w→wpAny P md ops Q n l a w
 | 0,_,_,_,h=>h
 | n+1,_,_,_,h=>⟨h.1,fun i hi=>wpOp_mono (fun a' w' r=>any_of_E n _ a' w' r.2) (h.2 i hi)⟩
def waitsB (md:Region.Mode)(ops:Array Oper)(s i:Nat):Bool:=((ops[s]?).map (fun o=>o.after.any (fun e=>Region.binds md e && e.on == i))).getD false
theorem not_s {l:Array Bool}{i j:Nat}(hw:waitsB md ops s i=true)(hi:i∈Region.ready md ops l)(hj:j∈Region.ready md ops l):j≠s:=by
 intro e
 subst e
 obtain⟨_,oj,hoj,hall⟩:=mem_ready.1 hj
 unfold waitsB at hw
 rw[hoj] at hw
 obtain⟨x,hx1,hx2⟩:=Array.any_eq_true'.1 (show oj.after.any (fun e=>Region.binds md e && e.on == i)=true from hw)
 rw[Bool.and_eq_true] at hx2
 have hon:x.on=i:=by simpa using hx2.2
 have h1:=hall x hx1 hx2.1
 rw[hon] at h1
 have h0:=(mem_ready.1 hi).1
 rcases Nat.lt_or_ge i l.size with c | c
 ·simp[c] at h0 h1
  rw[h0] at h1
  cases h1
 ·simp[Array.getElem?_eq_none c] at h1
theorem anyE_first {i:Nat}{oi:Oper}{v:Value}(hi:ops[i]?=some oi)(hsel:∀(j:Nat)(o:Oper) cs b,ops[j]?=some o→o.op ≠ .select cs b)
  (hQ:∀c a w,Q (.panic c) (a.put oi.dst v) w→Q (.panic c) a w) (hw:waitsB md ops s i=true) :
  ∀(n:Nat) (l:Array Bool) (a:Act) (w:World),
   (∀j oj,ops[j]?=some oj→j≠i→l.getD j true=false→(∀e∈oj.after,Region.binds md e=true→e.on≠i)→oi.apart ops oj=true) →
   i∈Region.ready md ops l→YieldsIf P ops S oi v a→S w→anyE P md ops Q S s n (l.setIfInBounds i true) (a.put oi.dst v) w→anyE P md ops Q S s (n+1) l a w
 | 0,l,a,w,_,hr,hy,hS,H=>by
   refine⟨fun e=>(by rw[e] at hr;cases hr),fun j hj => ?_⟩
   by_cases c:j=i
   ·rw[c]
    exact hy.wpOp hi hS ⟨fun _=>hS,H⟩
   ·have:=ready_mono hj c
    rw[H.1] at this
    cases this
 | n+1,l,a,w,hf,hr,hy,hS,H=>by
   refine⟨fun e=>(by rw[e] at hr;cases hr),fun j hj => ?_⟩
   by_cases c:j=i
   ·rw[c]
    exact hy.wpOp hi hS ⟨fun _=>hS,H⟩
   ·have hjs:=not_s hw hr hj
    have h1:=H.2 j (ready_mono hj c)
    obtain⟨hju,oj,hoj,hall⟩:=mem_ready.1 hj
    have hno:∀e∈oj.after,Region.binds md e=true→e.on≠i:=fun e he hb hq=>by
     have k1:=hall e he hb
     have k0:=(mem_ready.1 hr).1
     rw[hq] at k1
     rcases Nat.lt_or_ge i l.size with d | d
     ·simp[d] at k0 k1
      rw[k0] at k1
      cases k1
     ·simp[Array.getElem?_eq_none d] at k1
    have h2:=wpOp_putIf hoj (hf j oj hoj c hju hno) (fun cs b=>hsel i oi cs b hi) (fun cs b=>hsel j oj cs b hoj) hQ hy h1
    refine wpOp_mono (fun a' w' r=>⟨r.2.1,?_⟩) h2
    refine anyE_first hi hsel hQ hw n (l.setIfInBounds j true) a' w' (fun k ok hk hki hun hnk=>hf k ok hk hki ?_ hnk) (ready_mono hr (Ne.symm c)) r.1 (r.2.1 hjs) ?_
    ·by_cases d:j=k
     ·rw[←d];exact hju
     ·rw[getD_set_ne true d] at hun;exact hun
    ·rw[Array.setIfInBounds_comm _ _ c]
     exact r.2.2
theorem anyE_take {i:Nat}{oi:Oper}{v:Value}{n:Nat}{l:Array Bool}{a:Act}{w:World}(hi:ops[i]?=some oi)
  (hs:Region.noSelect ops=true) (hf:Region.free md ops l i=true) (hr:(Region.ready md ops l).contains i=true) (hw:waitsB md ops s i=true)
  (hQ:∀c a w,Q (.panic c) (a.put oi.dst v) w→Q (.panic c) a w) (hy:YieldsIf P ops S oi v a) (hS:S w)
  (h:anyE P md ops Q S s n (l.setIfInBounds i true) (a.put oi.dst v) w):anyE P md ops Q S s (n+1) l a w :=
 anyE_first hi (Region.noSelect_spec hs) hQ hw n l a w (Region.free_spec hi hf) (by simpa using hr) hy hS h
theorem anyE_only {i:Nat}{n:Nat}{l:Array Bool}{a:Act}{w:World}(hr:Region.ready md ops l=[i])(h:wpOp P ops Q i (fun a' w'=>(i≠s→S w')∧anyE P md ops Q S s n (l.setIfInBounds i true) a' w') a w):anyE P md ops Q S s (n+1) l a w :=
 ⟨fun e=>(by rw[hr] at e;cases e),fun j hj=>by rw[hr] at hj;rw[List.mem_singleton.1 hj];exact h⟩
theorem anyE_done {l:Array Bool}{a:Act}{w:World}(hr:Region.ready md ops l=[])(h:Q .normal a w):∀n,anyE P md ops Q S s n l a w
 | 0=>⟨hr,h⟩
 | _+1=>⟨fun _=>h,by rw[hr];simp⟩
theorem region_E {id:Nat}{a:Act}{w:World}(hm:P.follows .mixedOrders=true)(h:anyE P .any ops Q S s ops.size (Array.replicate ops.size false) a w.drew):(Code.region id ops true).wp P Q a w :=
 wp_region_any hm (any_of_E _ _ _ _ h)
end
theorem bel_dr0 {a b c:World}(h:Below a.heap.size a b)(q:Below b.drew.heap.size b.drew c):Below a.heap.size a c:=h.trans ⟨q.os,q.tape,q.output,q.size,fun k hk=>q.block k (Nat.lt_of_lt_of_le hk h.size)⟩
theorem bel_sm0 {a b c:World}(h:Below a.heap.size a b)(q:Below b.heap.size b c):Below a.heap.size a c:=h.trans ⟨q.os,q.tape,q.output,q.size,fun k hk=>q.block k (Nat.lt_of_lt_of_le hk h.size)⟩
theorem op_step {P:Program}{ops:Array Oper}{Q:Exit→Act→World→Prop}{i:Nat}{o:Oper}{K:Act→World→Prop}{a:Act}{w:World}(ho:ops[i]?=some o)
  (h:∀K':Act→World→Prop,Hid (∀a w,K a w→K' a w)→if Region.wanted o (yielded ops a.tmps)=true then Oper.wp P o a w K' Q else K' (a.put o.dst undef) w):wpOp P ops Q i K a w:=by
 have h1:=h K (show ∀a w,K a w→K a w from fun _ _ q=>q)
 unfold wpOp
 simp only[ho]
 split
 ·rename_i c
  rw[if_pos c] at h1
  exact Or.inl h1
 ·rename_i c
  rw[if_neg c] at h1
  exact h1
def P16 (w3:World)(b2 b3 b7:Nat)(kp:Int)(v:Int)(c0 c1 c4 c5 c6 c9 c10 c11 c12 c13 c14 c15 c16 c17 c18 c19 c20 c21 c22 c23 c24 c25 c26 c27 c28 c29 c30 c31 c32 c33 c34 c35 c36 c37 c38 c39 c40 c41 c42 c43 c44 c45 c46 c47 c48 c49 c50 c51 c52 c53 c54 c55 c56 c57 c58 c59 c60 c61 c62 c63 c64 c65 c66 c67 c68 c69 c70 c71 c72 c73 c74 c75 c76 c77 c78 c79 c80 c81 c82 c83 c84 c85 c86 c87 c88 c89:Value):Exit→Act→World→Prop:=fun e a w'=>match e with
 | .normal=>∃w5 u61 u62 u63 u64 u65 u66 u67 u68 u69 u70 u71 u72 u73 u74 u75 u76 u77,a=⟨#[c0,c1,.pointer (some ⟨b2,0,none⟩),.pointer (some ⟨b3,0,none⟩),c4,c5,c6,.pointer (some ⟨b7,0,none⟩),.int .i64 kp,c9,c10,c11,c12,c13,c14,c15,c16,c17,c18,c19,c20,c21,c22,c23,c24,c25,c26,c27,c28,c29,c30,c31,c32,c33,c34,c35,c36,c37,c38,c39,c40,c41,c42,c43,c44,c45,c46,c47,c48,c49,c50,c51,c52,c53,c54,c55,c56,c57,c58,c59,c60,u61,u62,u63,u64,u65,u66,u67,u68,u69,u70,u71,u72,u73,u74,u75,u76,u77,c78,c79,c80,c81,c82,c83,c84,c85,c86,c87,c88,c89],[]⟩∧w'=w5.setCell ⟨b7,2,none⟩ (.int .i64 v)∧Below w3.heap.size w3 w5
 | _=>False
theorem P16_out {w3:World}{b2 b3 b7:Nat}{kp:Int}{v:Int}{c0 c1 c4 c5 c6 c9 c10 c11 c12 c13 c14 c15 c16 c17 c18 c19 c20 c21 c22 c23 c24 c25 c26 c27 c28 c29 c30 c31 c32 c33 c34 c35 c36 c37 c38 c39 c40 c41 c42 c43 c44 c45 c46 c47 c48 c49 c50 c51 c52 c53 c54 c55 c56 c57 c58 c59 c60 c61 c62 c63 c64 c65 c66 c67 c68 c69 c70 c71 c72 c73 c74 c75 c76 c77 c78 c79 c80 c81 c82 c83 c84 c85 c86 c87 c88 c89:Value}{e:Exit}{a:Act}{w':World}(h:P16 w3 b2 b3 b7 kp v c0 c1 c4 c5 c6 c9 c10 c11 c12 c13 c14 c15 c16 c17 c18 c19 c20 c21 c22 c23 c24 c25 c26 c27 c28 c29 c30 c31 c32 c33 c34 c35 c36 c37 c38 c39 c40 c41 c42 c43 c44 c45 c46 c47 c48 c49 c50 c51 c52 c53 c54 c55 c56 c57 c58 c59 c60 c61 c62 c63 c64 c65 c66 c67 c68 c69 c70 c71 c72 c73 c74 c75 c76 c77 c78 c79 c80 c81 c82 c83 c84 c85 c86 c87 c88 c89 e a w') :
  e = .normal∧∃w5 u61 u62 u63 u64 u65 u66 u67 u68 u69 u70 u71 u72 u73 u74 u75 u76 u77,a=⟨#[c0,c1,.pointer (some ⟨b2,0,none⟩),.pointer (some ⟨b3,0,none⟩),c4,c5,c6,.pointer (some ⟨b7,0,none⟩),.int .i64 kp,c9,c10,c11,c12,c13,c14,c15,c16,c17,c18,c19,c20,c21,c22,c23,c24,c25,c26,c27,c28,c29,c30,c31,c32,c33,c34,c35,c36,c37,c38,c39,c40,c41,c42,c43,c44,c45,c46,c47,c48,c49,c50,c51,c52,c53,c54,c55,c56,c57,c58,c59,c60,u61,u62,u63,u64,u65,u66,u67,u68,u69,u70,u71,u72,u73,u74,u75,u76,u77,c78,c79,c80,c81,c82,c83,c84,c85,c86,c87,c88,c89],[]⟩∧w'=w5.setCell ⟨b7,2,none⟩ (.int .i64 v)∧Below w3.heap.size w3 w5:=by
 cases e <;> first | exact⟨rfl,h⟩ | exact False.elim h
theorem wreg16 (w3:World)(b2 b3 b7:Nat)(kp:Int)(of df:Int)(u:Ws)(OV OS DV DS:Int)(hx:Bx3 w3 b2 ⟨OV,OS,of⟩)(hy:Bx5 w3 b3 u)(hz:Bx3 w3 b7 ⟨DV,DS,df⟩)
  (c0 c1 c4 c5 c6 c9 c10 c11 c12 c13 c14 c15 c16 c17 c18 c19 c20 c21 c22 c23 c24 c25 c26 c27 c28 c29 c30 c31 c32 c33 c34 c35 c36 c37 c38 c39 c40 c41 c42 c43 c44 c45 c46 c47 c48 c49 c50 c51 c52 c53 c54 c55 c56 c57 c58 c59 c60 c61 c62 c63 c64 c65 c66 c67 c68 c69 c70 c71 c72 c73 c74 c75 c76 c77 c78 c79 c80 c81 c82 c83 c84 c85 c86 c87 c88 c89:Value) :
  Code.wp Tryz.prog ((Tryz.f66.body.bind (regN 16)).getD .skip) (P16 w3 b2 b3 b7 kp (bits .or .i64 (bits .or .i64 (bits .or .i64 kp (flagU df u 2 1)) (flagU of u 4 2)) (flagU of u 8 4)) c0 c1 c4 c5 c6 c9 c10 c11 c12 c13 c14 c15 c16 c17 c18 c19 c20 c21 c22 c23 c24 c25 c26 c27 c28 c29 c30 c31 c32 c33 c34 c35 c36 c37 c38 c39 c40 c41 c42 c43 c44 c45 c46 c47 c48 c49 c50 c51 c52 c53 c54 c55 c56 c57 c58 c59 c60 c61 c62 c63 c64 c65 c66 c67 c68 c69 c70 c71 c72 c73 c74 c75 c76 c77 c78 c79 c80 c81 c82 c83 c84 c85 c86 c87 c88 c89) ⟨#[c0,c1,.pointer (some ⟨b2,0,none⟩),.pointer (some ⟨b3,0,none⟩),c4,c5,c6,.pointer (some ⟨b7,0,none⟩),.int .i64 kp,c9,c10,c11,c12,c13,c14,c15,c16,c17,c18,c19,c20,c21,c22,c23,c24,c25,c26,c27,c28,c29,c30,c31,c32,c33,c34,c35,c36,c37,c38,c39,c40,c41,c42,c43,c44,c45,c46,c47,c48,c49,c50,c51,c52,c53,c54,c55,c56,c57,c58,c59,c60,c61,c62,c63,c64,c65,c66,c67,c68,c69,c70,c71,c72,c73,c74,c75,c76,c77,c78,c79,c80,c81,c82,c83,c84,c85,c86,c87,c88,c89],[]⟩ w3:=by
 have HN:Hid (∀W,Below w3.heap.size w3 W→(W.cell? ⟨b2,2,none⟩=some (.int .i64 of)∧W.cell? ⟨b3,0,none⟩=some (.int .i64 u.has)∧W.cell? ⟨b3,1,none⟩=some (.int .u64 u.va)∧W.cell? ⟨b3,2,none⟩=some (.int .u64 u.ge)∧W.cell? ⟨b3,3,none⟩=some (.int .u64 u.se)∧W.cell? ⟨b3,4,none⟩=some (.int .i64 u.fl)∧W.cell? ⟨b7,2,none⟩=some (.int .i64 df))∧W.frozen? ⟨b7,2,none⟩=false):=fun W q=>⟨⟨(hx.below q).ce.2.2,(hy.below q).ce.1,(hy.below q).ce.2.1,(hy.below q).ce.2.2.1,(hy.below q).ce.2.2.2.1,(hy.below q).ce.2.2.2.2,(hz.below q).ce.2.2⟩,(hz.below q).fz.2.2⟩
 have k1:=fun W=>flag_any W df u 2 1
 have k2:=fun W=>flag_any W of u 4 2
 have k3:=fun W=>flag_any W of u 8 4
 generalize flagU df u 2 1=r1 at *
 generalize flagU of u 4 2=r2 at *
 generalize flagU of u 8 4=r3 at *
 unfold wsV at k1 k2 k3
 clear hx hy hz
 conv=>arg 2;whnf
 have hS:(fun W:World=>W.cell? ⟨b2,2,none⟩=some (.int .i64 of)∧W.cell? ⟨b3,0,none⟩=some (.int .i64 u.has)∧W.cell? ⟨b3,1,none⟩=some (.int .u64 u.va)∧W.cell? ⟨b3,2,none⟩=some (.int .u64 u.ge)∧W.cell? ⟨b3,3,none⟩=some (.int .u64 u.se)∧W.cell? ⟨b3,4,none⟩=some (.int .i64 u.fl)∧W.cell? ⟨b7,2,none⟩=some (.int .i64 df)) w3.drew:=(HN.out w3.drew (Below.refl _ _).drew).1
 refine region_E (S:=fun W:World=>W.cell? ⟨b2,2,none⟩=some (.int .i64 of)∧W.cell? ⟨b3,0,none⟩=some (.int .i64 u.has)∧W.cell? ⟨b3,1,none⟩=some (.int .u64 u.va)∧W.cell? ⟨b3,2,none⟩=some (.int .u64 u.ge)∧W.cell? ⟨b3,3,none⟩=some (.int .u64 u.se)∧W.cell? ⟨b3,4,none⟩=some (.int .i64 u.fl)∧W.cell? ⟨b7,2,none⟩=some (.int .i64 df)) (s:=17) (by kernel_rfl) ?_
 refine anyE_take (i:=0) (v := ?_) rfl (by kernel_rfl) (by kernel_rfl) (by kernel_rfl) (by kernel_rfl) (fun _ _ _ h=>h) (Or.inl ⟨by rfl,?_⟩) hS ?_
 rotate_left
 ·intro W hSW
  obtain⟨q0,q1,q2,q3,q4,q5,q6⟩:=hSW
  go_simp
  all_goals (with_reducible rfl)
 simp only[Act.put]
 refine anyE_take (i:=1) (v := ?_) rfl (by kernel_rfl) (by kernel_rfl) (by kernel_rfl) (by kernel_rfl) (fun _ _ _ h=>h) (Or.inl ⟨by rfl,?_⟩) hS ?_
 rotate_left
 ·intro W hSW
  obtain⟨q0,q1,q2,q3,q4,q5,q6⟩:=hSW
  go_simp
  all_goals (with_reducible rfl)
 simp only[Act.put]
 refine anyE_take (i:=6) (v := ?_) rfl (by kernel_rfl) (by kernel_rfl) (by kernel_rfl) (by kernel_rfl) (fun _ _ _ h=>h) (Or.inl ⟨by rfl,?_⟩) hS ?_
 rotate_left
 ·intro W hSW
  obtain⟨q0,q1,q2,q3,q4,q5,q6⟩:=hSW
  go_simp
  all_goals (with_reducible rfl)
 simp only[Act.put]
 refine anyE_take (i:=11) (v := ?_) rfl (by kernel_rfl) (by kernel_rfl) (by kernel_rfl) (by kernel_rfl) (fun _ _ _ h=>h) (Or.inl ⟨by rfl,?_⟩) hS ?_
 rotate_left
 ·intro W hSW
  obtain⟨q0,q1,q2,q3,q4,q5,q6⟩:=hSW
  go_simp
  all_goals (with_reducible rfl)
 simp only[Act.put]
 refine anyE_take (i:=2) (v := ?_) rfl (by kernel_rfl) (by kernel_rfl) (by kernel_rfl) (by kernel_rfl) (fun _ _ _ h=>h) (Or.inl ⟨by rfl,?_⟩) hS ?_
 rotate_left
 ·intro W hSW
  obtain⟨q0,q1,q2,q3,q4,q5,q6⟩:=hSW
  go_simp
  all_goals (with_reducible rfl)
 simp only[Act.put]
 refine anyE_take (i:=3) (v := ?_) rfl (by kernel_rfl) (by kernel_rfl) (by kernel_rfl) (by kernel_rfl) (fun _ _ _ h=>h) (Or.inl ⟨by rfl,?_⟩) hS ?_
 rotate_left
 ·intro W hSW
  obtain⟨q0,q1,q2,q3,q4,q5,q6⟩:=hSW
  go_simp
  all_goals (with_reducible rfl)
 simp only[Act.put]
 refine anyE_take (i:=7) (v := ?_) rfl (by kernel_rfl) (by kernel_rfl) (by kernel_rfl) (by kernel_rfl) (fun _ _ _ h=>h) (Or.inl ⟨by rfl,?_⟩) hS ?_
 rotate_left
 ·intro W hSW
  obtain⟨q0,q1,q2,q3,q4,q5,q6⟩:=hSW
  go_simp
  all_goals (with_reducible rfl)
 simp only[Act.put]
 refine anyE_take (i:=8) (v := ?_) rfl (by kernel_rfl) (by kernel_rfl) (by kernel_rfl) (by kernel_rfl) (fun _ _ _ h=>h) (Or.inl ⟨by rfl,?_⟩) hS ?_
 rotate_left
 ·intro W hSW
  obtain⟨q0,q1,q2,q3,q4,q5,q6⟩:=hSW
  go_simp
  all_goals (with_reducible rfl)
 simp only[Act.put]
 refine anyE_take (i:=12) (v := ?_) rfl (by kernel_rfl) (by kernel_rfl) (by kernel_rfl) (by kernel_rfl) (fun _ _ _ h=>h) (Or.inl ⟨by rfl,?_⟩) hS ?_
 rotate_left
 ·intro W hSW
  obtain⟨q0,q1,q2,q3,q4,q5,q6⟩:=hSW
  go_simp
  all_goals (with_reducible rfl)
 simp only[Act.put]
 refine anyE_take (i:=13) (v := ?_) rfl (by kernel_rfl) (by kernel_rfl) (by kernel_rfl) (by kernel_rfl) (fun _ _ _ h=>h) (Or.inl ⟨by rfl,?_⟩) hS ?_
 rotate_left
 ·intro W hSW
  obtain⟨q0,q1,q2,q3,q4,q5,q6⟩:=hSW
  go_simp
  all_goals (with_reducible rfl)
 simp only[Act.put]
 refine anyE_only (i:=4) (by kernel_rfl) (op_step rfl (fun K hK => ?_))
 go_simp
 refine(k1 _).mono ?_
 rintro e w5 ⟨rfl,hB5⟩
 have HBw5:Hid (Below w3.heap.size w3 w5):=bel_dr0 (Below.refl _ _) hB5
 clear hB5 hS
 refine hK.out _ _ ⟨fun _=>(HN.out w5 HBw5.out).1,?_⟩
 have hS:=(HN.out w5 HBw5.out).1
 clear hK K
 refine anyE_take (i:=5) (v := ?_) rfl (by kernel_rfl) (by kernel_rfl) (by kernel_rfl) (by kernel_rfl) (fun _ _ _ h=>h) (Or.inl ⟨by rfl,?_⟩) hS ?_
 rotate_left
 ·intro W hSW
  obtain⟨q0,q1,q2,q3,q4,q5,q6⟩:=hSW
  go_simp
  all_goals (with_reducible rfl)
 simp only[Act.put]
 refine anyE_only (i:=9) (by kernel_rfl) (op_step rfl (fun K hK => ?_))
 go_simp
 refine(k2 _).mono ?_
 rintro e w6 ⟨rfl,hB5⟩
 have HBw6:Hid (Below w3.heap.size w3 w6):=bel_sm0 HBw5.out hB5
 clear hB5 hS
 refine hK.out _ _ ⟨fun _=>(HN.out w6 HBw6.out).1,?_⟩
 have hS:=(HN.out w6 HBw6.out).1
 clear hK K
 refine anyE_take (i:=10) (v := ?_) rfl (by kernel_rfl) (by kernel_rfl) (by kernel_rfl) (by kernel_rfl) (fun _ _ _ h=>h) (Or.inl ⟨by rfl,?_⟩) hS ?_
 rotate_left
 ·intro W hSW
  obtain⟨q0,q1,q2,q3,q4,q5,q6⟩:=hSW
  go_simp
  all_goals (with_reducible rfl)
 simp only[Act.put]
 refine anyE_only (i:=14) (by kernel_rfl) (op_step rfl (fun K hK => ?_))
 go_simp
 refine(k3 _).mono ?_
 rintro e w7 ⟨rfl,hB5⟩
 have HBw7:Hid (Below w3.heap.size w3 w7):=bel_sm0 HBw6.out hB5
 clear hB5 hS
 refine hK.out _ _ ⟨fun _=>(HN.out w7 HBw7.out).1,?_⟩
 have hS:=(HN.out w7 HBw7.out).1
 clear hK K
 refine anyE_take (i:=15) (v := ?_) rfl (by kernel_rfl) (by kernel_rfl) (by kernel_rfl) (by kernel_rfl) (fun _ _ _ h=>h) (Or.inl ⟨by rfl,?_⟩) hS ?_
 rotate_left
 ·intro W hSW
  obtain⟨q0,q1,q2,q3,q4,q5,q6⟩:=hSW
  go_simp
  all_goals (with_reducible rfl)
 simp only[Act.put]
 refine anyE_take (i:=16) (v := ?_) rfl (by kernel_rfl) (by kernel_rfl) (by kernel_rfl) (by kernel_rfl) (fun _ _ _ h=>h) (Or.inl ⟨by rfl,?_⟩) hS ?_
 rotate_left
 ·intro W hSW
  obtain⟨q0,q1,q2,q3,q4,q5,q6⟩:=hSW
  go_simp
  all_goals (with_reducible rfl)
 simp only[Act.put]
 refine anyE_only (i:=17) (by kernel_rfl) (op_step rfl (fun K hK => ?_))
 have zf:=(HN.out w7 HBw7.out).2
 obtain⟨q0,q1,q2,q3,q4,q5,q6⟩:=hS
 go_simp
 refine hK.out _ _ ⟨fun e=>absurd rfl e,?_⟩
 refine anyE_done (by kernel_rfl) ?_ _
 exact⟨w7,_,_,_,_,_,_,_,_,_,_,_,_,_,_,_,_,_,rfl,rfl,HBw7.out⟩
def P6 (w3:World)(b2 b3 b6:Nat)(v:Int)(c0 c1 c4 c5 c7 c8 c9 c10 c11 c12 c13 c14 c15 c16 c17 c18 c19 c20 c21 c22 c23 c24 c25 c26 c27 c28 c29 c30 c31 c32 c33 c34 c35 c36 c37 c38 c39 c40 c41 c42 c43 c44 c45 c46 c47 c48 c49 c50 c51 c52 c53 c54 c55 c56 c57 c58 c59 c60 c61 c62 c63 c64 c65 c66 c67 c68 c69 c70 c71 c72 c73 c74 c75 c76 c77 c78 c79 c80 c81 c82 c83 c84 c85 c86 c87 c88 c89:Value):Exit→Act→World→Prop:=fun e a w'=>match e with
 | .normal=>∃w5 u22 u23 u24 u25 u26 u27 u28 u29 u30 u31 u32,a=⟨#[c0,c1,.pointer (some ⟨b2,0,none⟩),.pointer (some ⟨b3,0,none⟩),c4,c5,.pointer (some ⟨b6,0,none⟩),c7,c8,c9,c10,c11,c12,c13,c14,c15,c16,c17,c18,c19,c20,c21,u22,u23,u24,u25,u26,u27,u28,u29,u30,u31,u32,c33,c34,c35,c36,c37,c38,c39,c40,c41,c42,c43,c44,c45,c46,c47,c48,c49,c50,c51,c52,c53,c54,c55,c56,c57,c58,c59,c60,c61,c62,c63,c64,c65,c66,c67,c68,c69,c70,c71,c72,c73,c74,c75,c76,c77,c78,c79,c80,c81,c82,c83,c84,c85,c86,c87,c88,c89],[]⟩∧w'=w5.setCell ⟨b6,2,none⟩ (.int .i64 v)∧Below w3.heap.size w3 w5
 | _=>False
theorem P6_out {w3:World}{b2 b3 b6:Nat}{v:Int}{c0 c1 c4 c5 c7 c8 c9 c10 c11 c12 c13 c14 c15 c16 c17 c18 c19 c20 c21 c22 c23 c24 c25 c26 c27 c28 c29 c30 c31 c32 c33 c34 c35 c36 c37 c38 c39 c40 c41 c42 c43 c44 c45 c46 c47 c48 c49 c50 c51 c52 c53 c54 c55 c56 c57 c58 c59 c60 c61 c62 c63 c64 c65 c66 c67 c68 c69 c70 c71 c72 c73 c74 c75 c76 c77 c78 c79 c80 c81 c82 c83 c84 c85 c86 c87 c88 c89:Value}{e:Exit}{a:Act}{w':World}(h:P6 w3 b2 b3 b6 v c0 c1 c4 c5 c7 c8 c9 c10 c11 c12 c13 c14 c15 c16 c17 c18 c19 c20 c21 c22 c23 c24 c25 c26 c27 c28 c29 c30 c31 c32 c33 c34 c35 c36 c37 c38 c39 c40 c41 c42 c43 c44 c45 c46 c47 c48 c49 c50 c51 c52 c53 c54 c55 c56 c57 c58 c59 c60 c61 c62 c63 c64 c65 c66 c67 c68 c69 c70 c71 c72 c73 c74 c75 c76 c77 c78 c79 c80 c81 c82 c83 c84 c85 c86 c87 c88 c89 e a w') :
  e = .normal∧∃w5 u22 u23 u24 u25 u26 u27 u28 u29 u30 u31 u32,a=⟨#[c0,c1,.pointer (some ⟨b2,0,none⟩),.pointer (some ⟨b3,0,none⟩),c4,c5,.pointer (some ⟨b6,0,none⟩),c7,c8,c9,c10,c11,c12,c13,c14,c15,c16,c17,c18,c19,c20,c21,u22,u23,u24,u25,u26,u27,u28,u29,u30,u31,u32,c33,c34,c35,c36,c37,c38,c39,c40,c41,c42,c43,c44,c45,c46,c47,c48,c49,c50,c51,c52,c53,c54,c55,c56,c57,c58,c59,c60,c61,c62,c63,c64,c65,c66,c67,c68,c69,c70,c71,c72,c73,c74,c75,c76,c77,c78,c79,c80,c81,c82,c83,c84,c85,c86,c87,c88,c89],[]⟩∧w'=w5.setCell ⟨b6,2,none⟩ (.int .i64 v)∧Below w3.heap.size w3 w5:=by
 cases e <;> first | exact⟨rfl,h⟩ | exact False.elim h
theorem wreg6 (w3:World)(b2 b3 b6:Nat)(of df:Int)(u:Ws)(OV OS DV DS:Int)(hx:Bx3 w3 b2 ⟨OV,OS,of⟩)(hy:Bx5 w3 b3 u)(hz:Bx3 w3 b6 ⟨DV,DS,df⟩)
  (c0 c1 c4 c5 c7 c8 c9 c10 c11 c12 c13 c14 c15 c16 c17 c18 c19 c20 c21 c22 c23 c24 c25 c26 c27 c28 c29 c30 c31 c32 c33 c34 c35 c36 c37 c38 c39 c40 c41 c42 c43 c44 c45 c46 c47 c48 c49 c50 c51 c52 c53 c54 c55 c56 c57 c58 c59 c60 c61 c62 c63 c64 c65 c66 c67 c68 c69 c70 c71 c72 c73 c74 c75 c76 c77 c78 c79 c80 c81 c82 c83 c84 c85 c86 c87 c88 c89:Value) :
  Code.wp Tryz.prog ((Tryz.f66.body.bind (regN 6)).getD .skip) (P6 w3 b2 b3 b6 (bits .or .i64 (bits .or .i64 8 (flagU of u 4 2)) (flagU of u 8 4)) c0 c1 c4 c5 c7 c8 c9 c10 c11 c12 c13 c14 c15 c16 c17 c18 c19 c20 c21 c22 c23 c24 c25 c26 c27 c28 c29 c30 c31 c32 c33 c34 c35 c36 c37 c38 c39 c40 c41 c42 c43 c44 c45 c46 c47 c48 c49 c50 c51 c52 c53 c54 c55 c56 c57 c58 c59 c60 c61 c62 c63 c64 c65 c66 c67 c68 c69 c70 c71 c72 c73 c74 c75 c76 c77 c78 c79 c80 c81 c82 c83 c84 c85 c86 c87 c88 c89) ⟨#[c0,c1,.pointer (some ⟨b2,0,none⟩),.pointer (some ⟨b3,0,none⟩),c4,c5,.pointer (some ⟨b6,0,none⟩),c7,c8,c9,c10,c11,c12,c13,c14,c15,c16,c17,c18,c19,c20,c21,c22,c23,c24,c25,c26,c27,c28,c29,c30,c31,c32,c33,c34,c35,c36,c37,c38,c39,c40,c41,c42,c43,c44,c45,c46,c47,c48,c49,c50,c51,c52,c53,c54,c55,c56,c57,c58,c59,c60,c61,c62,c63,c64,c65,c66,c67,c68,c69,c70,c71,c72,c73,c74,c75,c76,c77,c78,c79,c80,c81,c82,c83,c84,c85,c86,c87,c88,c89],[]⟩ w3:=by
 have HN:Hid (∀W,Below w3.heap.size w3 W→(W.cell? ⟨b2,2,none⟩=some (.int .i64 of)∧W.cell? ⟨b3,0,none⟩=some (.int .i64 u.has)∧W.cell? ⟨b3,1,none⟩=some (.int .u64 u.va)∧W.cell? ⟨b3,2,none⟩=some (.int .u64 u.ge)∧W.cell? ⟨b3,3,none⟩=some (.int .u64 u.se)∧W.cell? ⟨b3,4,none⟩=some (.int .i64 u.fl)∧W.cell? ⟨b6,2,none⟩=some (.int .i64 df))∧W.frozen? ⟨b6,2,none⟩=false):=fun W q=>⟨⟨(hx.below q).ce.2.2,(hy.below q).ce.1,(hy.below q).ce.2.1,(hy.below q).ce.2.2.1,(hy.below q).ce.2.2.2.1,(hy.below q).ce.2.2.2.2,(hz.below q).ce.2.2⟩,(hz.below q).fz.2.2⟩
 have k2:=fun W=>flag_any W of u 4 2
 have k3:=fun W=>flag_any W of u 8 4
 generalize flagU of u 4 2=r2 at *
 generalize flagU of u 8 4=r3 at *
 unfold wsV at k2 k3
 clear hx hy hz
 conv=>arg 2;whnf
 have hS:(fun W:World=>W.cell? ⟨b2,2,none⟩=some (.int .i64 of)∧W.cell? ⟨b3,0,none⟩=some (.int .i64 u.has)∧W.cell? ⟨b3,1,none⟩=some (.int .u64 u.va)∧W.cell? ⟨b3,2,none⟩=some (.int .u64 u.ge)∧W.cell? ⟨b3,3,none⟩=some (.int .u64 u.se)∧W.cell? ⟨b3,4,none⟩=some (.int .i64 u.fl)∧W.cell? ⟨b6,2,none⟩=some (.int .i64 df)) w3.drew:=(HN.out w3.drew (Below.refl _ _).drew).1
 refine region_E (S:=fun W:World=>W.cell? ⟨b2,2,none⟩=some (.int .i64 of)∧W.cell? ⟨b3,0,none⟩=some (.int .i64 u.has)∧W.cell? ⟨b3,1,none⟩=some (.int .u64 u.va)∧W.cell? ⟨b3,2,none⟩=some (.int .u64 u.ge)∧W.cell? ⟨b3,3,none⟩=some (.int .u64 u.se)∧W.cell? ⟨b3,4,none⟩=some (.int .i64 u.fl)∧W.cell? ⟨b6,2,none⟩=some (.int .i64 df)) (s:=11) (by kernel_rfl) ?_
 refine anyE_take (i:=0) (v := ?_) rfl (by kernel_rfl) (by kernel_rfl) (by kernel_rfl) (by kernel_rfl) (fun _ _ _ h=>h) (Or.inl ⟨by rfl,?_⟩) hS ?_
 rotate_left
 ·intro W hSW
  obtain⟨q0,q1,q2,q3,q4,q5,q6⟩:=hSW
  go_simp
  all_goals (with_reducible rfl)
 simp only[Act.put]
 refine anyE_take (i:=5) (v := ?_) rfl (by kernel_rfl) (by kernel_rfl) (by kernel_rfl) (by kernel_rfl) (fun _ _ _ h=>h) (Or.inl ⟨by rfl,?_⟩) hS ?_
 rotate_left
 ·intro W hSW
  obtain⟨q0,q1,q2,q3,q4,q5,q6⟩:=hSW
  go_simp
  all_goals (with_reducible rfl)
 simp only[Act.put]
 refine anyE_take (i:=1) (v := ?_) rfl (by kernel_rfl) (by kernel_rfl) (by kernel_rfl) (by kernel_rfl) (fun _ _ _ h=>h) (Or.inl ⟨by rfl,?_⟩) hS ?_
 rotate_left
 ·intro W hSW
  obtain⟨q0,q1,q2,q3,q4,q5,q6⟩:=hSW
  go_simp
  all_goals (with_reducible rfl)
 simp only[Act.put]
 refine anyE_take (i:=2) (v := ?_) rfl (by kernel_rfl) (by kernel_rfl) (by kernel_rfl) (by kernel_rfl) (fun _ _ _ h=>h) (Or.inl ⟨by rfl,?_⟩) hS ?_
 rotate_left
 ·intro W hSW
  obtain⟨q0,q1,q2,q3,q4,q5,q6⟩:=hSW
  go_simp
  all_goals (with_reducible rfl)
 simp only[Act.put]
 refine anyE_take (i:=6) (v := ?_) rfl (by kernel_rfl) (by kernel_rfl) (by kernel_rfl) (by kernel_rfl) (fun _ _ _ h=>h) (Or.inl ⟨by rfl,?_⟩) hS ?_
 rotate_left
 ·intro W hSW
  obtain⟨q0,q1,q2,q3,q4,q5,q6⟩:=hSW
  go_simp
  all_goals (with_reducible rfl)
 simp only[Act.put]
 refine anyE_take (i:=7) (v := ?_) rfl (by kernel_rfl) (by kernel_rfl) (by kernel_rfl) (by kernel_rfl) (fun _ _ _ h=>h) (Or.inl ⟨by rfl,?_⟩) hS ?_
 rotate_left
 ·intro W hSW
  obtain⟨q0,q1,q2,q3,q4,q5,q6⟩:=hSW
  go_simp
  all_goals (with_reducible rfl)
 simp only[Act.put]
 refine anyE_only (i:=3) (by kernel_rfl) (op_step rfl (fun K hK => ?_))
 go_simp
 refine(k2 _).mono ?_
 rintro e w6 ⟨rfl,hB5⟩
 have HBw6:Hid (Below w3.heap.size w3 w6):=bel_dr0 (Below.refl _ _) hB5
 clear hB5 hS
 refine hK.out _ _ ⟨fun _=>(HN.out w6 HBw6.out).1,?_⟩
 have hS:=(HN.out w6 HBw6.out).1
 clear hK K
 refine anyE_take (i:=4) (v := ?_) rfl (by kernel_rfl) (by kernel_rfl) (by kernel_rfl) (by kernel_rfl) (fun _ _ _ h=>h) (Or.inl ⟨by rfl,?_⟩) hS ?_
 rotate_left
 ·intro W hSW
  obtain⟨q0,q1,q2,q3,q4,q5,q6⟩:=hSW
  go_simp
  all_goals (with_reducible rfl)
 simp only[Act.put]
 refine anyE_only (i:=8) (by kernel_rfl) (op_step rfl (fun K hK => ?_))
 go_simp
 refine(k3 _).mono ?_
 rintro e w7 ⟨rfl,hB5⟩
 have HBw7:Hid (Below w3.heap.size w3 w7):=bel_sm0 HBw6.out hB5
 clear hB5 hS
 refine hK.out _ _ ⟨fun _=>(HN.out w7 HBw7.out).1,?_⟩
 have hS:=(HN.out w7 HBw7.out).1
 clear hK K
 refine anyE_take (i:=9) (v := ?_) rfl (by kernel_rfl) (by kernel_rfl) (by kernel_rfl) (by kernel_rfl) (fun _ _ _ h=>h) (Or.inl ⟨by rfl,?_⟩) hS ?_
 rotate_left
 ·intro W hSW
  obtain⟨q0,q1,q2,q3,q4,q5,q6⟩:=hSW
  go_simp
  all_goals (with_reducible rfl)
 simp only[Act.put]
 refine anyE_take (i:=10) (v := ?_) rfl (by kernel_rfl) (by kernel_rfl) (by kernel_rfl) (by kernel_rfl) (fun _ _ _ h=>h) (Or.inl ⟨by rfl,?_⟩) hS ?_
 rotate_left
 ·intro W hSW
  obtain⟨q0,q1,q2,q3,q4,q5,q6⟩:=hSW
  go_simp
  all_goals (with_reducible rfl)
 simp only[Act.put]
 refine anyE_only (i:=11) (by kernel_rfl) (op_step rfl (fun K hK => ?_))
 have zf:=(HN.out w7 HBw7.out).2
 obtain⟨q0,q1,q2,q3,q4,q5,q6⟩:=hS
 go_simp
 refine hK.out _ _ ⟨fun e=>absurd rfl e,?_⟩
 refine anyE_done (by kernel_rfl) ?_ _
 exact⟨w7,_,_,_,_,_,_,_,_,_,_,_,rfl,rfl,HBw7.out⟩
end Go.Proofs.YtahhionlbfhinabGreatDoor.Hp
