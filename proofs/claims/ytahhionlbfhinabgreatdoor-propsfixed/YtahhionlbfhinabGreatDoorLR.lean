/- LR -/
import Derived.Test.YtahhionlbfhinabGreatDoorB28
set_option linter.unusedVariables false
set_option linter.unusedSimpArgs false
set_option maxRecDepth 100000
set_option maxHeartbeats 40000000
namespace Go.Proofs.YtahhionlbfhinabGreatDoor.Hp
open Go.RowKit
def rbase (d:De):De:=if accB d=true then d else ⟨undW,undW,0⟩
def rconv (d:De)(u:Ws):De:=if accB d=true∧(hasU u 1=true∨hasU u 2=true) then ⟨undW,undW,bits .and .i64 d.fl 6⟩ else d
def rflags (d:De)(u:Ws)(e:De):Int:=bits .or .i64 (bits .or .i64 (bits .or .i64 (bits .and .i64 e.fl 8) (flagU e.fl u 2 1)) (flagU d.fl u 4 2)) (flagU d.fl u 8 4)
def rWishD (d:De)(u:Ws):De :=
 if hasU u 16=true∨hasU u 32=true then ⟨if hasU u 16=true then u.ge else (rbase d).va,if hasU u 32=true then u.se else (rbase d).se,bits .or .i64 (bits .or .i64 8 (flagU d.fl u 4 2)) (flagU d.fl u 8 4)⟩
 else ⟨if hasU u 1=true then u.va else (rconv d u).va,(rconv d u).se,if (bits .and .i64 (rconv d u).fl 8 != 0)=true then bits .or .i64 (rflags d u (rconv d u)) 8 else rflags d u (rconv d u)⟩
theorem and6_8 (n:Int):(bits .and .i64 (bits .and .i64 n 6) 8 != 0)=false:=by
 have h1:bits .and .i64 (bits .and .i64 n 6) 8=0:=by
  have h6:(BitVec.ofInt 64 n &&& BitVec.ofInt 64 6).toNat≤6:=by rw[BitVec.toNat_and];exact Nat.le_trans Nat.and_le_right (by decide)
  have k:bits .and .i64 n 6=(((BitVec.ofInt 64 n &&& BitVec.ofInt 64 6).toNat:Nat):Int):=by
   show IntKind.i64.wrap (((BitVec.ofInt 64 n &&& BitVec.ofInt 64 6).toNat:Nat):Int)=_
   rw[IntKind.wrap_i64]
   omega
  rw[k]
  show IntKind.i64.wrap ((BitVec.ofInt 64 (((BitVec.ofInt 64 n &&& BitVec.ofInt 64 6).toNat:Nat):Int) &&& BitVec.ofInt 64 8).toNat:Nat)=0
  rw[BitVec.ofInt_natCast,BitVec.ofNat_toNat,BitVec.setWidth_eq,BitVec.and_assoc]
  rw[show(BitVec.ofInt 64 6 &&& BitVec.ofInt 64 8:BitVec 64)=0 from by decide]
  simp
  decide
 rw[h1]
 rfl
structure WiS (w W:World)(d:De)(u:Ws)(b:Nat)(e:De):Prop where
 bx:Bxs w W d u zDe
 x:Bx3 W b e
 lo:w.heap.size+3≤b
section
variable {w W W':World}{d e:De}{u:Ws}{b:Nat}
theorem WiS.below (h:WiS w W d u b e)(hb:Below W.heap.size W W'):WiS w W' d u b e:=⟨h.bx.below hb,h.x.below hb,h.lo⟩
theorem WiS.one (h:WiS w W d u b e)(j:Nat)(v:Value){e':De}(hx:Bx3 (W.setCell ⟨b,j,none⟩ v) b e'):WiS w (W.setCell ⟨b,j,none⟩ v) d u b e':=by
 have:=h.lo
 refine⟨⟨?_,?_,?_,h.bx.bel.setCell (by show w.heap.size≤b;omega) _⟩,hx,h.lo⟩
 ·unfold Bx3;rw[heap_other _ _ _ (by show w.heap.size≠b;omega)];exact h.bx.x
 ·unfold Bx5;rw[heap_other _ _ _ (by show w.heap.size+1≠b;omega)];exact h.bx.y
 ·unfold Bx3;rw[heap_other _ _ _ (by show w.heap.size+2≠b;omega)];exact h.bx.z
theorem WiS.whole (h:WiS w W d u b e)(e':De):WiS w (st3 W b e') d u b e':=by
 have:=h.lo
 refine⟨⟨?_,?_,?_,st3_below h.bx.bel (by omega) _⟩,h.x.put _,h.lo⟩
 ·unfold Bx3;rw[st3_other _ _ _ (by omega)];exact h.bx.x
 ·unfold Bx5;rw[st3_other _ _ _ (by omega)];exact h.bx.y
 ·unfold Bx3;rw[st3_other _ _ _ (by omega)];exact h.bx.z
theorem WiS.new (h:Bxs w W d u zDe)(e:De):WiS w (W.alloc (.cells #[.int .u64 e.va,.int .u64 e.se,.int .i64 e.fl] 39)) d u W.heap.size e:=by
 have hl:=h.z.lt
 exact⟨h.below ((Below.refl _ _).alloc (Nat.le_refl _) _),Bx3.box W e,by omega⟩
end
theorem rwished_any (w:World)(d:De)(u:Ws):Calls Tryz.prog 66 #[deV d,wsV u] w fun e w'=>e = .returned (deV (rWishD d u))∧Below w.heap.size w w':=by
 obtain⟨wb,hwb⟩:∃wb,wb=w3b w d u:=⟨_,rfl⟩
 have h:=bxs_new w d u
 rw[←hwb] at h
 have HB0:Hid (Bxs w wb d u zDe):=h
 obtain⟨x0,x1,x2⟩:=h.x.ce
 obtain⟨y0,y1,y2,y3,y4⟩:=h.y.ce
 have HE:Hid (rWishD d u=rWishD d u):=rfl
 generalize hR:rWishD d u=R at HE ⊢
 have HE:Hid (R=rWishD d u):=hR.symm
 clear hR h
 have kh16:=fun W=>has_any W u 16
 have kh32:=fun W=>has_any W u 32
 have kh1:=fun W=>has_any W u 1
 have kh2:=fun W=>has_any W u 2
 unfold w3b at hwb
 unfold deV wsV at *
 cases hac:accB d with
 | true =>
   have hk:(bits .and .i64 d.fl 8 != 0)=true:=hac
   cases a16:hasU u 16 with
   | true =>
     rw[a16] at kh16
     cases a32:hasU u 32 with
     | true =>
       rw[a32] at kh32
       have HR:Hid (R=⟨u.ge,u.se,(bits .or .i64 (bits .or .i64 8 (flagU d.fl u 4 2)) (flagU d.fl u 8 4))⟩):=by
        show R=_
        rw[HE.out]
        unfold rWishD rbase
        rw[if_pos (by exact Or.inl a16),if_pos a16,if_pos a32]
       clear HE
       go_enter Tryz.func66,Tryz.ntmps66
       go_upto_region 1 with fail
       rw[←hwb]
       clear hwb
       go_wp2_with fail
       refine(kh16 _).mono ?_
       rintro e wh1 ⟨rfl,hBh⟩
       have HH1:=(show Hid _ from HB0.out.below hBh)
       obtain⟨x0,x1,x2⟩:=HH1.out.x.ce
       obtain⟨y0,y1,y2,y3,y4⟩:=HH1.out.y.ce
       clear hBh HB0
       have HN0:=(show Hid _ from WiS.new HH1.out ⟨18445336698825998336,18445336698825998336,0⟩)
       go_upto_region 5 with fail
       generalize (wh1.alloc (.cells #[.int .u64 18445336698825998336,.int .u64 18445336698825998336,.int .i64 0] 39))=wt at *
       generalize wh1.heap.size=bt at *
       have HN1:=(show Hid _ from HN0.out.whole d)
       obtain⟨x0,x1,x2⟩:=HN0.out.bx.x.ce
       obtain⟨y0,y1,y2,y3,y4⟩:=HN0.out.bx.y.ce
       obtain⟨e0,e1,e2⟩:=HN0.out.x.ce
       obtain⟨ef0,ef1,ef2⟩:=HN0.out.x.fz
       go_upto_region 6 with fail
       have hst:st3 wt bt d=((wt.setCell ⟨bt,0,none⟩ (.int .u64 d.va)).setCell ⟨bt,1,none⟩ (.int .u64 d.se)).setCell ⟨bt,2,none⟩ (.int .i64 d.fl):=rfl
       rw[←hst]
       generalize st3 wt bt d=wu at *
       clear hst
       have HX6:=HN1
       refine Code.wp_mono ?_ (wreg6 wu _ _ bt d.fl _ u _ _ _ _ HX6.out.bx.x HX6.out.bx.y HX6.out.x _ _ _ _ _ _ _ _ _ _ _ _ _ _ _ _ _ _ _ _ _ _ _ _ _ _ _ _ _ _ _ _ _ _ _ _ _ _ _ _ _ _ _ _ _ _ _ _ _ _ _ _ _ _ _ _ _ _ _ _ _ _ _ _ _ _ _ _ _ _ _ _ _ _ _ _ _ _ _ _ _ _ _ _ _ _ _ )
       intro ex a6 w6 hp6
       obtain⟨rfl,w5,u22,u23,u24,u25,u26,u27,u28,u29,u30,u31,u32,rfl,rfl,hb5⟩:=P6_out hp6
       have h5:=HX6.out.below hb5
       have HN2:=(show Hid _ from h5.one 2 (.int .i64 (bits .or .i64 (bits .or .i64 8 (flagU d.fl u 4 2)) (flagU d.fl u 8 4))) (h5.x.pfl (bits .or .i64 (bits .or .i64 8 (flagU d.fl u 4 2)) (flagU d.fl u 8 4))))
       generalize (w5.setCell ⟨bt,2,none⟩ (.int .i64 (bits .or .i64 (bits .or .i64 8 (flagU d.fl u 4 2)) (flagU d.fl u 8 4))))=w6 at *
       generalize (bits .or .i64 (bits .or .i64 8 (flagU d.fl u 4 2)) (flagU d.fl u 8 4))=fl6 at *
       clear hp6 hb5 h5 HX6 x0 x1 x2 y0 y1 y2 y3 y4
       obtain⟨x0,x1,x2⟩:=HN2.out.bx.x.ce
       obtain⟨y0,y1,y2,y3,y4⟩:=HN2.out.bx.y.ce
       obtain⟨e0,e1,e2⟩:=HN2.out.x.ce
       obtain⟨ef0,ef1,ef2⟩:=HN2.out.x.fz
       go_wp2_with fail
       refine(kh16 _).mono ?_
       rintro e wh2 ⟨rfl,hBh⟩
       have HH2:=(show Hid _ from HN2.out.below hBh)
       obtain⟨x0,x1,x2⟩:=HH2.out.bx.x.ce
       obtain⟨y0,y1,y2,y3,y4⟩:=HH2.out.bx.y.ce
       obtain⟨e0,e1,e2⟩:=HH2.out.x.ce
       obtain⟨ef0,ef1,ef2⟩:=HH2.out.x.fz
       clear hBh HN2
       have HN3:=(show Hid _ from HH2.out.one 0 (.int .u64 u.ge) (HH2.out.x.pva u.ge))
       go_upto_region 9 with fail
       generalize (wh2.setCell ⟨bt,0,none⟩ (.int .u64 u.ge))=wv at *
       obtain⟨x0,x1,x2⟩:=HN3.out.bx.x.ce
       obtain⟨y0,y1,y2,y3,y4⟩:=HN3.out.bx.y.ce
       obtain⟨e0,e1,e2⟩:=HN3.out.x.ce
       obtain⟨ef0,ef1,ef2⟩:=HN3.out.x.fz
       go_wp2_with fail
       refine(kh32 _).mono ?_
       rintro e wh3 ⟨rfl,hBh⟩
       have HH3:=(show Hid _ from HN3.out.below hBh)
       obtain⟨x0,x1,x2⟩:=HH3.out.bx.x.ce
       obtain⟨y0,y1,y2,y3,y4⟩:=HH3.out.bx.y.ce
       obtain⟨e0,e1,e2⟩:=HH3.out.x.ce
       obtain⟨ef0,ef1,ef2⟩:=HH3.out.x.fz
       clear hBh HN3
       have HN4:=(show Hid _ from HH3.out.one 1 (.int .u64 u.se) (HH3.out.x.pse u.se))
       go_upto_region 11 with fail
       generalize (wh3.setCell ⟨bt,1,none⟩ (.int .u64 u.se))=wx at *
       obtain⟨x0,x1,x2⟩:=HN4.out.bx.x.ce
       obtain⟨y0,y1,y2,y3,y4⟩:=HN4.out.bx.y.ce
       obtain⟨e0,e1,e2⟩:=HN4.out.x.ce
       obtain⟨ef0,ef1,ef2⟩:=HN4.out.x.fz
       obtain⟨z0,z1,z2⟩:=HN4.out.bx.z.ce
       obtain⟨zf0,zf1,zf2⟩:=HN4.out.bx.z.fz
       unfold zDe at z0 z1 z2
       have HF:=(show Hid _ from HN4.out.bx.res ⟨u.ge,u.se,fl6⟩)
       simp only at e0 e1 e2
       go_wp2_with fail
       refine bodyPost_ret (res1 rfl _ _ (w.heap.size+2) 39 _ (0,0) _ rfl HF.out.z Tryz.underlying39 rfl (by kernel_rfl)) rfl ?_
       rw[HR.out]
       exact⟨rfl,HF.out.bel⟩
     | false =>
       rw[a32] at kh32
       have HR:Hid (R=⟨u.ge,d.se,(bits .or .i64 (bits .or .i64 8 (flagU d.fl u 4 2)) (flagU d.fl u 8 4))⟩):=by
        show R=_
        rw[HE.out]
        unfold rWishD rbase
        rw[if_pos (by exact Or.inl a16),if_pos a16,if_neg (by rw[a32];simp),if_pos hac]
       clear HE
       go_enter Tryz.func66,Tryz.ntmps66
       go_upto_region 1 with fail
       rw[←hwb]
       clear hwb
       go_wp2_with fail
       refine(kh16 _).mono ?_
       rintro e wh1 ⟨rfl,hBh⟩
       have HH1:=(show Hid _ from HB0.out.below hBh)
       obtain⟨x0,x1,x2⟩:=HH1.out.x.ce
       obtain⟨y0,y1,y2,y3,y4⟩:=HH1.out.y.ce
       clear hBh HB0
       have HN0:=(show Hid _ from WiS.new HH1.out ⟨18445336698825998336,18445336698825998336,0⟩)
       go_upto_region 5 with fail
       generalize (wh1.alloc (.cells #[.int .u64 18445336698825998336,.int .u64 18445336698825998336,.int .i64 0] 39))=wt at *
       generalize wh1.heap.size=bt at *
       have HN1:=(show Hid _ from HN0.out.whole d)
       obtain⟨x0,x1,x2⟩:=HN0.out.bx.x.ce
       obtain⟨y0,y1,y2,y3,y4⟩:=HN0.out.bx.y.ce
       obtain⟨e0,e1,e2⟩:=HN0.out.x.ce
       obtain⟨ef0,ef1,ef2⟩:=HN0.out.x.fz
       go_upto_region 6 with fail
       have hst:st3 wt bt d=((wt.setCell ⟨bt,0,none⟩ (.int .u64 d.va)).setCell ⟨bt,1,none⟩ (.int .u64 d.se)).setCell ⟨bt,2,none⟩ (.int .i64 d.fl):=rfl
       rw[←hst]
       generalize st3 wt bt d=wu at *
       clear hst
       have HX6:=HN1
       refine Code.wp_mono ?_ (wreg6 wu _ _ bt d.fl _ u _ _ _ _ HX6.out.bx.x HX6.out.bx.y HX6.out.x _ _ _ _ _ _ _ _ _ _ _ _ _ _ _ _ _ _ _ _ _ _ _ _ _ _ _ _ _ _ _ _ _ _ _ _ _ _ _ _ _ _ _ _ _ _ _ _ _ _ _ _ _ _ _ _ _ _ _ _ _ _ _ _ _ _ _ _ _ _ _ _ _ _ _ _ _ _ _ _ _ _ _ _ _ _ _ )
       intro ex a6 w6 hp6
       obtain⟨rfl,w5,u22,u23,u24,u25,u26,u27,u28,u29,u30,u31,u32,rfl,rfl,hb5⟩:=P6_out hp6
       have h5:=HX6.out.below hb5
       have HN2:=(show Hid _ from h5.one 2 (.int .i64 (bits .or .i64 (bits .or .i64 8 (flagU d.fl u 4 2)) (flagU d.fl u 8 4))) (h5.x.pfl (bits .or .i64 (bits .or .i64 8 (flagU d.fl u 4 2)) (flagU d.fl u 8 4))))
       generalize (w5.setCell ⟨bt,2,none⟩ (.int .i64 (bits .or .i64 (bits .or .i64 8 (flagU d.fl u 4 2)) (flagU d.fl u 8 4))))=w6 at *
       generalize (bits .or .i64 (bits .or .i64 8 (flagU d.fl u 4 2)) (flagU d.fl u 8 4))=fl6 at *
       clear hp6 hb5 h5 HX6 x0 x1 x2 y0 y1 y2 y3 y4
       obtain⟨x0,x1,x2⟩:=HN2.out.bx.x.ce
       obtain⟨y0,y1,y2,y3,y4⟩:=HN2.out.bx.y.ce
       obtain⟨e0,e1,e2⟩:=HN2.out.x.ce
       obtain⟨ef0,ef1,ef2⟩:=HN2.out.x.fz
       go_wp2_with fail
       refine(kh16 _).mono ?_
       rintro e wh2 ⟨rfl,hBh⟩
       have HH2:=(show Hid _ from HN2.out.below hBh)
       obtain⟨x0,x1,x2⟩:=HH2.out.bx.x.ce
       obtain⟨y0,y1,y2,y3,y4⟩:=HH2.out.bx.y.ce
       obtain⟨e0,e1,e2⟩:=HH2.out.x.ce
       obtain⟨ef0,ef1,ef2⟩:=HH2.out.x.fz
       clear hBh HN2
       have HN3:=(show Hid _ from HH2.out.one 0 (.int .u64 u.ge) (HH2.out.x.pva u.ge))
       go_upto_region 9 with fail
       generalize (wh2.setCell ⟨bt,0,none⟩ (.int .u64 u.ge))=wv at *
       obtain⟨x0,x1,x2⟩:=HN3.out.bx.x.ce
       obtain⟨y0,y1,y2,y3,y4⟩:=HN3.out.bx.y.ce
       obtain⟨e0,e1,e2⟩:=HN3.out.x.ce
       obtain⟨ef0,ef1,ef2⟩:=HN3.out.x.fz
       go_wp2_with fail
       refine(kh32 _).mono ?_
       rintro e wh3 ⟨rfl,hBh⟩
       have HH3:=(show Hid _ from HN3.out.below hBh)
       obtain⟨x0,x1,x2⟩:=HH3.out.bx.x.ce
       obtain⟨y0,y1,y2,y3,y4⟩:=HH3.out.bx.y.ce
       obtain⟨e0,e1,e2⟩:=HH3.out.x.ce
       obtain⟨ef0,ef1,ef2⟩:=HH3.out.x.fz
       clear hBh HN3
       obtain⟨z0,z1,z2⟩:=HH3.out.bx.z.ce
       obtain⟨zf0,zf1,zf2⟩:=HH3.out.bx.z.fz
       unfold zDe at z0 z1 z2
       have HF:=(show Hid _ from HH3.out.bx.res ⟨u.ge,d.se,fl6⟩)
       simp only at e0 e1 e2
       go_wp2_with fail
       refine bodyPost_ret (res1 rfl _ _ (w.heap.size+2) 39 _ (0,0) _ rfl HF.out.z Tryz.underlying39 rfl (by kernel_rfl)) rfl ?_
       rw[HR.out]
       exact⟨rfl,HF.out.bel⟩
   | false =>
     rw[a16] at kh16
     cases a32:hasU u 32 with
     | true =>
       rw[a32] at kh32
       have HR:Hid (R=⟨d.va,u.se,(bits .or .i64 (bits .or .i64 8 (flagU d.fl u 4 2)) (flagU d.fl u 8 4))⟩):=by
        show R=_
        rw[HE.out]
        unfold rWishD rbase
        rw[if_pos (by exact Or.inr a32),if_neg (by rw[a16];simp),if_pos hac,if_pos a32]
       clear HE
       go_enter Tryz.func66,Tryz.ntmps66
       go_upto_region 1 with fail
       rw[←hwb]
       clear hwb
       go_wp2_with fail
       refine(kh16 _).mono ?_
       rintro e wh1 ⟨rfl,hBh⟩
       have HH1:=(show Hid _ from HB0.out.below hBh)
       obtain⟨x0,x1,x2⟩:=HH1.out.x.ce
       obtain⟨y0,y1,y2,y3,y4⟩:=HH1.out.y.ce
       clear hBh HB0
       go_wp2_with fail
       refine(kh32 _).mono ?_
       rintro e wh2 ⟨rfl,hBh⟩
       have HH2:=(show Hid _ from HH1.out.below hBh)
       obtain⟨x0,x1,x2⟩:=HH2.out.x.ce
       obtain⟨y0,y1,y2,y3,y4⟩:=HH2.out.y.ce
       clear hBh HH1
       have HN0:=(show Hid _ from WiS.new HH2.out ⟨18445336698825998336,18445336698825998336,0⟩)
       go_upto_region 5 with fail
       generalize (wh2.alloc (.cells #[.int .u64 18445336698825998336,.int .u64 18445336698825998336,.int .i64 0] 39))=wt at *
       generalize wh2.heap.size=bt at *
       have HN1:=(show Hid _ from HN0.out.whole d)
       obtain⟨x0,x1,x2⟩:=HN0.out.bx.x.ce
       obtain⟨y0,y1,y2,y3,y4⟩:=HN0.out.bx.y.ce
       obtain⟨e0,e1,e2⟩:=HN0.out.x.ce
       obtain⟨ef0,ef1,ef2⟩:=HN0.out.x.fz
       go_upto_region 6 with fail
       have hst:st3 wt bt d=((wt.setCell ⟨bt,0,none⟩ (.int .u64 d.va)).setCell ⟨bt,1,none⟩ (.int .u64 d.se)).setCell ⟨bt,2,none⟩ (.int .i64 d.fl):=rfl
       rw[←hst]
       generalize st3 wt bt d=wu at *
       clear hst
       have HX6:=HN1
       refine Code.wp_mono ?_ (wreg6 wu _ _ bt d.fl _ u _ _ _ _ HX6.out.bx.x HX6.out.bx.y HX6.out.x _ _ _ _ _ _ _ _ _ _ _ _ _ _ _ _ _ _ _ _ _ _ _ _ _ _ _ _ _ _ _ _ _ _ _ _ _ _ _ _ _ _ _ _ _ _ _ _ _ _ _ _ _ _ _ _ _ _ _ _ _ _ _ _ _ _ _ _ _ _ _ _ _ _ _ _ _ _ _ _ _ _ _ _ _ _ _ )
       intro ex a6 w6 hp6
       obtain⟨rfl,w5,u22,u23,u24,u25,u26,u27,u28,u29,u30,u31,u32,rfl,rfl,hb5⟩:=P6_out hp6
       have h5:=HX6.out.below hb5
       have HN2:=(show Hid _ from h5.one 2 (.int .i64 (bits .or .i64 (bits .or .i64 8 (flagU d.fl u 4 2)) (flagU d.fl u 8 4))) (h5.x.pfl (bits .or .i64 (bits .or .i64 8 (flagU d.fl u 4 2)) (flagU d.fl u 8 4))))
       generalize (w5.setCell ⟨bt,2,none⟩ (.int .i64 (bits .or .i64 (bits .or .i64 8 (flagU d.fl u 4 2)) (flagU d.fl u 8 4))))=w6 at *
       generalize (bits .or .i64 (bits .or .i64 8 (flagU d.fl u 4 2)) (flagU d.fl u 8 4))=fl6 at *
       clear hp6 hb5 h5 HX6 x0 x1 x2 y0 y1 y2 y3 y4
       obtain⟨x0,x1,x2⟩:=HN2.out.bx.x.ce
       obtain⟨y0,y1,y2,y3,y4⟩:=HN2.out.bx.y.ce
       obtain⟨e0,e1,e2⟩:=HN2.out.x.ce
       obtain⟨ef0,ef1,ef2⟩:=HN2.out.x.fz
       go_wp2_with fail
       refine(kh16 _).mono ?_
       rintro e wh3 ⟨rfl,hBh⟩
       have HH3:=(show Hid _ from HN2.out.below hBh)
       obtain⟨x0,x1,x2⟩:=HH3.out.bx.x.ce
       obtain⟨y0,y1,y2,y3,y4⟩:=HH3.out.bx.y.ce
       obtain⟨e0,e1,e2⟩:=HH3.out.x.ce
       obtain⟨ef0,ef1,ef2⟩:=HH3.out.x.fz
       clear hBh HN2
       go_wp2_with fail
       refine(kh32 _).mono ?_
       rintro e wh4 ⟨rfl,hBh⟩
       have HH4:=(show Hid _ from HH3.out.below hBh)
       obtain⟨x0,x1,x2⟩:=HH4.out.bx.x.ce
       obtain⟨y0,y1,y2,y3,y4⟩:=HH4.out.bx.y.ce
       obtain⟨e0,e1,e2⟩:=HH4.out.x.ce
       obtain⟨ef0,ef1,ef2⟩:=HH4.out.x.fz
       clear hBh HH3
       have HN4:=(show Hid _ from HH4.out.one 1 (.int .u64 u.se) (HH4.out.x.pse u.se))
       go_upto_region 11 with fail
       generalize (wh4.setCell ⟨bt,1,none⟩ (.int .u64 u.se))=wx at *
       obtain⟨x0,x1,x2⟩:=HN4.out.bx.x.ce
       obtain⟨y0,y1,y2,y3,y4⟩:=HN4.out.bx.y.ce
       obtain⟨e0,e1,e2⟩:=HN4.out.x.ce
       obtain⟨ef0,ef1,ef2⟩:=HN4.out.x.fz
       obtain⟨z0,z1,z2⟩:=HN4.out.bx.z.ce
       obtain⟨zf0,zf1,zf2⟩:=HN4.out.bx.z.fz
       unfold zDe at z0 z1 z2
       have HF:=(show Hid _ from HN4.out.bx.res ⟨d.va,u.se,fl6⟩)
       simp only at e0 e1 e2
       go_wp2_with fail
       refine bodyPost_ret (res1 rfl _ _ (w.heap.size+2) 39 _ (0,0) _ rfl HF.out.z Tryz.underlying39 rfl (by kernel_rfl)) rfl ?_
       rw[HR.out]
       exact⟨rfl,HF.out.bel⟩
     | false =>
       rw[a32] at kh32
       cases a1:hasU u 1 with
       | true =>
         rw[a1] at kh1
         have hk8:=and6_8 d.fl
         have hcv:rconv d u=⟨undW,undW,bits .and .i64 d.fl 6⟩:=by unfold rconv;rw[if_pos ⟨hac,Or.inl a1⟩]
         have HR:Hid (R=⟨u.va,undW,(bits .or .i64 (bits .or .i64 (bits .or .i64 (bits .and .i64 (bits .and .i64 d.fl 6) 8) (flagU (bits .and .i64 d.fl 6) u 2 1)) (flagU d.fl u 4 2)) (flagU d.fl u 8 4))⟩):=by
          show R=_
          rw[HE.out]
          unfold rWishD rflags
          rw[if_neg (by rintro(q | q);rw[a16] at q;cases q;rw[a32] at q;cases q),hcv,if_pos a1,if_neg (by rw[hk8];simp)]
         clear HE hcv
         go_enter Tryz.func66,Tryz.ntmps66
         go_upto_region 1 with fail
         rw[←hwb]
         clear hwb
         go_wp2_with fail
         refine(kh16 _).mono ?_
         rintro e wh1 ⟨rfl,hBh⟩
         have HH1:=(show Hid _ from HB0.out.below hBh)
         obtain⟨x0,x1,x2⟩:=HH1.out.x.ce
         obtain⟨y0,y1,y2,y3,y4⟩:=HH1.out.y.ce
         clear hBh HB0
         go_wp2_with fail
         refine(kh32 _).mono ?_
         rintro e wh2 ⟨rfl,hBh⟩
         have HH2:=(show Hid _ from HH1.out.below hBh)
         obtain⟨x0,x1,x2⟩:=HH2.out.x.ce
         obtain⟨y0,y1,y2,y3,y4⟩:=HH2.out.y.ce
         clear hBh HH1
         have HN0:=(show Hid _ from WiS.new HH2.out d)
         go_upto_region 13 with fail
         generalize (wh2.alloc (.cells #[.int .u64 d.va,.int .u64 d.se,.int .i64 d.fl] 39))=wt at *
         generalize wh2.heap.size=bt at *
         obtain⟨x0,x1,x2⟩:=HN0.out.bx.x.ce
         obtain⟨y0,y1,y2,y3,y4⟩:=HN0.out.bx.y.ce
         obtain⟨e0,e1,e2⟩:=HN0.out.x.ce
         obtain⟨ef0,ef1,ef2⟩:=HN0.out.x.fz
         go_wp2_with fail
         refine(kh1 _).mono ?_
         rintro e wh3 ⟨rfl,hBh⟩
         have HH3:=(show Hid _ from HN0.out.below hBh)
         obtain⟨x0,x1,x2⟩:=HH3.out.bx.x.ce
         obtain⟨y0,y1,y2,y3,y4⟩:=HH3.out.bx.y.ce
         obtain⟨e0,e1,e2⟩:=HH3.out.x.ce
         obtain⟨ef0,ef1,ef2⟩:=HH3.out.x.fz
         clear hBh HN0
         have HNC:=(show Hid _ from HH3.out.whole ⟨18445336698825998336,18445336698825998336,bits .and .i64 d.fl 6⟩)
         go_upto_region 15 with fail
         have hst:st3 wh3 bt ⟨18445336698825998336,18445336698825998336,bits .and .i64 d.fl 6⟩=((wh3.setCell ⟨bt,0,none⟩ (.int .u64 18445336698825998336)).setCell ⟨bt,1,none⟩ (.int .u64 18445336698825998336)).setCell ⟨bt,2,none⟩ (.int .i64 (bits .and .i64 d.fl 6)):=rfl
         rw[←hst]
         generalize st3 wh3 bt ⟨18445336698825998336,18445336698825998336,bits .and .i64 d.fl 6⟩=wu at *
         clear hst
         obtain⟨x0,x1,x2⟩:=HNC.out.bx.x.ce
         obtain⟨y0,y1,y2,y3,y4⟩:=HNC.out.bx.y.ce
         obtain⟨e0,e1,e2⟩:=HNC.out.x.ce
         obtain⟨ef0,ef1,ef2⟩:=HNC.out.x.fz
         go_upto_region 16 with fail
         have HX6:=HNC
         refine Code.wp_mono ?_ (wreg16 wu _ _ bt _ d.fl (bits .and .i64 d.fl 6) u _ _ _ _ HX6.out.bx.x HX6.out.bx.y HX6.out.x _ _ _ _ _ _ _ _ _ _ _ _ _ _ _ _ _ _ _ _ _ _ _ _ _ _ _ _ _ _ _ _ _ _ _ _ _ _ _ _ _ _ _ _ _ _ _ _ _ _ _ _ _ _ _ _ _ _ _ _ _ _ _ _ _ _ _ _ _ _ _ _ _ _ _ _ _ _ _ _ _ _ _ _ _ _ )
         intro ex a6 w6 hp6
         obtain⟨rfl,w5,u61,u62,u63,u64,u65,u66,u67,u68,u69,u70,u71,u72,u73,u74,u75,u76,u77,rfl,rfl,hb5⟩:=P16_out hp6
         have h5:=HX6.out.below hb5
         have HN2:=(show Hid _ from h5.one 2 (.int .i64 (bits .or .i64 (bits .or .i64 (bits .or .i64 (bits .and .i64 (bits .and .i64 d.fl 6) 8) (flagU (bits .and .i64 d.fl 6) u 2 1)) (flagU d.fl u 4 2)) (flagU d.fl u 8 4))) (h5.x.pfl (bits .or .i64 (bits .or .i64 (bits .or .i64 (bits .and .i64 (bits .and .i64 d.fl 6) 8) (flagU (bits .and .i64 d.fl 6) u 2 1)) (flagU d.fl u 4 2)) (flagU d.fl u 8 4))))
         generalize (w5.setCell ⟨bt,2,none⟩ (.int .i64 (bits .or .i64 (bits .or .i64 (bits .or .i64 (bits .and .i64 (bits .and .i64 d.fl 6) 8) (flagU (bits .and .i64 d.fl 6) u 2 1)) (flagU d.fl u 4 2)) (flagU d.fl u 8 4))))=w6 at *
         generalize (bits .or .i64 (bits .or .i64 (bits .or .i64 (bits .and .i64 (bits .and .i64 d.fl 6) 8) (flagU (bits .and .i64 d.fl 6) u 2 1)) (flagU d.fl u 4 2)) (flagU d.fl u 8 4))=fl6 at *
         clear hp6 hb5 h5 HX6 x0 x1 x2 y0 y1 y2 y3 y4 e0 e1 e2 ef0 ef1 ef2
         obtain⟨x0,x1,x2⟩:=HN2.out.bx.x.ce
         obtain⟨y0,y1,y2,y3,y4⟩:=HN2.out.bx.y.ce
         obtain⟨e0,e1,e2⟩:=HN2.out.x.ce
         obtain⟨ef0,ef1,ef2⟩:=HN2.out.x.fz
         go_wp2_with fail
         refine(kh1 _).mono ?_
         rintro e wh4 ⟨rfl,hBh⟩
         have HH4:=(show Hid _ from HN2.out.below hBh)
         obtain⟨x0,x1,x2⟩:=HH4.out.bx.x.ce
         obtain⟨y0,y1,y2,y3,y4⟩:=HH4.out.bx.y.ce
         obtain⟨e0,e1,e2⟩:=HH4.out.x.ce
         obtain⟨ef0,ef1,ef2⟩:=HH4.out.x.fz
         clear hBh HN2
         have HN4:=(show Hid _ from HH4.out.one 0 (.int .u64 u.va) (HH4.out.x.pva u.va))
         go_upto_region 21 with fail
         generalize (wh4.setCell ⟨bt,0,none⟩ (.int .u64 u.va))=wx at *
         obtain⟨x0,x1,x2⟩:=HN4.out.bx.x.ce
         obtain⟨y0,y1,y2,y3,y4⟩:=HN4.out.bx.y.ce
         obtain⟨e0,e1,e2⟩:=HN4.out.x.ce
         obtain⟨ef0,ef1,ef2⟩:=HN4.out.x.fz
         obtain⟨z0,z1,z2⟩:=HN4.out.bx.z.ce
         obtain⟨zf0,zf1,zf2⟩:=HN4.out.bx.z.fz
         unfold zDe at z0 z1 z2
         have HF:=(show Hid _ from HN4.out.bx.res ⟨u.va,18445336698825998336,fl6⟩)
         simp only at e0 e1 e2
         go_wp2_with fail
         refine bodyPost_ret (res1 rfl _ _ (w.heap.size+2) 39 _ (0,0) _ rfl HF.out.z Tryz.underlying39 rfl (by kernel_rfl)) rfl ?_
         rw[HR.out]
         exact⟨rfl,HF.out.bel⟩
       | false =>
         rw[a1] at kh1
         cases a2:hasU u 2 with
         | true =>
           rw[a2] at kh2
           have hk8:=and6_8 d.fl
           have hcv:rconv d u=⟨undW,undW,bits .and .i64 d.fl 6⟩:=by unfold rconv;rw[if_pos ⟨hac,Or.inr a2⟩]
           have HR:Hid (R=⟨undW,undW,(bits .or .i64 (bits .or .i64 (bits .or .i64 (bits .and .i64 (bits .and .i64 d.fl 6) 8) (flagU (bits .and .i64 d.fl 6) u 2 1)) (flagU d.fl u 4 2)) (flagU d.fl u 8 4))⟩):=by
            show R=_
            rw[HE.out]
            unfold rWishD rflags
            rw[if_neg (by rintro(q | q);rw[a16] at q;cases q;rw[a32] at q;cases q),hcv,if_neg (by rw[a1];simp),if_neg (by rw[hk8];simp)]
           clear HE hcv
           go_enter Tryz.func66,Tryz.ntmps66
           go_upto_region 1 with fail
           rw[←hwb]
           clear hwb
           go_wp2_with fail
           refine(kh16 _).mono ?_
           rintro e wh1 ⟨rfl,hBh⟩
           have HH1:=(show Hid _ from HB0.out.below hBh)
           obtain⟨x0,x1,x2⟩:=HH1.out.x.ce
           obtain⟨y0,y1,y2,y3,y4⟩:=HH1.out.y.ce
           clear hBh HB0
           go_wp2_with fail
           refine(kh32 _).mono ?_
           rintro e wh2 ⟨rfl,hBh⟩
           have HH2:=(show Hid _ from HH1.out.below hBh)
           obtain⟨x0,x1,x2⟩:=HH2.out.x.ce
           obtain⟨y0,y1,y2,y3,y4⟩:=HH2.out.y.ce
           clear hBh HH1
           have HN0:=(show Hid _ from WiS.new HH2.out d)
           go_upto_region 13 with fail
           generalize (wh2.alloc (.cells #[.int .u64 d.va,.int .u64 d.se,.int .i64 d.fl] 39))=wt at *
           generalize wh2.heap.size=bt at *
           obtain⟨x0,x1,x2⟩:=HN0.out.bx.x.ce
           obtain⟨y0,y1,y2,y3,y4⟩:=HN0.out.bx.y.ce
           obtain⟨e0,e1,e2⟩:=HN0.out.x.ce
           obtain⟨ef0,ef1,ef2⟩:=HN0.out.x.fz
           go_wp2_with fail
           refine(kh1 _).mono ?_
           rintro e wh3 ⟨rfl,hBh⟩
           have HH3:=(show Hid _ from HN0.out.below hBh)
           obtain⟨x0,x1,x2⟩:=HH3.out.bx.x.ce
           obtain⟨y0,y1,y2,y3,y4⟩:=HH3.out.bx.y.ce
           obtain⟨e0,e1,e2⟩:=HH3.out.x.ce
           obtain⟨ef0,ef1,ef2⟩:=HH3.out.x.fz
           clear hBh HN0
           go_wp2_with fail
           refine(kh2 _).mono ?_
           rintro e wh4 ⟨rfl,hBh⟩
           have HH4:=(show Hid _ from HH3.out.below hBh)
           obtain⟨x0,x1,x2⟩:=HH4.out.bx.x.ce
           obtain⟨y0,y1,y2,y3,y4⟩:=HH4.out.bx.y.ce
           obtain⟨e0,e1,e2⟩:=HH4.out.x.ce
           obtain⟨ef0,ef1,ef2⟩:=HH4.out.x.fz
           clear hBh HH3
           have HNC:=(show Hid _ from HH4.out.whole ⟨18445336698825998336,18445336698825998336,bits .and .i64 d.fl 6⟩)
           go_upto_region 15 with fail
           have hst:st3 wh4 bt ⟨18445336698825998336,18445336698825998336,bits .and .i64 d.fl 6⟩=((wh4.setCell ⟨bt,0,none⟩ (.int .u64 18445336698825998336)).setCell ⟨bt,1,none⟩ (.int .u64 18445336698825998336)).setCell ⟨bt,2,none⟩ (.int .i64 (bits .and .i64 d.fl 6)):=rfl
           rw[←hst]
           generalize st3 wh4 bt ⟨18445336698825998336,18445336698825998336,bits .and .i64 d.fl 6⟩=wu at *
           clear hst
           obtain⟨x0,x1,x2⟩:=HNC.out.bx.x.ce
           obtain⟨y0,y1,y2,y3,y4⟩:=HNC.out.bx.y.ce
           obtain⟨e0,e1,e2⟩:=HNC.out.x.ce
           obtain⟨ef0,ef1,ef2⟩:=HNC.out.x.fz
           go_upto_region 16 with fail
           have HX6:=HNC
           refine Code.wp_mono ?_ (wreg16 wu _ _ bt _ d.fl (bits .and .i64 d.fl 6) u _ _ _ _ HX6.out.bx.x HX6.out.bx.y HX6.out.x _ _ _ _ _ _ _ _ _ _ _ _ _ _ _ _ _ _ _ _ _ _ _ _ _ _ _ _ _ _ _ _ _ _ _ _ _ _ _ _ _ _ _ _ _ _ _ _ _ _ _ _ _ _ _ _ _ _ _ _ _ _ _ _ _ _ _ _ _ _ _ _ _ _ _ _ _ _ _ _ _ _ _ _ _ _ )
           intro ex a6 w6 hp6
           obtain⟨rfl,w5,u61,u62,u63,u64,u65,u66,u67,u68,u69,u70,u71,u72,u73,u74,u75,u76,u77,rfl,rfl,hb5⟩:=P16_out hp6
           have h5:=HX6.out.below hb5
           have HN2:=(show Hid _ from h5.one 2 (.int .i64 (bits .or .i64 (bits .or .i64 (bits .or .i64 (bits .and .i64 (bits .and .i64 d.fl 6) 8) (flagU (bits .and .i64 d.fl 6) u 2 1)) (flagU d.fl u 4 2)) (flagU d.fl u 8 4))) (h5.x.pfl (bits .or .i64 (bits .or .i64 (bits .or .i64 (bits .and .i64 (bits .and .i64 d.fl 6) 8) (flagU (bits .and .i64 d.fl 6) u 2 1)) (flagU d.fl u 4 2)) (flagU d.fl u 8 4))))
           generalize (w5.setCell ⟨bt,2,none⟩ (.int .i64 (bits .or .i64 (bits .or .i64 (bits .or .i64 (bits .and .i64 (bits .and .i64 d.fl 6) 8) (flagU (bits .and .i64 d.fl 6) u 2 1)) (flagU d.fl u 4 2)) (flagU d.fl u 8 4))))=w6 at *
           generalize (bits .or .i64 (bits .or .i64 (bits .or .i64 (bits .and .i64 (bits .and .i64 d.fl 6) 8) (flagU (bits .and .i64 d.fl 6) u 2 1)) (flagU d.fl u 4 2)) (flagU d.fl u 8 4))=fl6 at *
           clear hp6 hb5 h5 HX6 x0 x1 x2 y0 y1 y2 y3 y4 e0 e1 e2 ef0 ef1 ef2
           obtain⟨x0,x1,x2⟩:=HN2.out.bx.x.ce
           obtain⟨y0,y1,y2,y3,y4⟩:=HN2.out.bx.y.ce
           obtain⟨e0,e1,e2⟩:=HN2.out.x.ce
           obtain⟨ef0,ef1,ef2⟩:=HN2.out.x.fz
           go_wp2_with fail
           refine(kh1 _).mono ?_
           rintro e wh5 ⟨rfl,hBh⟩
           have HH5:=(show Hid _ from HN2.out.below hBh)
           obtain⟨x0,x1,x2⟩:=HH5.out.bx.x.ce
           obtain⟨y0,y1,y2,y3,y4⟩:=HH5.out.bx.y.ce
           obtain⟨e0,e1,e2⟩:=HH5.out.x.ce
           obtain⟨ef0,ef1,ef2⟩:=HH5.out.x.fz
           clear hBh HN2
           obtain⟨z0,z1,z2⟩:=HH5.out.bx.z.ce
           obtain⟨zf0,zf1,zf2⟩:=HH5.out.bx.z.fz
           unfold zDe at z0 z1 z2
           have HF:=(show Hid _ from HH5.out.bx.res ⟨18445336698825998336,18445336698825998336,fl6⟩)
           simp only at e0 e1 e2
           go_wp2_with fail
           refine bodyPost_ret (res1 rfl _ _ (w.heap.size+2) 39 _ (0,0) _ rfl HF.out.z Tryz.underlying39 rfl (by kernel_rfl)) rfl ?_
           rw[HR.out]
           exact⟨rfl,HF.out.bel⟩
         | false =>
           rw[a2] at kh2
           have hk8:=hk
           have hcv:rconv d u=d:=by unfold rconv;rw[if_neg (by rintro⟨_,q | q⟩;rw[a1] at q;cases q;rw[a2] at q;cases q)]
           have HR:Hid (R=⟨d.va,d.se,(bits .or .i64 (bits .or .i64 (bits .or .i64 (bits .or .i64 (bits .and .i64 d.fl 8) (flagU d.fl u 2 1)) (flagU d.fl u 4 2)) (flagU d.fl u 8 4)) 8)⟩):=by
            show R=_
            rw[HE.out]
            unfold rWishD rflags
            rw[if_neg (by rintro(q | q);rw[a16] at q;cases q;rw[a32] at q;cases q),hcv,if_neg (by rw[a1];simp),if_pos hk8]
           clear HE hcv
           go_enter Tryz.func66,Tryz.ntmps66
           go_upto_region 1 with fail
           rw[←hwb]
           clear hwb
           go_wp2_with fail
           refine(kh16 _).mono ?_
           rintro e wh1 ⟨rfl,hBh⟩
           have HH1:=(show Hid _ from HB0.out.below hBh)
           obtain⟨x0,x1,x2⟩:=HH1.out.x.ce
           obtain⟨y0,y1,y2,y3,y4⟩:=HH1.out.y.ce
           clear hBh HB0
           go_wp2_with fail
           refine(kh32 _).mono ?_
           rintro e wh2 ⟨rfl,hBh⟩
           have HH2:=(show Hid _ from HH1.out.below hBh)
           obtain⟨x0,x1,x2⟩:=HH2.out.x.ce
           obtain⟨y0,y1,y2,y3,y4⟩:=HH2.out.y.ce
           clear hBh HH1
           have HN0:=(show Hid _ from WiS.new HH2.out d)
           go_upto_region 13 with fail
           generalize (wh2.alloc (.cells #[.int .u64 d.va,.int .u64 d.se,.int .i64 d.fl] 39))=wt at *
           generalize wh2.heap.size=bt at *
           obtain⟨x0,x1,x2⟩:=HN0.out.bx.x.ce
           obtain⟨y0,y1,y2,y3,y4⟩:=HN0.out.bx.y.ce
           obtain⟨e0,e1,e2⟩:=HN0.out.x.ce
           obtain⟨ef0,ef1,ef2⟩:=HN0.out.x.fz
           go_wp2_with fail
           refine(kh1 _).mono ?_
           rintro e wh3 ⟨rfl,hBh⟩
           have HH3:=(show Hid _ from HN0.out.below hBh)
           obtain⟨x0,x1,x2⟩:=HH3.out.bx.x.ce
           obtain⟨y0,y1,y2,y3,y4⟩:=HH3.out.bx.y.ce
           obtain⟨e0,e1,e2⟩:=HH3.out.x.ce
           obtain⟨ef0,ef1,ef2⟩:=HH3.out.x.fz
           clear hBh HN0
           go_wp2_with fail
           refine(kh2 _).mono ?_
           rintro e wh4 ⟨rfl,hBh⟩
           have HH4:=(show Hid _ from HH3.out.below hBh)
           obtain⟨x0,x1,x2⟩:=HH4.out.bx.x.ce
           obtain⟨y0,y1,y2,y3,y4⟩:=HH4.out.bx.y.ce
           obtain⟨e0,e1,e2⟩:=HH4.out.x.ce
           obtain⟨ef0,ef1,ef2⟩:=HH4.out.x.fz
           clear hBh HH3
           go_upto_region 16 with fail
           have HX6:=HH4
           refine Code.wp_mono ?_ (wreg16 wh4 _ _ bt _ d.fl d.fl u _ _ _ _ HX6.out.bx.x HX6.out.bx.y HX6.out.x _ _ _ _ _ _ _ _ _ _ _ _ _ _ _ _ _ _ _ _ _ _ _ _ _ _ _ _ _ _ _ _ _ _ _ _ _ _ _ _ _ _ _ _ _ _ _ _ _ _ _ _ _ _ _ _ _ _ _ _ _ _ _ _ _ _ _ _ _ _ _ _ _ _ _ _ _ _ _ _ _ _ _ _ _ _ )
           intro ex a6 w6 hp6
           obtain⟨rfl,w5,u61,u62,u63,u64,u65,u66,u67,u68,u69,u70,u71,u72,u73,u74,u75,u76,u77,rfl,rfl,hb5⟩:=P16_out hp6
           have h5:=HX6.out.below hb5
           have HN2:=(show Hid _ from h5.one 2 (.int .i64 (bits .or .i64 (bits .or .i64 (bits .or .i64 (bits .and .i64 d.fl 8) (flagU d.fl u 2 1)) (flagU d.fl u 4 2)) (flagU d.fl u 8 4))) (h5.x.pfl (bits .or .i64 (bits .or .i64 (bits .or .i64 (bits .and .i64 d.fl 8) (flagU d.fl u 2 1)) (flagU d.fl u 4 2)) (flagU d.fl u 8 4))))
           generalize (w5.setCell ⟨bt,2,none⟩ (.int .i64 (bits .or .i64 (bits .or .i64 (bits .or .i64 (bits .and .i64 d.fl 8) (flagU d.fl u 2 1)) (flagU d.fl u 4 2)) (flagU d.fl u 8 4))))=w6 at *
           generalize (bits .or .i64 (bits .or .i64 (bits .or .i64 (bits .and .i64 d.fl 8) (flagU d.fl u 2 1)) (flagU d.fl u 4 2)) (flagU d.fl u 8 4))=fl6 at *
           clear hp6 hb5 h5 HX6 x0 x1 x2 y0 y1 y2 y3 y4 e0 e1 e2 ef0 ef1 ef2
           obtain⟨x0,x1,x2⟩:=HN2.out.bx.x.ce
           obtain⟨y0,y1,y2,y3,y4⟩:=HN2.out.bx.y.ce
           obtain⟨e0,e1,e2⟩:=HN2.out.x.ce
           obtain⟨ef0,ef1,ef2⟩:=HN2.out.x.fz
           have HN3:=(show Hid _ from HN2.out.one 2 (.int .i64 (bits .or .i64 fl6 8)) (HN2.out.x.pfl (bits .or .i64 fl6 8)))
           go_upto_region 19 with fail
           generalize (w6.setCell ⟨bt,2,none⟩ (.int .i64 (bits .or .i64 fl6 8)))=wv at *
           obtain⟨x0,x1,x2⟩:=HN3.out.bx.x.ce
           obtain⟨y0,y1,y2,y3,y4⟩:=HN3.out.bx.y.ce
           obtain⟨e0,e1,e2⟩:=HN3.out.x.ce
           obtain⟨ef0,ef1,ef2⟩:=HN3.out.x.fz
           go_wp2_with fail
           refine(kh1 _).mono ?_
           rintro e wh5 ⟨rfl,hBh⟩
           have HH5:=(show Hid _ from HN3.out.below hBh)
           obtain⟨x0,x1,x2⟩:=HH5.out.bx.x.ce
           obtain⟨y0,y1,y2,y3,y4⟩:=HH5.out.bx.y.ce
           obtain⟨e0,e1,e2⟩:=HH5.out.x.ce
           obtain⟨ef0,ef1,ef2⟩:=HH5.out.x.fz
           clear hBh HN3
           obtain⟨z0,z1,z2⟩:=HH5.out.bx.z.ce
           obtain⟨zf0,zf1,zf2⟩:=HH5.out.bx.z.fz
           unfold zDe at z0 z1 z2
           have HF:=(show Hid _ from HH5.out.bx.res ⟨d.va,d.se,bits .or .i64 fl6 8⟩)
           simp only at e0 e1 e2
           go_wp2_with fail
           refine bodyPost_ret (res1 rfl _ _ (w.heap.size+2) 39 _ (0,0) _ rfl HF.out.z Tryz.underlying39 rfl (by kernel_rfl)) rfl ?_
           rw[HR.out]
           exact⟨rfl,HF.out.bel⟩
 | false =>
   have hk:(bits .and .i64 d.fl 8 != 0)=false:=hac
   cases a16:hasU u 16 with
   | true =>
     rw[a16] at kh16
     cases a32:hasU u 32 with
     | true =>
       rw[a32] at kh32
       have HR:Hid (R=⟨u.ge,u.se,(bits .or .i64 (bits .or .i64 8 (flagU d.fl u 4 2)) (flagU d.fl u 8 4))⟩):=by
        show R=_
        rw[HE.out]
        unfold rWishD rbase
        rw[if_pos (by exact Or.inl a16),if_pos a16,if_pos a32]
       clear HE
       go_enter Tryz.func66,Tryz.ntmps66
       go_upto_region 1 with fail
       rw[←hwb]
       clear hwb
       go_wp2_with fail
       refine(kh16 _).mono ?_
       rintro e wh1 ⟨rfl,hBh⟩
       have HH1:=(show Hid _ from HB0.out.below hBh)
       obtain⟨x0,x1,x2⟩:=HH1.out.x.ce
       obtain⟨y0,y1,y2,y3,y4⟩:=HH1.out.y.ce
       clear hBh HB0
       have HN0:=(show Hid _ from WiS.new HH1.out ⟨18445336698825998336,18445336698825998336,0⟩)
       go_upto_region 6 with fail
       generalize (wh1.alloc (.cells #[.int .u64 18445336698825998336,.int .u64 18445336698825998336,.int .i64 0] 39))=wu at *
       generalize wh1.heap.size=bt at *
       have HX6:=HN0
       refine Code.wp_mono ?_ (wreg6 wu _ _ bt d.fl _ u _ _ _ _ HX6.out.bx.x HX6.out.bx.y HX6.out.x _ _ _ _ _ _ _ _ _ _ _ _ _ _ _ _ _ _ _ _ _ _ _ _ _ _ _ _ _ _ _ _ _ _ _ _ _ _ _ _ _ _ _ _ _ _ _ _ _ _ _ _ _ _ _ _ _ _ _ _ _ _ _ _ _ _ _ _ _ _ _ _ _ _ _ _ _ _ _ _ _ _ _ _ _ _ _ )
       intro ex a6 w6 hp6
       obtain⟨rfl,w5,u22,u23,u24,u25,u26,u27,u28,u29,u30,u31,u32,rfl,rfl,hb5⟩:=P6_out hp6
       have h5:=HX6.out.below hb5
       have HN2:=(show Hid _ from h5.one 2 (.int .i64 (bits .or .i64 (bits .or .i64 8 (flagU d.fl u 4 2)) (flagU d.fl u 8 4))) (h5.x.pfl (bits .or .i64 (bits .or .i64 8 (flagU d.fl u 4 2)) (flagU d.fl u 8 4))))
       generalize (w5.setCell ⟨bt,2,none⟩ (.int .i64 (bits .or .i64 (bits .or .i64 8 (flagU d.fl u 4 2)) (flagU d.fl u 8 4))))=w6 at *
       generalize (bits .or .i64 (bits .or .i64 8 (flagU d.fl u 4 2)) (flagU d.fl u 8 4))=fl6 at *
       clear hp6 hb5 h5 HX6 x0 x1 x2 y0 y1 y2 y3 y4
       obtain⟨x0,x1,x2⟩:=HN2.out.bx.x.ce
       obtain⟨y0,y1,y2,y3,y4⟩:=HN2.out.bx.y.ce
       obtain⟨e0,e1,e2⟩:=HN2.out.x.ce
       obtain⟨ef0,ef1,ef2⟩:=HN2.out.x.fz
       go_wp2_with fail
       refine(kh16 _).mono ?_
       rintro e wh2 ⟨rfl,hBh⟩
       have HH2:=(show Hid _ from HN2.out.below hBh)
       obtain⟨x0,x1,x2⟩:=HH2.out.bx.x.ce
       obtain⟨y0,y1,y2,y3,y4⟩:=HH2.out.bx.y.ce
       obtain⟨e0,e1,e2⟩:=HH2.out.x.ce
       obtain⟨ef0,ef1,ef2⟩:=HH2.out.x.fz
       clear hBh HN2
       have HN3:=(show Hid _ from HH2.out.one 0 (.int .u64 u.ge) (HH2.out.x.pva u.ge))
       go_upto_region 9 with fail
       generalize (wh2.setCell ⟨bt,0,none⟩ (.int .u64 u.ge))=wv at *
       obtain⟨x0,x1,x2⟩:=HN3.out.bx.x.ce
       obtain⟨y0,y1,y2,y3,y4⟩:=HN3.out.bx.y.ce
       obtain⟨e0,e1,e2⟩:=HN3.out.x.ce
       obtain⟨ef0,ef1,ef2⟩:=HN3.out.x.fz
       go_wp2_with fail
       refine(kh32 _).mono ?_
       rintro e wh3 ⟨rfl,hBh⟩
       have HH3:=(show Hid _ from HN3.out.below hBh)
       obtain⟨x0,x1,x2⟩:=HH3.out.bx.x.ce
       obtain⟨y0,y1,y2,y3,y4⟩:=HH3.out.bx.y.ce
       obtain⟨e0,e1,e2⟩:=HH3.out.x.ce
       obtain⟨ef0,ef1,ef2⟩:=HH3.out.x.fz
       clear hBh HN3
       have HN4:=(show Hid _ from HH3.out.one 1 (.int .u64 u.se) (HH3.out.x.pse u.se))
       go_upto_region 11 with fail
       generalize (wh3.setCell ⟨bt,1,none⟩ (.int .u64 u.se))=wx at *
       obtain⟨x0,x1,x2⟩:=HN4.out.bx.x.ce
       obtain⟨y0,y1,y2,y3,y4⟩:=HN4.out.bx.y.ce
       obtain⟨e0,e1,e2⟩:=HN4.out.x.ce
       obtain⟨ef0,ef1,ef2⟩:=HN4.out.x.fz
       obtain⟨z0,z1,z2⟩:=HN4.out.bx.z.ce
       obtain⟨zf0,zf1,zf2⟩:=HN4.out.bx.z.fz
       unfold zDe at z0 z1 z2
       have HF:=(show Hid _ from HN4.out.bx.res ⟨u.ge,u.se,fl6⟩)
       simp only at e0 e1 e2
       go_wp2_with fail
       refine bodyPost_ret (res1 rfl _ _ (w.heap.size+2) 39 _ (0,0) _ rfl HF.out.z Tryz.underlying39 rfl (by kernel_rfl)) rfl ?_
       rw[HR.out]
       exact⟨rfl,HF.out.bel⟩
     | false =>
       rw[a32] at kh32
       have HR:Hid (R=⟨u.ge,undW,(bits .or .i64 (bits .or .i64 8 (flagU d.fl u 4 2)) (flagU d.fl u 8 4))⟩):=by
        show R=_
        rw[HE.out]
        unfold rWishD rbase
        rw[if_pos (by exact Or.inl a16),if_pos a16,if_neg (by rw[a32];simp),if_neg (by rw[hac];simp)]
       clear HE
       go_enter Tryz.func66,Tryz.ntmps66
       go_upto_region 1 with fail
       rw[←hwb]
       clear hwb
       go_wp2_with fail
       refine(kh16 _).mono ?_
       rintro e wh1 ⟨rfl,hBh⟩
       have HH1:=(show Hid _ from HB0.out.below hBh)
       obtain⟨x0,x1,x2⟩:=HH1.out.x.ce
       obtain⟨y0,y1,y2,y3,y4⟩:=HH1.out.y.ce
       clear hBh HB0
       have HN0:=(show Hid _ from WiS.new HH1.out ⟨18445336698825998336,18445336698825998336,0⟩)
       go_upto_region 6 with fail
       generalize (wh1.alloc (.cells #[.int .u64 18445336698825998336,.int .u64 18445336698825998336,.int .i64 0] 39))=wu at *
       generalize wh1.heap.size=bt at *
       have HX6:=HN0
       refine Code.wp_mono ?_ (wreg6 wu _ _ bt d.fl _ u _ _ _ _ HX6.out.bx.x HX6.out.bx.y HX6.out.x _ _ _ _ _ _ _ _ _ _ _ _ _ _ _ _ _ _ _ _ _ _ _ _ _ _ _ _ _ _ _ _ _ _ _ _ _ _ _ _ _ _ _ _ _ _ _ _ _ _ _ _ _ _ _ _ _ _ _ _ _ _ _ _ _ _ _ _ _ _ _ _ _ _ _ _ _ _ _ _ _ _ _ _ _ _ _ )
       intro ex a6 w6 hp6
       obtain⟨rfl,w5,u22,u23,u24,u25,u26,u27,u28,u29,u30,u31,u32,rfl,rfl,hb5⟩:=P6_out hp6
       have h5:=HX6.out.below hb5
       have HN2:=(show Hid _ from h5.one 2 (.int .i64 (bits .or .i64 (bits .or .i64 8 (flagU d.fl u 4 2)) (flagU d.fl u 8 4))) (h5.x.pfl (bits .or .i64 (bits .or .i64 8 (flagU d.fl u 4 2)) (flagU d.fl u 8 4))))
       generalize (w5.setCell ⟨bt,2,none⟩ (.int .i64 (bits .or .i64 (bits .or .i64 8 (flagU d.fl u 4 2)) (flagU d.fl u 8 4))))=w6 at *
       generalize (bits .or .i64 (bits .or .i64 8 (flagU d.fl u 4 2)) (flagU d.fl u 8 4))=fl6 at *
       clear hp6 hb5 h5 HX6 x0 x1 x2 y0 y1 y2 y3 y4
       obtain⟨x0,x1,x2⟩:=HN2.out.bx.x.ce
       obtain⟨y0,y1,y2,y3,y4⟩:=HN2.out.bx.y.ce
       obtain⟨e0,e1,e2⟩:=HN2.out.x.ce
       obtain⟨ef0,ef1,ef2⟩:=HN2.out.x.fz
       go_wp2_with fail
       refine(kh16 _).mono ?_
       rintro e wh2 ⟨rfl,hBh⟩
       have HH2:=(show Hid _ from HN2.out.below hBh)
       obtain⟨x0,x1,x2⟩:=HH2.out.bx.x.ce
       obtain⟨y0,y1,y2,y3,y4⟩:=HH2.out.bx.y.ce
       obtain⟨e0,e1,e2⟩:=HH2.out.x.ce
       obtain⟨ef0,ef1,ef2⟩:=HH2.out.x.fz
       clear hBh HN2
       have HN3:=(show Hid _ from HH2.out.one 0 (.int .u64 u.ge) (HH2.out.x.pva u.ge))
       go_upto_region 9 with fail
       generalize (wh2.setCell ⟨bt,0,none⟩ (.int .u64 u.ge))=wv at *
       obtain⟨x0,x1,x2⟩:=HN3.out.bx.x.ce
       obtain⟨y0,y1,y2,y3,y4⟩:=HN3.out.bx.y.ce
       obtain⟨e0,e1,e2⟩:=HN3.out.x.ce
       obtain⟨ef0,ef1,ef2⟩:=HN3.out.x.fz
       go_wp2_with fail
       refine(kh32 _).mono ?_
       rintro e wh3 ⟨rfl,hBh⟩
       have HH3:=(show Hid _ from HN3.out.below hBh)
       obtain⟨x0,x1,x2⟩:=HH3.out.bx.x.ce
       obtain⟨y0,y1,y2,y3,y4⟩:=HH3.out.bx.y.ce
       obtain⟨e0,e1,e2⟩:=HH3.out.x.ce
       obtain⟨ef0,ef1,ef2⟩:=HH3.out.x.fz
       clear hBh HN3
       obtain⟨z0,z1,z2⟩:=HH3.out.bx.z.ce
       obtain⟨zf0,zf1,zf2⟩:=HH3.out.bx.z.fz
       unfold zDe at z0 z1 z2
       have HF:=(show Hid _ from HH3.out.bx.res ⟨u.ge,18445336698825998336,fl6⟩)
       simp only at e0 e1 e2
       go_wp2_with fail
       refine bodyPost_ret (res1 rfl _ _ (w.heap.size+2) 39 _ (0,0) _ rfl HF.out.z Tryz.underlying39 rfl (by kernel_rfl)) rfl ?_
       rw[HR.out]
       exact⟨rfl,HF.out.bel⟩
   | false =>
     rw[a16] at kh16
     cases a32:hasU u 32 with
     | true =>
       rw[a32] at kh32
       have HR:Hid (R=⟨undW,u.se,(bits .or .i64 (bits .or .i64 8 (flagU d.fl u 4 2)) (flagU d.fl u 8 4))⟩):=by
        show R=_
        rw[HE.out]
        unfold rWishD rbase
        rw[if_pos (by exact Or.inr a32),if_neg (by rw[a16];simp),if_neg (by rw[hac];simp),if_pos a32]
       clear HE
       go_enter Tryz.func66,Tryz.ntmps66
       go_upto_region 1 with fail
       rw[←hwb]
       clear hwb
       go_wp2_with fail
       refine(kh16 _).mono ?_
       rintro e wh1 ⟨rfl,hBh⟩
       have HH1:=(show Hid _ from HB0.out.below hBh)
       obtain⟨x0,x1,x2⟩:=HH1.out.x.ce
       obtain⟨y0,y1,y2,y3,y4⟩:=HH1.out.y.ce
       clear hBh HB0
       go_wp2_with fail
       refine(kh32 _).mono ?_
       rintro e wh2 ⟨rfl,hBh⟩
       have HH2:=(show Hid _ from HH1.out.below hBh)
       obtain⟨x0,x1,x2⟩:=HH2.out.x.ce
       obtain⟨y0,y1,y2,y3,y4⟩:=HH2.out.y.ce
       clear hBh HH1
       have HN0:=(show Hid _ from WiS.new HH2.out ⟨18445336698825998336,18445336698825998336,0⟩)
       go_upto_region 6 with fail
       generalize (wh2.alloc (.cells #[.int .u64 18445336698825998336,.int .u64 18445336698825998336,.int .i64 0] 39))=wu at *
       generalize wh2.heap.size=bt at *
       have HX6:=HN0
       refine Code.wp_mono ?_ (wreg6 wu _ _ bt d.fl _ u _ _ _ _ HX6.out.bx.x HX6.out.bx.y HX6.out.x _ _ _ _ _ _ _ _ _ _ _ _ _ _ _ _ _ _ _ _ _ _ _ _ _ _ _ _ _ _ _ _ _ _ _ _ _ _ _ _ _ _ _ _ _ _ _ _ _ _ _ _ _ _ _ _ _ _ _ _ _ _ _ _ _ _ _ _ _ _ _ _ _ _ _ _ _ _ _ _ _ _ _ _ _ _ _ )
       intro ex a6 w6 hp6
       obtain⟨rfl,w5,u22,u23,u24,u25,u26,u27,u28,u29,u30,u31,u32,rfl,rfl,hb5⟩:=P6_out hp6
       have h5:=HX6.out.below hb5
       have HN2:=(show Hid _ from h5.one 2 (.int .i64 (bits .or .i64 (bits .or .i64 8 (flagU d.fl u 4 2)) (flagU d.fl u 8 4))) (h5.x.pfl (bits .or .i64 (bits .or .i64 8 (flagU d.fl u 4 2)) (flagU d.fl u 8 4))))
       generalize (w5.setCell ⟨bt,2,none⟩ (.int .i64 (bits .or .i64 (bits .or .i64 8 (flagU d.fl u 4 2)) (flagU d.fl u 8 4))))=w6 at *
       generalize (bits .or .i64 (bits .or .i64 8 (flagU d.fl u 4 2)) (flagU d.fl u 8 4))=fl6 at *
       clear hp6 hb5 h5 HX6 x0 x1 x2 y0 y1 y2 y3 y4
       obtain⟨x0,x1,x2⟩:=HN2.out.bx.x.ce
       obtain⟨y0,y1,y2,y3,y4⟩:=HN2.out.bx.y.ce
       obtain⟨e0,e1,e2⟩:=HN2.out.x.ce
       obtain⟨ef0,ef1,ef2⟩:=HN2.out.x.fz
       go_wp2_with fail
       refine(kh16 _).mono ?_
       rintro e wh3 ⟨rfl,hBh⟩
       have HH3:=(show Hid _ from HN2.out.below hBh)
       obtain⟨x0,x1,x2⟩:=HH3.out.bx.x.ce
       obtain⟨y0,y1,y2,y3,y4⟩:=HH3.out.bx.y.ce
       obtain⟨e0,e1,e2⟩:=HH3.out.x.ce
       obtain⟨ef0,ef1,ef2⟩:=HH3.out.x.fz
       clear hBh HN2
       go_wp2_with fail
       refine(kh32 _).mono ?_
       rintro e wh4 ⟨rfl,hBh⟩
       have HH4:=(show Hid _ from HH3.out.below hBh)
       obtain⟨x0,x1,x2⟩:=HH4.out.bx.x.ce
       obtain⟨y0,y1,y2,y3,y4⟩:=HH4.out.bx.y.ce
       obtain⟨e0,e1,e2⟩:=HH4.out.x.ce
       obtain⟨ef0,ef1,ef2⟩:=HH4.out.x.fz
       clear hBh HH3
       have HN4:=(show Hid _ from HH4.out.one 1 (.int .u64 u.se) (HH4.out.x.pse u.se))
       go_upto_region 11 with fail
       generalize (wh4.setCell ⟨bt,1,none⟩ (.int .u64 u.se))=wx at *
       obtain⟨x0,x1,x2⟩:=HN4.out.bx.x.ce
       obtain⟨y0,y1,y2,y3,y4⟩:=HN4.out.bx.y.ce
       obtain⟨e0,e1,e2⟩:=HN4.out.x.ce
       obtain⟨ef0,ef1,ef2⟩:=HN4.out.x.fz
       obtain⟨z0,z1,z2⟩:=HN4.out.bx.z.ce
       obtain⟨zf0,zf1,zf2⟩:=HN4.out.bx.z.fz
       unfold zDe at z0 z1 z2
       have HF:=(show Hid _ from HN4.out.bx.res ⟨18445336698825998336,u.se,fl6⟩)
       simp only at e0 e1 e2
       go_wp2_with fail
       refine bodyPost_ret (res1 rfl _ _ (w.heap.size+2) 39 _ (0,0) _ rfl HF.out.z Tryz.underlying39 rfl (by kernel_rfl)) rfl ?_
       rw[HR.out]
       exact⟨rfl,HF.out.bel⟩
     | false =>
       rw[a32] at kh32
       cases a1:hasU u 1 with
       | true =>
         rw[a1] at kh1
         have hk8:=hk
         have hcv:rconv d u=d:=by unfold rconv;rw[if_neg (by rintro⟨q,_⟩;rw[hac] at q;cases q)]
         have HR:Hid (R=⟨u.va,d.se,(bits .or .i64 (bits .or .i64 (bits .or .i64 (bits .and .i64 d.fl 8) (flagU d.fl u 2 1)) (flagU d.fl u 4 2)) (flagU d.fl u 8 4))⟩):=by
          show R=_
          rw[HE.out]
          unfold rWishD rflags
          rw[if_neg (by rintro(q | q);rw[a16] at q;cases q;rw[a32] at q;cases q),hcv,if_pos a1,if_neg (by rw[hk8];simp)]
         clear HE hcv
         go_enter Tryz.func66,Tryz.ntmps66
         go_upto_region 1 with fail
         rw[←hwb]
         clear hwb
         go_wp2_with fail
         refine(kh16 _).mono ?_
         rintro e wh1 ⟨rfl,hBh⟩
         have HH1:=(show Hid _ from HB0.out.below hBh)
         obtain⟨x0,x1,x2⟩:=HH1.out.x.ce
         obtain⟨y0,y1,y2,y3,y4⟩:=HH1.out.y.ce
         clear hBh HB0
         go_wp2_with fail
         refine(kh32 _).mono ?_
         rintro e wh2 ⟨rfl,hBh⟩
         have HH2:=(show Hid _ from HH1.out.below hBh)
         obtain⟨x0,x1,x2⟩:=HH2.out.x.ce
         obtain⟨y0,y1,y2,y3,y4⟩:=HH2.out.y.ce
         clear hBh HH1
         have HN0:=(show Hid _ from WiS.new HH2.out d)
         go_upto_region 15 with fail
         generalize (wh2.alloc (.cells #[.int .u64 d.va,.int .u64 d.se,.int .i64 d.fl] 39))=wt at *
         generalize wh2.heap.size=bt at *
         obtain⟨x0,x1,x2⟩:=HN0.out.bx.x.ce
         obtain⟨y0,y1,y2,y3,y4⟩:=HN0.out.bx.y.ce
         obtain⟨e0,e1,e2⟩:=HN0.out.x.ce
         obtain⟨ef0,ef1,ef2⟩:=HN0.out.x.fz
         go_upto_region 16 with fail
         have HX6:=HN0
         refine Code.wp_mono ?_ (wreg16 wt _ _ bt _ d.fl d.fl u _ _ _ _ HX6.out.bx.x HX6.out.bx.y HX6.out.x _ _ _ _ _ _ _ _ _ _ _ _ _ _ _ _ _ _ _ _ _ _ _ _ _ _ _ _ _ _ _ _ _ _ _ _ _ _ _ _ _ _ _ _ _ _ _ _ _ _ _ _ _ _ _ _ _ _ _ _ _ _ _ _ _ _ _ _ _ _ _ _ _ _ _ _ _ _ _ _ _ _ _ _ _ _ )
         intro ex a6 w6 hp6
         obtain⟨rfl,w5,u61,u62,u63,u64,u65,u66,u67,u68,u69,u70,u71,u72,u73,u74,u75,u76,u77,rfl,rfl,hb5⟩:=P16_out hp6
         have h5:=HX6.out.below hb5
         have HN2:=(show Hid _ from h5.one 2 (.int .i64 (bits .or .i64 (bits .or .i64 (bits .or .i64 (bits .and .i64 d.fl 8) (flagU d.fl u 2 1)) (flagU d.fl u 4 2)) (flagU d.fl u 8 4))) (h5.x.pfl (bits .or .i64 (bits .or .i64 (bits .or .i64 (bits .and .i64 d.fl 8) (flagU d.fl u 2 1)) (flagU d.fl u 4 2)) (flagU d.fl u 8 4))))
         generalize (w5.setCell ⟨bt,2,none⟩ (.int .i64 (bits .or .i64 (bits .or .i64 (bits .or .i64 (bits .and .i64 d.fl 8) (flagU d.fl u 2 1)) (flagU d.fl u 4 2)) (flagU d.fl u 8 4))))=w6 at *
         generalize (bits .or .i64 (bits .or .i64 (bits .or .i64 (bits .and .i64 d.fl 8) (flagU d.fl u 2 1)) (flagU d.fl u 4 2)) (flagU d.fl u 8 4))=fl6 at *
         clear hp6 hb5 h5 HX6 x0 x1 x2 y0 y1 y2 y3 y4 e0 e1 e2 ef0 ef1 ef2
         obtain⟨x0,x1,x2⟩:=HN2.out.bx.x.ce
         obtain⟨y0,y1,y2,y3,y4⟩:=HN2.out.bx.y.ce
         obtain⟨e0,e1,e2⟩:=HN2.out.x.ce
         obtain⟨ef0,ef1,ef2⟩:=HN2.out.x.fz
         go_wp2_with fail
         refine(kh1 _).mono ?_
         rintro e wh3 ⟨rfl,hBh⟩
         have HH3:=(show Hid _ from HN2.out.below hBh)
         obtain⟨x0,x1,x2⟩:=HH3.out.bx.x.ce
         obtain⟨y0,y1,y2,y3,y4⟩:=HH3.out.bx.y.ce
         obtain⟨e0,e1,e2⟩:=HH3.out.x.ce
         obtain⟨ef0,ef1,ef2⟩:=HH3.out.x.fz
         clear hBh HN2
         have HN4:=(show Hid _ from HH3.out.one 0 (.int .u64 u.va) (HH3.out.x.pva u.va))
         go_upto_region 21 with fail
         generalize (wh3.setCell ⟨bt,0,none⟩ (.int .u64 u.va))=wx at *
         obtain⟨x0,x1,x2⟩:=HN4.out.bx.x.ce
         obtain⟨y0,y1,y2,y3,y4⟩:=HN4.out.bx.y.ce
         obtain⟨e0,e1,e2⟩:=HN4.out.x.ce
         obtain⟨ef0,ef1,ef2⟩:=HN4.out.x.fz
         obtain⟨z0,z1,z2⟩:=HN4.out.bx.z.ce
         obtain⟨zf0,zf1,zf2⟩:=HN4.out.bx.z.fz
         unfold zDe at z0 z1 z2
         have HF:=(show Hid _ from HN4.out.bx.res ⟨u.va,d.se,fl6⟩)
         simp only at e0 e1 e2
         go_wp2_with fail
         refine bodyPost_ret (res1 rfl _ _ (w.heap.size+2) 39 _ (0,0) _ rfl HF.out.z Tryz.underlying39 rfl (by kernel_rfl)) rfl ?_
         rw[HR.out]
         exact⟨rfl,HF.out.bel⟩
       | false =>
         rw[a1] at kh1
         have hk8:=hk
         have hcv:rconv d u=d:=by unfold rconv;rw[if_neg (by rintro⟨q,_⟩;rw[hac] at q;cases q)]
         have HR:Hid (R=⟨d.va,d.se,(bits .or .i64 (bits .or .i64 (bits .or .i64 (bits .and .i64 d.fl 8) (flagU d.fl u 2 1)) (flagU d.fl u 4 2)) (flagU d.fl u 8 4))⟩):=by
          show R=_
          rw[HE.out]
          unfold rWishD rflags
          rw[if_neg (by rintro(q | q);rw[a16] at q;cases q;rw[a32] at q;cases q),hcv,if_neg (by rw[a1];simp),if_neg (by rw[hk8];simp)]
         clear HE hcv
         go_enter Tryz.func66,Tryz.ntmps66
         go_upto_region 1 with fail
         rw[←hwb]
         clear hwb
         go_wp2_with fail
         refine(kh16 _).mono ?_
         rintro e wh1 ⟨rfl,hBh⟩
         have HH1:=(show Hid _ from HB0.out.below hBh)
         obtain⟨x0,x1,x2⟩:=HH1.out.x.ce
         obtain⟨y0,y1,y2,y3,y4⟩:=HH1.out.y.ce
         clear hBh HB0
         go_wp2_with fail
         refine(kh32 _).mono ?_
         rintro e wh2 ⟨rfl,hBh⟩
         have HH2:=(show Hid _ from HH1.out.below hBh)
         obtain⟨x0,x1,x2⟩:=HH2.out.x.ce
         obtain⟨y0,y1,y2,y3,y4⟩:=HH2.out.y.ce
         clear hBh HH1
         have HN0:=(show Hid _ from WiS.new HH2.out d)
         go_upto_region 15 with fail
         generalize (wh2.alloc (.cells #[.int .u64 d.va,.int .u64 d.se,.int .i64 d.fl] 39))=wt at *
         generalize wh2.heap.size=bt at *
         obtain⟨x0,x1,x2⟩:=HN0.out.bx.x.ce
         obtain⟨y0,y1,y2,y3,y4⟩:=HN0.out.bx.y.ce
         obtain⟨e0,e1,e2⟩:=HN0.out.x.ce
         obtain⟨ef0,ef1,ef2⟩:=HN0.out.x.fz
         go_upto_region 16 with fail
         have HX6:=HN0
         refine Code.wp_mono ?_ (wreg16 wt _ _ bt _ d.fl d.fl u _ _ _ _ HX6.out.bx.x HX6.out.bx.y HX6.out.x _ _ _ _ _ _ _ _ _ _ _ _ _ _ _ _ _ _ _ _ _ _ _ _ _ _ _ _ _ _ _ _ _ _ _ _ _ _ _ _ _ _ _ _ _ _ _ _ _ _ _ _ _ _ _ _ _ _ _ _ _ _ _ _ _ _ _ _ _ _ _ _ _ _ _ _ _ _ _ _ _ _ _ _ _ _ )
         intro ex a6 w6 hp6
         obtain⟨rfl,w5,u61,u62,u63,u64,u65,u66,u67,u68,u69,u70,u71,u72,u73,u74,u75,u76,u77,rfl,rfl,hb5⟩:=P16_out hp6
         have h5:=HX6.out.below hb5
         have HN2:=(show Hid _ from h5.one 2 (.int .i64 (bits .or .i64 (bits .or .i64 (bits .or .i64 (bits .and .i64 d.fl 8) (flagU d.fl u 2 1)) (flagU d.fl u 4 2)) (flagU d.fl u 8 4))) (h5.x.pfl (bits .or .i64 (bits .or .i64 (bits .or .i64 (bits .and .i64 d.fl 8) (flagU d.fl u 2 1)) (flagU d.fl u 4 2)) (flagU d.fl u 8 4))))
         generalize (w5.setCell ⟨bt,2,none⟩ (.int .i64 (bits .or .i64 (bits .or .i64 (bits .or .i64 (bits .and .i64 d.fl 8) (flagU d.fl u 2 1)) (flagU d.fl u 4 2)) (flagU d.fl u 8 4))))=w6 at *
         generalize (bits .or .i64 (bits .or .i64 (bits .or .i64 (bits .and .i64 d.fl 8) (flagU d.fl u 2 1)) (flagU d.fl u 4 2)) (flagU d.fl u 8 4))=fl6 at *
         clear hp6 hb5 h5 HX6 x0 x1 x2 y0 y1 y2 y3 y4 e0 e1 e2 ef0 ef1 ef2
         obtain⟨x0,x1,x2⟩:=HN2.out.bx.x.ce
         obtain⟨y0,y1,y2,y3,y4⟩:=HN2.out.bx.y.ce
         obtain⟨e0,e1,e2⟩:=HN2.out.x.ce
         obtain⟨ef0,ef1,ef2⟩:=HN2.out.x.fz
         go_wp2_with fail
         refine(kh1 _).mono ?_
         rintro e wh3 ⟨rfl,hBh⟩
         have HH3:=(show Hid _ from HN2.out.below hBh)
         obtain⟨x0,x1,x2⟩:=HH3.out.bx.x.ce
         obtain⟨y0,y1,y2,y3,y4⟩:=HH3.out.bx.y.ce
         obtain⟨e0,e1,e2⟩:=HH3.out.x.ce
         obtain⟨ef0,ef1,ef2⟩:=HH3.out.x.fz
         clear hBh HN2
         obtain⟨z0,z1,z2⟩:=HH3.out.bx.z.ce
         obtain⟨zf0,zf1,zf2⟩:=HH3.out.bx.z.fz
         unfold zDe at z0 z1 z2
         have HF:=(show Hid _ from HH3.out.bx.res ⟨d.va,d.se,fl6⟩)
         simp only at e0 e1 e2
         go_wp2_with fail
         refine bodyPost_ret (res1 rfl _ _ (w.heap.size+2) 39 _ (0,0) _ rfl HF.out.z Tryz.underlying39 rfl (by kernel_rfl)) rfl ?_
         rw[HR.out]
         exact⟨rfl,HF.out.bel⟩
end Go.Proofs.YtahhionlbfhinabGreatDoor.Hp
