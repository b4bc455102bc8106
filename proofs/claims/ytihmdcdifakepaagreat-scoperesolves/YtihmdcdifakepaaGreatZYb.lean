/- ZYb -/
import Derived.Test.YtihmdcdifakepaaGreatZY
import Derived.Test.YtihmdcdifakepaaGreatB32
set_option linter.unusedVariables false
set_option linter.unusedSimpArgs false
set_option maxRecDepth 100000
set_option maxHeartbeats 40000000
namespace Go.Proofs.YtihmdcdifakepaaGreat.Rv.Rx
open Go.RowKit Go.Proofs.YtihmdcdifakepaaGreat.Sc Go.Proofs.YtihmdcdifakepaaGreat.Rz
theorem rresolve_wrong (w:World)(n:Nat)(x:Nd)(sl:Sli (Tr n))(hok:okT (n+1) w ((x,sl):Nd×Sli (Tr n)))(hr:rootP (n+1) ((x,sl):Nd×Sli (Tr n))=false) :
  Calls Tryz.prog 5 #[.agg #[.int .i64 x.kind,.int .i64 x.pl,.string x.name,.int .u64 x.num,.string x.op,.slice sl.at' sl.xs.length sl.cap]] w (ResD w (.error (x.pl,70))):=by
 obtain⟨w4,hw4⟩:∃w4,w4=(w.alloc (.cells #[.int .i64 x.kind,.int .i64 x.pl,.string x.name,.int .u64 x.num,.string x.op,.slice sl.at' sl.xs.length sl.cap] 25)).alloc (.cells #[.slice none 0 0,.slice none 0 0,.slice none 0 0] 30):=⟨_,rfl⟩
 have hB4:Below w.heap.size w w4:=by rw[hw4];exact((Below.refl w.heap.size w).alloc (Nat.le_refl _) _).alloc (by simp) _
 have hx:BxD w4 w.heap.size x (.slice sl.at' sl.xs.length sl.cap):=by rw[hw4];exact BxD.made w x _
 have hRt:rootR (n+1) ((x,sl):Nd×Sli (Tr n))=false:=(root_same (n+1) ((x,sl):Nd×Sli (Tr n))).symm.trans hr
 have hcall:Calls Tryz.prog 11 #[.agg #[.int .i64 x.kind,.int .i64 x.pl,.string x.name,.int .u64 x.num,.string x.op,.slice sl.at' sl.xs.length sl.cap]] w4 fun e w'=>e = .returned (.bool false)∧Below w4.heap.size w4 w':=(refRight_any (n+1) ((x,sl):Nd×Sli (Tr n)) w4 (okT_kept hok (Sc.cells_below hB4))).mono fun e w' ⟨h1,h2⟩=>⟨h1.trans (congrArg (fun b=>Ending.returned (.bool b)) hRt),h2⟩
 have HB4:Hid (Below w.heap.size w w4):=hB4
 have HX:Hid (BxD w4 w.heap.size x (.slice sl.at' sl.xs.length sl.cap)):=hx
 clear hB4 hx hok hr hRt
 generalize sl.at'=ka at *
 generalize sl.cap=kc at *
 generalize sl.xs.length=kl at *
 obtain⟨b0,b1,b2,b3,b4,b5⟩:=HX.out.nd.cs
 go_enter Tryz.func5,Tryz.ntmps5
 go_upto_region 1 with fail
 rw[←hw4]
 clear hw4
 go_wp2_with fail
 refine hcall.mono ?_
 rintro e w5 ⟨rfl,hb5⟩
 have H5:Hid (Below w.heap.size w w5):=HB4.out.trans (hb5.mono HB4.out.size)
 have X5:Hid (BxD w5 w.heap.size x (.slice ka kl kc)):=HX.out.kept (S:=fun _=>False) (Chg.of_below hb5) (fun _ q=>q.elim)
 clear b0 b1 b2 b3 b4 b5
 obtain⟨_,b1,_,_,_,_⟩:=X5.out.nd.cs
 have s0:=X5.out.s0
 have s1:=X5.out.s1
 have s2:=X5.out.s2
 have g0:=X5.out.f 0
 have g1:=X5.out.f 1
 have g2:=X5.out.f 2
 clear hcall hb5 HB4 HX
 go_wp2_with fail
 go_region_held_law (fun w'=>w'.cell? ⟨w.heap.size,1,none⟩=some (.int .i64 x.pl)) (first | exact b1 | go_keep) (fail)
 go_wp2_with fail
 refine bodyPost_ret (v := .tuple #[.agg #[.slice none 0 0,.slice none 0 0,.slice none 0 0],.int .i64 x.pl,.int .i64 70]) (by simp[results,Tryz.results5,go_sem,s0,s1,s2]) rfl ⟨?_,rfl⟩
 exact(Below.setCell (Below.setCell (Below.setCell H5.out (by simp) _) (by simp) _) (by simp) _).drew
theorem rresolve_right (w:World)(n:Nat)(x:Nd)(sl:Sli (Tr n))(hok:okT (n+1) w ((x,sl):Nd×Sli (Tr n)))(hr:rootP (n+1) ((x,sl):Nd×Sli (Tr n))=true)(hft:FitD (n+1) ((x,sl):Nd×Sli (Tr n)))(hsz:szT (n+1) ((x,sl):Nd×Sli (Tr n))≤131072)(hn:n≤1000) :
  Calls Tryz.prog 5 #[.agg #[.int .i64 x.kind,.int .i64 x.pl,.string x.name,.int .u64 x.num,.string x.op,.slice sl.at' sl.xs.length sl.cap]] w (ResD w (resolveR bi (n+1) ((x,sl):Nd×Sli (Tr n)))):=by
 obtain⟨w4,hw4⟩:∃w4,w4=(w.alloc (.cells #[.int .i64 x.kind,.int .i64 x.pl,.string x.name,.int .u64 x.num,.string x.op,.slice sl.at' sl.xs.length sl.cap] 25)).alloc (.cells #[.slice none 0 0,.slice none 0 0,.slice none 0 0] 30):=⟨_,rfl⟩
 have hB4:Below w.heap.size w w4:=by rw[hw4];exact((Below.refl w.heap.size w).alloc (Nat.le_refl _) _).alloc (by simp) _
 have hx:BxD w4 w.heap.size x (.slice sl.at' sl.xs.length sl.cap):=by rw[hw4];exact BxD.made w x _
 have hRt:rootR (n+1) ((x,sl):Nd×Sli (Tr n))=true:=(root_same (n+1) ((x,sl):Nd×Sli (Tr n))).symm.trans hr
 have hcall:Calls Tryz.prog 11 #[.agg #[.int .i64 x.kind,.int .i64 x.pl,.string x.name,.int .u64 x.num,.string x.op,.slice sl.at' sl.xs.length sl.cap]] w4 fun e w'=>e = .returned (.bool true)∧Below w4.heap.size w4 w':=(refRight_any (n+1) ((x,sl):Nd×Sli (Tr n)) w4 (okT_kept hok (Sc.cells_below hB4))).mono fun e w' ⟨h1,h2⟩=>⟨h1.trans (congrArg (fun b=>Ending.returned (.bool b)) hRt),h2⟩
 have HB4:Hid (Below w.heap.size w w4):=hB4
 have HX:Hid (BxD w4 w.heap.size x (.slice sl.at' sl.xs.length sl.cap)):=hx
 have hsum:szT (n+1) ((x,sl):Nd×Sli (Tr n))=1+(sl.xs.map (szT n)).sum:=rfl
 obtain⟨⟨hxw,hso,hkt⟩,hf5⟩:okT (n+1) w ((x,sl):Nd×Sli (Tr n))∧FitD (n+1) ((x,sl):Nd×Sli (Tr n)):=⟨hok,hft⟩
 have HBK:Hid (∀(w8:World) (wb:Nat),OnD w wb (fun b=>wb≤b∧b<wb+4) (openP (startP x.pl)) 0 0 (.slice none 0 0) w8→Calls Tryz.prog 12 #[.pointer (some ⟨wb,0,none⟩),.slice sl.at' sl.xs.length sl.cap] w8 (Tl w8 w.heap.size wb (fun b=>wb≤b∧b<wb+4) (.slice none 0 0) (8*(sl.xs.map (szT n)).sum) (resolveR bi (n+1) ((x,sl):Nd×Sli (Tr n))) (openP (startP x.pl)) 0 0)):=fun w8 wb h8 =>
  block_all w n w8 wb _ (openP (startP x.pl)) 0 0 _ h8 sl hso (fun y hy=>⟨hkt y hy,hf5.2.2.2.2 y hy⟩) (by
   have:cr (openP (startP x.pl))=1:=rfl
   unfold lim
   omega) (by
   have:dp (openP (startP x.pl))≤1:=by unfold dp openP startP;simp
   unfold lim
   omega) (by simp[openP,startP])
 clear hB4 hx hok hr hRt hft hsz hn hsum hxw hso hkt hf5
 generalize resolveR bi (n+1) ((x,sl):Nd×Sli (Tr n))=R at *
 generalize 8*(sl.xs.map (szT n)).sum=km at *
 generalize sl.at'=ka at *
 generalize sl.cap=kc at *
 generalize sl.xs.length=kl at *
 obtain⟨b0,b1,b2,b3,b4,b5⟩:=HX.out.nd.cs
 go_enter Tryz.func5,Tryz.ntmps5
 go_upto_region 1 with fail
 rw[←hw4]
 clear hw4
 go_wp2_with fail
 refine hcall.mono ?_
 rintro e w5 ⟨rfl,hb5⟩
 have H5:Hid (Below w.heap.size w w5):=HB4.out.trans (hb5.mono HB4.out.size)
 have X5:Hid (BxD w5 w.heap.size x (.slice ka kl kc)):=HX.out.kept (S:=fun _=>False) (Chg.of_below hb5) (fun _ q=>q.elim)
 clear b0 b1 b2 b3 b4 b5
 clear hcall hb5 HB4 HX
 obtain⟨w6,hw6⟩:∃w6,w6=w5.alloc (.cells #[.slice none 0 0,.slice none 0 0,.slice none 0 0,.slice none 0 0,.int .i64 0,.slice none 0 0,.int .i64 0,.int .i64 0,.int .i64 0] 51):=⟨_,rfl⟩
 have hb6:Below w5.heap.size w5 w6:=by rw[hw6];exact(Below.refl _ _).alloc (Nat.le_refl _) _
 have hs6:w6.heap.size=w5.heap.size+1:=by rw[hw6,size_new]
 have hbx:w6.heap[w5.heap.size]?=some (.cells #[.slice none 0 0,.slice none 0 0,.slice none 0 0,.slice none 0 0,.int .i64 0,.slice none 0 0,.int .i64 0,.int .i64 0,.int .i64 0] 51 (0,0)):=by rw[hw6];exact at_new _ _
 have X6:Hid (BxD w6 w.heap.size x (.slice ka kl kc)):=X5.out.kept (S:=fun _=>False) (Chg.of_below hb6) (fun _ q=>q.elim)
 have H6:Hid (Below w.heap.size w w6):=H5.out.trans (hb6.mono H5.out.size)
 have HL:Hid (w.heap.size+2≤w5.heap.size):=X5.out.lt
 obtain⟨wb,hwb⟩:∃wb,wb=w5.heap.size:=⟨_,rfl⟩
 rw[←hwb] at hbx hs6 HL
 have HBX:Hid (w6.heap[wb]?=some (.cells #[.slice none 0 0,.slice none 0 0,.slice none 0 0,.slice none 0 0,.int .i64 0,.slice none 0 0,.int .i64 0,.int .i64 0,.int .i64 0] 51 (0,0))):=hbx
 have HS6:Hid (w6.heap.size=wb+1):=hs6
 have c0:w6.cell? ⟨wb,0,none⟩=some (.slice none 0 0):=cell_of_row w6 _ 0 _ _ (0,0) hbx
 have c3:w6.cell? ⟨wb,3,none⟩=some (.slice none 0 0):=cell_of_row w6 _ 3 _ _ (0,0) hbx
 have f0:w6.frozen? ⟨wb,0,none⟩=false:=frozen_of_row w6 wb 0 _ _ hbx
 have f3:w6.frozen? ⟨wb,3,none⟩=false:=frozen_of_row w6 wb 3 _ _ hbx
 obtain⟨_,b1,_,_,_,b5⟩:=X6.out.nd.cs
 have hne:¬wb=w6.heap.size:=by omega
 have hne2:¬wb=w.heap.size:=by have:=HL.out;omega
 clear hb6 X5 H5 hbx hs6
 obtain⟨w7,hw7⟩:∃w7,w7=w6.setCell ⟨wb,0,none⟩ (.slice (some ⟨wb+1,0,none⟩) 1 1):=⟨_,rfl⟩
 have hc7:Chg (fun b=>b=wb) w6 w7:=by rw[hw7];exact Chg.set (S:=fun b=>b=wb) _ _ _ rfl
 have hs7:w7.heap.size=wb+1:=by rw[hw7,←HS6.out];simp[go_sem]
 have hb7:w7.heap[wb]?=some (.cells #[.slice (some ⟨wb+1,0,none⟩) 1 1,.slice none 0 0,.slice none 0 0,.slice none 0 0,.int .i64 0,.slice none 0 0,.int .i64 0,.int .i64 0,.int .i64 0] 51 (0,0)):=by rw[hw7];exact heap_setCell_same w6 wb 0 _ _ _ HBX.out
 obtain⟨w8,hw8⟩:∃w8,w8=w7.alloc (.cells #[.int .i64 x.pl,.int .i64 (-1),.int .i64 0,.int .i64 0] 53):=⟨_,rfl⟩
 have hl8:Below w7.heap.size w7 w8:=by rw[hw8];exact(Below.refl _ _).alloc (Nat.le_refl _) _
 have hs8:w8.heap.size=wb+2:=by rw[hw8,size_new,hs7]
 have hb8:w8.heap[wb]?=some (.cells #[.slice (some ⟨wb+1,0,none⟩) 1 1,.slice none 0 0,.slice none 0 0,.slice none 0 0,.int .i64 0,.slice none 0 0,.int .i64 0,.int .i64 0,.int .i64 0] 51 (0,0)):=(hl8.block wb (by rw[hs7];omega)).trans hb7
 have hz8:w8.heap[wb+1]?=some (.cells #[.int .i64 x.pl,.int .i64 (-1),.int .i64 0,.int .i64 0] 53 (0,0)):=by rw[hw8,←hs7];exact at_new _ _
 have c3a:w8.cell? ⟨wb,3,none⟩=some (.slice none 0 0):=cell_of_row w8 _ 3 _ _ (0,0) hb8
 have f3a:w8.frozen? ⟨wb,3,none⟩=false:=frozen_of_row w8 wb 3 _ _ hb8
 obtain⟨w9,hw9⟩:∃w9,w9=w8.setCell ⟨wb,3,none⟩ (.slice (some ⟨wb+3,0,none⟩) 1 1):=⟨_,rfl⟩
 have hc9:Chg (fun b=>b=wb) w8 w9:=by rw[hw9];exact Chg.set (S:=fun b=>b=wb) _ _ _ rfl
 have hs9:w9.heap.size=wb+2:=by rw[hw9,←hs8];simp[go_sem]
 have hb9:w9.heap[wb]?=some (.cells #[.slice (some ⟨wb+1,0,none⟩) 1 1,.slice none 0 0,.slice none 0 0,.slice (some ⟨wb+3,0,none⟩) 1 1,.int .i64 0,.slice none 0 0,.int .i64 0,.int .i64 0,.int .i64 0] 51 (0,0)):=by rw[hw9];exact heap_setCell_same w8 wb 3 _ _ _ hb8
 have hz9:w9.heap[wb+1]?=some (.cells #[.int .i64 x.pl,.int .i64 (-1),.int .i64 0,.int .i64 0] 53 (0,0)):=(hc9.block (wb+1) (by rw[hs8];omega) (by omega)).trans hz8
 obtain⟨wx,hwx⟩:∃wx,wx=w9.alloc (.cells #[] 86):=⟨_,rfl⟩
 have hlx:Below w9.heap.size w9 wx:=by rw[hwx];exact(Below.refl _ _).alloc (Nat.le_refl _) _
 have hsx:wx.heap.size=wb+3:=by rw[hwx,size_new,hs9]
 obtain⟨wz,hwz⟩:∃wz,wz=wx.alloc (.cells #[.slice (some ⟨wb+2,0,none⟩) 0 0] 54):=⟨_,rfl⟩
 have hlz:Below wx.heap.size wx wz:=by rw[hwz];exact(Below.refl _ _).alloc (Nat.le_refl _) _
 have h9z:Below w9.heap.size w9 wz:=hlx.trans (hlz.mono hlx.size)
 have hcz:Chg (fun b=>b=wb) w6 wz:=((hc7.trans (Chg.of_below (S:=fun b=>b=wb) hl8) (fun _ _ q=>q)).trans hc9 (fun _ _ q=>q)).trans (Chg.of_below (S:=fun b=>b=wb) h9z) (fun _ _ q=>q)
 have hz2:wz.heap[wb+2]?=some (.cells #[] 86 (0,0)):=(hlz.block (wb+2) (by rw[hsx];omega)).trans (by rw[hwx,←hs9];exact at_new _ _)
 have hz3:wz.heap[wb+3]?=some (.cells #[.slice (some ⟨wb+2,0,none⟩) 0 0] 54 (0,0)):=by rw[hwz,←hsx];exact at_new _ _
 have hm:=mem_startD (w:=wz) (B:=w.heap.size) (wb:=wb) (pl:=x.pl) (by have:=HL.out;omega) ((h9z.block wb (by rw[hs9];omega)).trans hb9) ((h9z.block (wb+1) (by rw[hs9];omega)).trans hz9) hz2 hz3
 have HON:Hid (OnD w wb (fun b=>wb≤b∧b<wb+4) (openP (startP x.pl)) 0 0 (.slice none 0 0) wz):=⟨hm,hcz.below H6.out H6.out.size (fun b q=>by have:=HL.out;omega)⟩
 have XZ:Hid (BxD wz w.heap.size x (.slice ka kl kc)):=X6.out.kept hcz (fun b q=>by have:=HL.out;omega)
 have hk:=HBK.out wz wb HON.out
 have hn7:w6.heap.size=wb+1:=HS6.out
 obtain⟨_,_,_,_,_,z5⟩:=XZ.out.nd.cs
 have b5a:w8.cell? ⟨w.heap.size,5,none⟩=some (.slice ka kl kc):=by
  have h78:=X6.out.kept (hc7.trans (Chg.of_below (S:=fun b=>b=wb) hl8) (fun _ _ q=>q)) (fun b q=>by have:=HL.out;omega)
  exact h78.nd.cs.2.2.2.2.2
 clear hc7 hs7 hb7 hl8 hb8 hz8 hc9 hs9 hb9 hz9 hlx hsx hlz h9z hcz hz2 hz3 hm
 go_upto_region 5 with fail
 rw[←hw6,←hwb]
 clear hw6 hwb
 go_upto_region 6 with fail
 rw[←hw7,←hw8]
 clear hw7 hw8 c0 f0 c3 f3 hn7
 go_upto_region 7 with fail
 rw[show wb+2+1=wb+3 from rfl,←hw9,←hwx,←hwz]
 clear hw9 hwx hwz b5a c3a f3a hs8
 have HWB:Hid (Below w.heap.size w wz):=HON.out.bel
 clear HON X6 H6 HBX HS6 HBK b1 b5 hne hne2
 go_wp2_with fail
 refine hk.mono ?_
 rintro e wA ⟨rfl,s',c',a',ht,O',⟨tg,M,hat,_,_,hO⟩,hcA,hO'⟩
 have XA:Hid (BxD wA w.heap.size x (.slice ka kl kc)):=XZ.out.kept hcA (fun b q=>by have:=HL.out;omega)
 have HA:Hid (Below w.heap.size w wA):=hcA.below HWB.out HWB.out.size (fun b q=>by have:=HL.out;omega)
 have hown:∀b,tg b≠0→w.heap.size+2≤b:=fun b q=>by
  rcases hO' b ((hO b).2 q) with r | r
  ·have:=HL.out;omega
  ·have:=HWB.out.size;have:=XZ.out.lt;omega
 obtain⟨q0,q1,q2,_,_,_,_,q7,q8,_⟩:=hat.box
 have r0:RowIn scpC 4 53 w.heap.size wA _ M.v0 s'.scopes:=hat.prt 2
 have r1:RowIn vrC 6 61 w.heap.size wA _ M.v1 s'.vars:=hat.prt 3
 have r2:RowIn usC 2 57 w.heap.size wA _ M.v2 s'.uses:=hat.prt 4
 obtain⟨p0,j0,e0⟩:=row_len r0.1
 obtain⟨p1,j1,e1⟩:=row_len r1.1
 obtain⟨p2,j2,e2⟩:=row_len r2.1
 have s0:=XA.out.s0
 have s1:=XA.out.s1
 have s2:=XA.out.s2
 have g0:=XA.out.f 0
 have g1:=XA.out.f 1
 have g2:=XA.out.f 2
 have hsd:=ht.good rfl
 clear hk ht hcA hO' hO XZ HWB z5
 cases R with
 | error er =>
   obtain⟨p,ec⟩:=er
   obtain⟨rfl,rfl,hne⟩:=hsd
   have hcn:(c' != (0:Int))=true:=by simpa using hne
   clear r0 r1 r2 e0 e1 e2 q0 q1 q2 hat hown hne
   have hnw:¬wb=w.heap.size+1:=by have:=HL.out;omega
   have hnw2:¬w.heap.size+1=wb:=fun e=>hnw e.symm
   go_wp2_with fail
   go_region_held_law (fun w'=>w'.cell? ⟨wb,7,none⟩=some (.int .i64 c')∧w'.cell? ⟨wb,8,none⟩=some (.int .i64 a')) (first | exact⟨q7,q8⟩ | go_keep) (fail)
   go_wp2_with fail
   refine bodyPost_ret (v := .tuple #[.agg #[.slice none 0 0,.slice none 0 0,.slice none 0 0],.int .i64 a',.int .i64 c']) (by simp[results,Tryz.results5,go_sem,s0,s1,s2]) rfl ⟨?_,rfl⟩
   exact(Below.setCell (Below.setCell (Below.setCell HA.out (by simp) _) (by simp) _) (by simp) _).drew
 | ok sR =>
   obtain⟨rfl,rfl⟩:=hsd
   rw[e0] at q0
   rw[e1] at q1
   rw[e2] at q2
   have HR:Hid (OwnR scpC 4 53 w.heap.size wA (.slice p0 s'.scopes.length j0) s'.scopes∧OwnR vrC 6 61 w.heap.size wA (.slice p1 s'.vars.length j1) s'.vars∧OwnR usC 2 57 w.heap.size wA (.slice p2 s'.uses.length j2) s'.uses):=⟨by rw[←e0];exact r0.1,by rw[←e1];exact r1.1,by rw[←e2];exact r2.1⟩
   have HN:Hid (∀k,((Value.slice p0 s'.scopes.length j0).ownBlock=some k∨(Value.slice p1 s'.vars.length j1).ownBlock=some k∨(Value.slice p2 s'.uses.length j2).ownBlock=some k)→¬k=w.heap.size+1):=fun k q hk=>by
    have:tg k≠0:=by
     rcases q with q | q | q
     ·rw[←e0] at q
      rw[r0.2 k q];decide
     ·rw[←e1] at q
      rw[r1.2 k q];decide
     ·rw[←e2] at q
      rw[r2.2 k q];decide
    have:=hown k this
    omega
   clear r0 r1 r2 e0 e1 e2 hat hown
   go_wp2_with fail
   obtain⟨w8,hw8⟩:∃w8,w8=((wA.setCell ⟨w.heap.size+1,0,none⟩ (.slice p0 s'.scopes.length j0)).setCell ⟨w.heap.size+1,1,none⟩ (.slice p1 s'.vars.length j1)).setCell ⟨w.heap.size+1,2,none⟩ (.slice p2 s'.uses.length j2):=⟨_,rfl⟩
   have hc8:Chg (fun k=>k=w.heap.size+1) wA w8:=by
    rw[hw8]
    exact((Chg.set (S:=fun k=>k=w.heap.size+1) wA ⟨w.heap.size+1,0,none⟩ _ rfl).trans (Chg.set (S:=fun k=>k=w.heap.size+1) _ ⟨w.heap.size+1,1,none⟩ _ rfl) (fun _ _ q=>q)).trans (Chg.set (S:=fun k=>k=w.heap.size+1) _ ⟨w.heap.size+1,2,none⟩ _ rfl) (fun _ _ q=>q)
   have z0:=HR.out.1.kept hc8 (fun b q=>HN.out b (Or.inl q))
   have z1:=HR.out.2.1.kept hc8 (fun b q=>HN.out b (Or.inr (Or.inl q)))
   have z2:=HR.out.2.2.kept hc8 (fun b q=>HN.out b (Or.inr (Or.inr q)))
   have H8:Below w.heap.size w w8:=hc8.below HA.out HA.out.size (fun b q=>by omega)
   refine bodyPost_ret (v := .tuple #[.agg #[.slice p0 s'.scopes.length j0,.slice p1 s'.vars.length j1,.slice p2 s'.uses.length j2],.int .i64 0,.int .i64 0]) (by simp[results,Tryz.results5,go_sem,s0,s1,s2]) rfl ?_
   rw[←hw8]
   exact⟨H8,_,_,_,rfl,z0,z1,z2⟩
end Go.Proofs.YtihmdcdifakepaaGreat.Rv.Rx
