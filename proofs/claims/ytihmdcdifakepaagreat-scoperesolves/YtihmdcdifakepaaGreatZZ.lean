/- ZZ -/
import Derived.Test.YtihmdcdifakepaaGreatZY
import Derived.Test.YtihmdcdifakepaaGreatB32
import Derived.Test.YtihmdcdifakepaaGreatRJ
set_option linter.unusedVariables false
set_option linter.unusedSimpArgs false
set_option maxRecDepth 100000
set_option maxHeartbeats 40000000
namespace Go.Proofs.YtihmdcdifakepaaGreat.Rv.Rx
open Go.RowKit Go.Proofs.YtihmdcdifakepaaGreat.Sc Go.Proofs.YtihmdcdifakepaaGreat.Rz
def PrO (sc:List Rz.Scp)(vr:List Rz.Vr)(us:List Rz.Us)(a c:Int)(w:World)(e:Ending)(w':World):Prop :=
 Below w.heap.size w w'∧∃v0 v1 v2,e = .returned (.tuple #[.agg #[v0,v1,v2],.int .i64 a,.int .i64 c])∧OwnR scpC 4 53 w.heap.size w' v0 sc∧OwnR vrC 6 61 w.heap.size w' v1 vr∧OwnR usC 2 57 w.heap.size w' v2 us
theorem resolves_pair (w:World)(x:Nd)(ka:Option Addr)(kl kc:Nat)(sc:List Rz.Scp)(vr:List Rz.Vr)(us:List Rz.Us)(a c:Int)(m0:sc.length≤2000000)(m1:vr.length≤2000000)(m2:us.length≤2000000)
  (HC:∀w1,Below w.heap.size w w1→Calls Tryz.prog 4 #[.agg #[.int .i64 x.kind,.int .i64 x.pl,.string x.name,.int .u64 x.num,.string x.op,.slice ka kl kc]] w1 (PrO sc vr us a c w1))
  (HR:∀w1,Below w.heap.size w w1→Calls Tryz.prog 5 #[.agg #[.int .i64 x.kind,.int .i64 x.pl,.string x.name,.int .u64 x.num,.string x.op,.slice ka kl kc]] w1 (PrO sc vr us a c w1)) :
  Calls Tryz.prog 3 #[.agg #[.int .i64 x.kind,.int .i64 x.pl,.string x.name,.int .u64 x.num,.string x.op,.slice ka kl kc]] w fun e w'=>e = .returned (.bool true)∧Below w.heap.size w w':=by
 obtain⟨wb,hwb⟩:∃wb,wb=w.alloc (.cells #[.int .i64 x.kind,.int .i64 x.pl,.string x.name,.int .u64 x.num,.string x.op,.slice ka kl kc] 25):=⟨_,rfl⟩
 have hbl:Below w.heap.size w wb:=by rw[hwb];exact(Below.refl _ _).alloc (Nat.le_refl _) _
 have hX:NdB w.heap.size x (.slice ka kl kc) wb:=by rw[hwb];exact at_new _ _
 have k4:=HC wb hbl
 have HB:Hid (Below w.heap.size w wb):=hbl
 have HXW:Hid (NdB w.heap.size x (.slice ka kl kc) wb):=hX
 have HRR:Hid (∀w1,Below w.heap.size w w1→Calls Tryz.prog 5 #[.agg #[.int .i64 x.kind,.int .i64 x.pl,.string x.name,.int .u64 x.num,.string x.op,.slice ka kl kc]] w1 (PrO sc vr us a c w1)):=HR
 have HM:Hid (sc.length≤2000000∧vr.length≤2000000∧us.length≤2000000):=⟨m0,m1,m2⟩
 obtain⟨a0,a1,a2,a3,a4,a5⟩:=hX.cs
 clear hX hbl HC HR m0 m1 m2
 go_enter Tryz.func3,Tryz.ntmps3
 go_upto_region 1 with fail
 rw[←hwb]
 clear hwb
 go_wp2_with fail
 refine k4.mono ?_
 rintro e w1 ⟨hb1,v0,v1,v2,rfl,r0,r1,r2⟩
 obtain⟨p0,q0,rfl⟩:=row_len r0
 obtain⟨p1,q1,rfl⟩:=row_len r1
 obtain⟨p2,q2,rfl⟩:=row_len r2
 obtain⟨w2,hw2⟩:∃w2,w2=w1.alloc (.cells #[.slice p0 sc.length q0,.slice p1 vr.length q1,.slice p2 us.length q2] 30):=⟨_,rfl⟩
 have hb2:Below w1.heap.size w1 w2:=by rw[hw2];exact(Below.refl _ _).alloc (Nat.le_refl _) _
 have hbb:Below wb.heap.size wb w2:=hb1.trans (hb2.mono hb1.size)
 have HB2:Hid (Below w.heap.size w w2):=HB.out.trans (hbb.mono HB.out.size)
 have t0:w2.cell? ⟨w1.heap.size,0,none⟩=some (.slice p0 sc.length q0):=by rw[hw2];exact box_new w1 _ _ 0 _ rfl
 have t1:w2.cell? ⟨w1.heap.size,1,none⟩=some (.slice p1 vr.length q1):=by rw[hw2];exact box_new w1 _ _ 1 _ rfl
 have t2:w2.cell? ⟨w1.heap.size,2,none⟩=some (.slice p2 us.length q2):=by rw[hw2];exact box_new w1 _ _ 2 _ rfl
 have HT:Hid (w2.cell? ⟨w1.heap.size,0,none⟩=some (.slice p0 sc.length q0)∧w2.cell? ⟨w1.heap.size,1,none⟩=some (.slice p1 vr.length q1)∧w2.cell? ⟨w1.heap.size,2,none⟩=some (.slice p2 us.length q2)):=⟨t0,t1,t2⟩
 have HRW:Hid (OwnR scpC 4 53 wb.heap.size w2 (.slice p0 sc.length q0) sc∧OwnR vrC 6 61 wb.heap.size w2 (.slice p1 vr.length q1) vr∧OwnR usC 2 57 wb.heap.size w2 (.slice p2 us.length q2) us):=⟨r0.below hb2,r1.below hb2,r2.below hb2⟩
 have k5:=HRR.out w2 HB2.out
 have e0:=Sc.cells_below hbb _ _ a0
 have e1:=Sc.cells_below hbb _ _ a1
 have e2:=Sc.cells_below hbb _ _ a2
 have e3:=Sc.cells_below hbb _ _ a3
 have e4:=Sc.cells_below hbb _ _ a4
 have e5:=Sc.cells_below hbb _ _ a5
 clear k4 a0 a1 a2 a3 a4 a5 hb1 hb2 hbb r0 r1 r2 HXW t0 t1 t2 HRR
 go_upto_region 2 with fail
 rw[←hw2]
 clear hw2
 go_wp2_with fail
 refine k5.mono ?_
 rintro e w5 ⟨hb5,u0,u1,u2,rfl,s0,s1,s2⟩
 obtain⟨j0,l0,rfl⟩:=row_len s0
 obtain⟨j1,l1,rfl⟩:=row_len s1
 obtain⟨j2,l2,rfl⟩:=row_len s2
 obtain⟨w6,hw6⟩:∃w6,w6=w5.alloc (.cells #[.slice j0 sc.length l0,.slice j1 vr.length l1,.slice j2 us.length l2] 30):=⟨_,rfl⟩
 have hb6:Below w5.heap.size w5 w6:=by rw[hw6];exact(Below.refl _ _).alloc (Nat.le_refl _) _
 have HB46:Hid (Below w2.heap.size w2 w6):=hb5.trans (hb6.mono hb5.size)
 have z0:w6.cell? ⟨w5.heap.size,0,none⟩=some (.slice j0 sc.length l0):=by rw[hw6];exact box_new w5 _ _ 0 _ rfl
 have z1:w6.cell? ⟨w5.heap.size,1,none⟩=some (.slice j1 vr.length l1):=by rw[hw6];exact box_new w5 _ _ 1 _ rfl
 have z2:w6.cell? ⟨w5.heap.size,2,none⟩=some (.slice j2 us.length l2):=by rw[hw6];exact box_new w5 _ _ 2 _ rfl
 have HZ:Hid (w6.cell? ⟨w5.heap.size,0,none⟩=some (.slice j0 sc.length l0)∧w6.cell? ⟨w5.heap.size,1,none⟩=some (.slice j1 vr.length l1)∧w6.cell? ⟨w5.heap.size,2,none⟩=some (.slice j2 us.length l2)):=⟨z0,z1,z2⟩
 have HQ:Hid (OwnR scpC 4 53 w2.heap.size w6 (.slice j0 sc.length l0) sc∧OwnR vrC 6 61 w2.heap.size w6 (.slice j1 vr.length l1) vr∧OwnR usC 2 57 w2.heap.size w6 (.slice j2 us.length l2) us):=⟨s0.below hb6,s1.below hb6,s2.below hb6⟩
 have hal:=alive_any w6
 clear k5 hb5 hb6 s0 s1 s2 e0 e1 e2 e3 e4 e5 z0 z1 z2
 go_upto_region 3 with fail
 rw[←hw6]
 clear hw6
 go_wp2_with fail
 refine hal.mono ?_
 rintro e w8 ⟨rfl,hb8⟩
 have HF8:Hid (Below w2.heap.size w2 w8):=HB46.out.trans (hb8.mono HB46.out.size)
 have HG8:Hid (Below w.heap.size w w8):=HB2.out.trans (HF8.out.mono HB2.out.size)
 obtain⟨t0,t1,t2⟩:=HT.out
 obtain⟨z0,z1,z2⟩:=HZ.out
 have T0:=Sc.cells_below HF8.out _ _ t0
 have T1:=Sc.cells_below HF8.out _ _ t1
 have T2:=Sc.cells_below HF8.out _ _ t2
 have Z0:=Sc.cells_below hb8 _ _ z0
 have Z1:=Sc.cells_below hb8 _ _ z1
 have Z2:=Sc.cells_below hb8 _ _ z2
 obtain⟨r0,r1,r2⟩:=HRW.out
 obtain⟨g0,g1,g2⟩:=HQ.out
 obtain⟨m0,m1,m2⟩:=HM.out
 have k7:=same_any w8 wb.heap.size w2.heap.size sc vr us _ _ _ _ _ _ (r0.below HF8.out) (r1.below HF8.out) (r2.below HF8.out) (g0.below hb8) (g1.below hb8) (g2.below hb8) m0 m1 m2
 clear r0 r1 r2 m0 m1 m2 g0 g1 g2 t0 t1 t2 z0 z1 z2 HQ HT HZ HRW hal hb8
 go_wp2_with fail
 refine k7.mono ?_
 rintro e w9 ⟨rfl,hb9⟩
 have HG9:Hid (Below w.heap.size w w9):=HG8.out.trans (hb9.mono HG8.out.size)
 clear k7 hb9
 go_wp2_with fail
 go_ret
 exact⟨rfl,HG9.out⟩
end Go.Proofs.YtihmdcdifakepaaGreat.Rv.Rx
