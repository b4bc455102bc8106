/- XH, XI -/
import Derived.Test.YtihmdcdifakepaaGreatB16
import Derived.Deep.RegionWith
set_option linter.unusedVariables false
set_option linter.unusedSimpArgs false
set_option maxRecDepth 100000
set_option maxHeartbeats 40000000
namespace Go.Proofs.YtihmdcdifakepaaGreat.Sc
open Go.RowKit
theorem here_3 {B cb mu md:Nat}{W0:World}(pl num:Int)(name op:ByteArray)(ad:Option Addr)(len cap:Nat)(hwf:(Lit.int .i64 pl).wf=true)(hl:len≤2 ^ 63 - 1)(w:World)(hb:Below B W0 w)(hBE:B=W0.heap.size)(star:Bool)(st:St)(m:Nat)(hck:CkAt B cb mu md w star st m)(hm:m+1≤1000000)  :
  Calls Tryz.prog 23 #[.pointer (some ⟨cb,0,none⟩),.agg #[.int .i64 3,.int .i64 pl,.string name,.int .u64 num,.string op,.slice ad len cap]] w (PcPost B cb mu md w star (takeU st pl) (m+1)):=by
 obtain⟨wb,hwb⟩:∃wb,wb=w.alloc (.cells #[.int .i64 3,.int .i64 pl,.string name,.int .u64 num,.string op,.slice ad len cap] 25):=⟨_,rfl⟩
 have hbl:Below w.heap.size w wb:=by rw[hwb];exact(Below.refl _ _).alloc (Nat.le_refl _) _
 have HF:Hid (Fp B W0 w (Cs cb mu md) w.heap.size #[.int .i64 3,.int .i64 pl,.string name,.int .u64 num,.string op,.slice ad len cap] wb):=by rw[hwb];exact Fp.start hb hck.size hck.lts _ _
 have HCK:Hid (CkAt B cb mu md wb star st m):=hck.new hbl
 have HM:Hid (m+1≤1000000∧(Lit.int .i64 pl).wf=true∧Below w.heap.size w wb):=⟨hm,hwf,hbl⟩
 obtain⟨c0,f0,c1,c2⟩:=HCK.out.cells
 obtain⟨b0,b1,b2,b3,b4,b5⟩:=six HF.out.box
 clear hbl hck hm hwf hb
 have hc:=takeU_ck (HCK.out.new (Below.refl wb.heap.size wb).drew) HM.out.1 pl HM.out.2.1
 go_enter Tryz.func23,Tryz.ntmps23
 go_upto_region 1 with fail
 rw[←hwb]
 clear hwb
 go_wp2_with fail
 go_region_held_law (fun w'=>w'.cell? ⟨cb,1,none⟩=some (.map (some mu))∧w'.cell? ⟨w.heap.size,1,none⟩=some (.int .i64 pl)) (first | exact⟨k1,k2⟩ | go_keep)
  ((go_at_call 45;refine hc.mono ?_;rintro e w2 ⟨⟨rfl,h3,h4⟩,k1,_⟩;have k2:w2.cell? ⟨w.heap.size,1,none⟩=some (.int .i64 pl):=(HF.out.call (Chg.of_below (Below.refl wb.heap.size wb).drew)).call h3 |>.box 1 _ rfl;have HX:Hid (PcPost B cb mu md w star (takeU st pl) (m+1) (.returned (.bool (takeU st pl).isSome)) w2):=⟨rfl,(HF.out.call (Chg.of_below (Below.refl wb.heap.size wb).drew)).call h3 |>.chg,h4⟩;clear h3 h4))
 go_wp2_with fail
 go_ret
 exact HX.out
theorem here_17a {B cb mu md:Nat}{W0:World}(pl num:Int)(name op:ByteArray)(ad:Option Addr)(len cap:Nat)(hwf:(Lit.int .i64 pl).wf=true)(hl:len≤2 ^ 63 - 1)(w:World)(hb:Below B W0 w)(hBE:B=W0.heap.size)(star:Bool)(st:St)(m:Nat)(hck:CkAt B cb mu md w star st m)(hm:m+1≤1000000)(hn1:isS name preS=true) :
  Calls Tryz.prog 23 #[.pointer (some ⟨cb,0,none⟩),.agg #[.int .i64 17,.int .i64 pl,.string name,.int .u64 num,.string op,.slice ad len cap]] w (PcPost B cb mu md w star (some st) (m+1)):=by
 obtain⟨wb,hwb⟩:∃wb,wb=w.alloc (.cells #[.int .i64 17,.int .i64 pl,.string name,.int .u64 num,.string op,.slice ad len cap] 25):=⟨_,rfl⟩
 have hbl:Below w.heap.size w wb:=by rw[hwb];exact(Below.refl _ _).alloc (Nat.le_refl _) _
 have HF:Hid (Fp B W0 w (Cs cb mu md) w.heap.size #[.int .i64 17,.int .i64 pl,.string name,.int .u64 num,.string op,.slice ad len cap] wb):=by rw[hwb];exact Fp.start hb hck.size hck.lts _ _
 have HCK:Hid (CkAt B cb mu md wb star st m):=hck.new hbl
 have HM:Hid (m+1≤1000000∧(Lit.int .i64 pl).wf=true∧Below w.heap.size w wb):=⟨hm,hwf,hbl⟩
 obtain⟨c0,f0,c1,c2⟩:=HCK.out.cells
 obtain⟨b0,b1,b2,b3,b4,b5⟩:=six HF.out.box
 clear hbl hck hm hwf hb
 unfold isS preS at hn1
 go_enter Tryz.func23,Tryz.ntmps23
 go_upto_region 1 with fail
 rw[←hwb]
 clear hwb
 go_wp2_with fail
 go_ret
 exact⟨rfl,HF.out.chg,fun st' q=>by cases q;exact HCK.out.more (by omega)⟩
theorem here_17b {B cb mu md:Nat}{W0:World}(pl num:Int)(name op:ByteArray)(ad:Option Addr)(len cap:Nat)(hwf:(Lit.int .i64 pl).wf=true)(hl:len≤2 ^ 63 - 1)(w:World)(hb:Below B W0 w)(hBE:B=W0.heap.size)(star:Bool)(st:St)(m:Nat)(hck:CkAt B cb mu md w star st m)(hm:m+1≤1000000)(hn1:isS name preS=false)(hn2:isS name postS=true) :
  Calls Tryz.prog 23 #[.pointer (some ⟨cb,0,none⟩),.agg #[.int .i64 17,.int .i64 pl,.string name,.int .u64 num,.string op,.slice ad len cap]] w (PcPost B cb mu md w star (some st) (m+1)):=by
 obtain⟨wb,hwb⟩:∃wb,wb=w.alloc (.cells #[.int .i64 17,.int .i64 pl,.string name,.int .u64 num,.string op,.slice ad len cap] 25):=⟨_,rfl⟩
 have hbl:Below w.heap.size w wb:=by rw[hwb];exact(Below.refl _ _).alloc (Nat.le_refl _) _
 have HF:Hid (Fp B W0 w (Cs cb mu md) w.heap.size #[.int .i64 17,.int .i64 pl,.string name,.int .u64 num,.string op,.slice ad len cap] wb):=by rw[hwb];exact Fp.start hb hck.size hck.lts _ _
 have HCK:Hid (CkAt B cb mu md wb star st m):=hck.new hbl
 have HM:Hid (m+1≤1000000∧(Lit.int .i64 pl).wf=true∧Below w.heap.size w wb):=⟨hm,hwf,hbl⟩
 obtain⟨c0,f0,c1,c2⟩:=HCK.out.cells
 obtain⟨b0,b1,b2,b3,b4,b5⟩:=six HF.out.box
 clear hbl hck hm hwf hb
 unfold isS preS at hn1
 unfold isS postS at hn2
 go_enter Tryz.func23,Tryz.ntmps23
 go_upto_region 1 with fail
 rw[←hwb]
 clear hwb
 go_wp2_with fail
 go_ret
 exact⟨rfl,HF.out.chg,fun st' q=>by cases q;exact HCK.out.more (by omega)⟩
theorem here_17c {B cb mu md:Nat}{W0:World}(pl num:Int)(name op:ByteArray)(ad:Option Addr)(len cap:Nat)(hwf:(Lit.int .i64 pl).wf=true)(hl:len≤2 ^ 63 - 1)(w:World)(hb:Below B W0 w)(hBE:B=W0.heap.size)(star:Bool)(st:St)(m:Nat)(hck:CkAt B cb mu md w star st m)(hm:m+1≤1000000)(hn1:isS name preS=false)(hn2:isS name postS=false) :
  Calls Tryz.prog 23 #[.pointer (some ⟨cb,0,none⟩),.agg #[.int .i64 17,.int .i64 pl,.string name,.int .u64 num,.string op,.slice ad len cap]] w (PcPost B cb mu md w star (none) (m+1)):=by
 obtain⟨wb,hwb⟩:∃wb,wb=w.alloc (.cells #[.int .i64 17,.int .i64 pl,.string name,.int .u64 num,.string op,.slice ad len cap] 25):=⟨_,rfl⟩
 have hbl:Below w.heap.size w wb:=by rw[hwb];exact(Below.refl _ _).alloc (Nat.le_refl _) _
 have HF:Hid (Fp B W0 w (Cs cb mu md) w.heap.size #[.int .i64 17,.int .i64 pl,.string name,.int .u64 num,.string op,.slice ad len cap] wb):=by rw[hwb];exact Fp.start hb hck.size hck.lts _ _
 have HCK:Hid (CkAt B cb mu md wb star st m):=hck.new hbl
 have HM:Hid (m+1≤1000000∧(Lit.int .i64 pl).wf=true∧Below w.heap.size w wb):=⟨hm,hwf,hbl⟩
 obtain⟨c0,f0,c1,c2⟩:=HCK.out.cells
 obtain⟨b0,b1,b2,b3,b4,b5⟩:=six HF.out.box
 clear hbl hck hm hwf hb
 unfold isS preS at hn1
 unfold isS postS at hn2
 go_enter Tryz.func23,Tryz.ntmps23
 go_upto_region 1 with fail
 rw[←hwb]
 clear hwb
 go_wp2_with fail
 go_ret
 exact⟨rfl,HF.out.chg,fun st' q=>by cases q⟩
theorem here_22a {B cb mu md:Nat}{W0:World}(pl num:Int)(name op:ByteArray)(ad:Option Addr)(len cap:Nat)(hwf:(Lit.int .i64 pl).wf=true)(hl:len≤2 ^ 63 - 1)(w:World)(hb:Below B W0 w)(hBE:B=W0.heap.size)(star:Bool)(st:St)(m:Nat)(hck:CkAt B cb mu md w star st m)(hm:m+1≤1000000)(hs:star=true) :
  Calls Tryz.prog 23 #[.pointer (some ⟨cb,0,none⟩),.agg #[.int .i64 22,.int .i64 pl,.string name,.int .u64 num,.string op,.slice ad len cap]] w (PcPost B cb mu md w star (some st) (m+1)):=by
 obtain⟨wb,hwb⟩:∃wb,wb=w.alloc (.cells #[.int .i64 22,.int .i64 pl,.string name,.int .u64 num,.string op,.slice ad len cap] 25):=⟨_,rfl⟩
 have hbl:Below w.heap.size w wb:=by rw[hwb];exact(Below.refl _ _).alloc (Nat.le_refl _) _
 have HF:Hid (Fp B W0 w (Cs cb mu md) w.heap.size #[.int .i64 22,.int .i64 pl,.string name,.int .u64 num,.string op,.slice ad len cap] wb):=by rw[hwb];exact Fp.start hb hck.size hck.lts _ _
 have HCK:Hid (CkAt B cb mu md wb star st m):=hck.new hbl
 have HM:Hid (m+1≤1000000∧(Lit.int .i64 pl).wf=true∧Below w.heap.size w wb):=⟨hm,hwf,hbl⟩
 obtain⟨c0,f0,c1,c2⟩:=HCK.out.cells
 obtain⟨b0,b1,b2,b3,b4,b5⟩:=six HF.out.box
 clear hbl hck hm hwf hb
 rw[hs] at c0
 go_enter Tryz.func23,Tryz.ntmps23
 go_upto_region 1 with fail
 rw[←hwb]
 clear hwb
 go_wp2_with fail
 go_ret
 exact⟨rfl,HF.out.chg,fun st' q=>by cases q;exact HCK.out.more (by omega)⟩
theorem here_22b {B cb mu md:Nat}{W0:World}(pl num:Int)(name op:ByteArray)(ad:Option Addr)(len cap:Nat)(hwf:(Lit.int .i64 pl).wf=true)(hl:len≤2 ^ 63 - 1)(w:World)(hb:Below B W0 w)(hBE:B=W0.heap.size)(star:Bool)(st:St)(m:Nat)(hck:CkAt B cb mu md w star st m)(hm:m+1≤1000000)(hs:star=false) :
  Calls Tryz.prog 23 #[.pointer (some ⟨cb,0,none⟩),.agg #[.int .i64 22,.int .i64 pl,.string name,.int .u64 num,.string op,.slice ad len cap]] w (PcPost B cb mu md w star (none) (m+1)):=by
 obtain⟨wb,hwb⟩:∃wb,wb=w.alloc (.cells #[.int .i64 22,.int .i64 pl,.string name,.int .u64 num,.string op,.slice ad len cap] 25):=⟨_,rfl⟩
 have hbl:Below w.heap.size w wb:=by rw[hwb];exact(Below.refl _ _).alloc (Nat.le_refl _) _
 have HF:Hid (Fp B W0 w (Cs cb mu md) w.heap.size #[.int .i64 22,.int .i64 pl,.string name,.int .u64 num,.string op,.slice ad len cap] wb):=by rw[hwb];exact Fp.start hb hck.size hck.lts _ _
 have HCK:Hid (CkAt B cb mu md wb star st m):=hck.new hbl
 have HM:Hid (m+1≤1000000∧(Lit.int .i64 pl).wf=true∧Below w.heap.size w wb):=⟨hm,hwf,hbl⟩
 obtain⟨c0,f0,c1,c2⟩:=HCK.out.cells
 obtain⟨b0,b1,b2,b3,b4,b5⟩:=six HF.out.box
 clear hbl hck hm hwf hb
 rw[hs] at c0
 go_enter Tryz.func23,Tryz.ntmps23
 go_upto_region 1 with fail
 rw[←hwb]
 clear hwb
 go_wp2_with fail
 go_ret
 exact⟨rfl,HF.out.chg,fun st' q=>by cases q⟩
theorem here_43n {B cb mu md:Nat}{W0:World}(pl num:Int)(name op:ByteArray)(ad:Option Addr)(len cap:Nat)(hwf:(Lit.int .i64 pl).wf=true)(hl:len≤2 ^ 63 - 1)(w:World)(hb:Below B W0 w)(hBE:B=W0.heap.size)(star:Bool)(st:St)(m:Nat)(hck:CkAt B cb mu md w star st m)(hm:m+1≤1000000)(h2:Two W0 ad len 0 0) :
  Calls Tryz.prog 23 #[.pointer (some ⟨cb,0,none⟩),.agg #[.int .i64 43,.int .i64 pl,.string name,.int .u64 num,.string op,.slice ad len cap]] w (PcPost B cb mu md w star (none) (m+1)):=by
 obtain⟨hl3,b,off,rfl,hcc⟩:=h2
 obtain⟨wb,hwb⟩:∃wb,wb=w.alloc (.cells #[.int .i64 43,.int .i64 pl,.string name,.int .u64 num,.string op,.slice (some ⟨b,off,none⟩) len cap] 25):=⟨_,rfl⟩
 have hbl:Below w.heap.size w wb:=by rw[hwb];exact(Below.refl _ _).alloc (Nat.le_refl _) _
 have HF:Hid (Fp B W0 w (Cs cb mu md) w.heap.size #[.int .i64 43,.int .i64 pl,.string name,.int .u64 num,.string op,.slice (some ⟨b,off,none⟩) len cap] wb):=by rw[hwb];exact Fp.start hb hck.size hck.lts _ _
 have HCK:Hid (CkAt B cb mu md wb star st m):=hck.new hbl
 have HM:Hid (m+1≤1000000∧(Lit.int .i64 pl).wf=true∧Below w.heap.size w wb):=⟨hm,hwf,hbl⟩
 obtain⟨c0,f0,c1,c2⟩:=HCK.out.cells
 obtain⟨b0,b1,b2,b3,b4,b5⟩:=six HF.out.box
 clear hbl hck hm hwf hb
 have lt1:1<len:=by omega
 have lt2:2<len:=by omega
 have z1:=(hcc wb (hBE ▸ HF.out.bel)).1
 have z2:=(hcc wb (hBE ▸ HF.out.bel)).2
 clear hcc
 go_enter Tryz.func23,Tryz.ntmps23
 go_upto_region 1 with fail
 rw[←hwb]
 clear hwb
 go_wp2_with fail
 go_ret
 exact⟨rfl,HF.out.chg,fun st' q=>by cases q⟩
theorem here_other0 {B cb mu md:Nat}{W0:World}(kind pl num:Int)(name op:ByteArray)(ad:Option Addr)(len cap:Nat)(hwf:(Lit.int .i64 pl).wf=true)(hl:len≤2 ^ 63 - 1)(w:World)(hb:Below B W0 w)(hBE:B=W0.heap.size)(star:Bool)(st:St)(m:Nat)(hck:CkAt B cb mu md w star st m)(hm:m+1≤1000000)(h3:kind≠3)(h17:kind≠17)(h22:kind≠22)(h43:kind≠43)(q1 q2:Int)(hdd:declI ⟨kind,pl,name,num,op⟩ q1=false) :
  Calls Tryz.prog 23 #[.pointer (some ⟨cb,0,none⟩),.agg #[.int .i64 kind,.int .i64 pl,.string name,.int .u64 num,.string op,.slice ad len cap]] w (PcPost B cb mu md w star (some st) (m+1)):=by
 obtain⟨wb,hwb⟩:∃wb,wb=w.alloc (.cells #[.int .i64 kind,.int .i64 pl,.string name,.int .u64 num,.string op,.slice ad len cap] 25):=⟨_,rfl⟩
 have hbl:Below w.heap.size w wb:=by rw[hwb];exact(Below.refl _ _).alloc (Nat.le_refl _) _
 have HF:Hid (Fp B W0 w (Cs cb mu md) w.heap.size #[.int .i64 kind,.int .i64 pl,.string name,.int .u64 num,.string op,.slice ad len cap] wb):=by rw[hwb];exact Fp.start hb hck.size hck.lts _ _
 have HCK:Hid (CkAt B cb mu md wb star st m):=hck.new hbl
 have HM:Hid (m+1≤1000000∧(Lit.int .i64 pl).wf=true∧Below w.heap.size w wb):=⟨hm,hwf,hbl⟩
 obtain⟨c0,f0,c1,c2⟩:=HCK.out.cells
 obtain⟨b0,b1,b2,b3,b4,b5⟩:=six HF.out.box
 clear hbl hck hm hwf hb
 have n3:(kind == 3)=false:=by simpa using h3
 have n17:(kind == 17)=false:=by simpa using h17
 have n22:(kind == 22)=false:=by simpa using h22
 have n43:(kind == 43)=false:=by simpa using h43
 have hdc:=declares_any (⟨kind,pl,name,num,op⟩:Nd) ad len cap W0 wb.drew (hBE ▸ (HF.out.bel).drew) hl q1 q2 (fun q=>absurd q h43)
 rw[hdd] at hdc
 unfold ndA at hdc
 simp only at hdc
 have HD:Hid (CkAt B cb mu md wb star st m):=HCK.out
 go_enter Tryz.func23,Tryz.ntmps23
 go_upto_region 1 with fail
 rw[←hwb]
 clear hwb
 go_wp2_with fail
 first
  | (go_region_with ((go_at_call 46;refine hdc.mono ?_;rintro e w2 ⟨rfl,hb2⟩;have FD:Fp B W0 w (Cs cb mu md) w.heap.size #[.int .i64 kind,.int .i64 pl,.string name,.int .u64 num,.string op,.slice ad len cap] w2:=(HF.out.call (Chg.of_below (Below.refl wb.heap.size wb).drew)).call (Chg.of_below hb2);have CD:CkAt B cb mu md w2 star st m:=(HCK.out.new (Below.refl wb.heap.size wb).drew).new hb2;have HX:Hid (PcPost B cb mu md w star (some st) (m+1) (.returned (.bool true)) w2):=⟨rfl,FD.chg,fun st' q=>by cases q;exact CD.more (by omega)⟩;clear hb2 FD CD)))
  | fail
 all_goals
  go_wp2_with fail
  go_ret
  exact HX.out
theorem here_other1 {B cb mu md:Nat}{W0:World}(kind pl num:Int)(name op:ByteArray)(ad:Option Addr)(len cap:Nat)(hwf:(Lit.int .i64 pl).wf=true)(hl:len≤2 ^ 63 - 1)(w:World)(hb:Below B W0 w)(hBE:B=W0.heap.size)(star:Bool)(st:St)(m:Nat)(hck:CkAt B cb mu md w star st m)(hm:m+1≤1000000)(h3:kind≠3)(h17:kind≠17)(h22:kind≠22)(h43:kind≠43)(q1 q2:Int)(hdd:declI ⟨kind,pl,name,num,op⟩ q1=true) :
  Calls Tryz.prog 23 #[.pointer (some ⟨cb,0,none⟩),.agg #[.int .i64 kind,.int .i64 pl,.string name,.int .u64 num,.string op,.slice ad len cap]] w (PcPost B cb mu md w star (takeD st pl) (m+1)):=by
 obtain⟨wb,hwb⟩:∃wb,wb=w.alloc (.cells #[.int .i64 kind,.int .i64 pl,.string name,.int .u64 num,.string op,.slice ad len cap] 25):=⟨_,rfl⟩
 have hbl:Below w.heap.size w wb:=by rw[hwb];exact(Below.refl _ _).alloc (Nat.le_refl _) _
 have HF:Hid (Fp B W0 w (Cs cb mu md) w.heap.size #[.int .i64 kind,.int .i64 pl,.string name,.int .u64 num,.string op,.slice ad len cap] wb):=by rw[hwb];exact Fp.start hb hck.size hck.lts _ _
 have HCK:Hid (CkAt B cb mu md wb star st m):=hck.new hbl
 have HM:Hid (m+1≤1000000∧(Lit.int .i64 pl).wf=true∧Below w.heap.size w wb):=⟨hm,hwf,hbl⟩
 obtain⟨c0,f0,c1,c2⟩:=HCK.out.cells
 obtain⟨b0,b1,b2,b3,b4,b5⟩:=six HF.out.box
 clear hbl hck hm hwf hb
 have n3:(kind == 3)=false:=by simpa using h3
 have n17:(kind == 17)=false:=by simpa using h17
 have n22:(kind == 22)=false:=by simpa using h22
 have n43:(kind == 43)=false:=by simpa using h43
 have hdc:=declares_any (⟨kind,pl,name,num,op⟩:Nd) ad len cap W0 wb.drew (hBE ▸ (HF.out.bel).drew) hl q1 q2 (fun q=>absurd q h43)
 rw[hdd] at hdc
 unfold ndA at hdc
 simp only at hdc
 have HD:Hid (CkAt B cb mu md wb star st m):=HCK.out
 go_enter Tryz.func23,Tryz.ntmps23
 go_upto_region 1 with fail
 rw[←hwb]
 clear hwb
 go_wp2_with fail
 go_region_held_law (fun w'=>w'.cell? ⟨w.heap.size,0,none⟩=some (.int .i64 kind)∧w'.cell? ⟨w.heap.size,1,none⟩=some (.int .i64 pl)∧w'.cell? ⟨w.heap.size,2,none⟩=some (.string name)∧w'.cell? ⟨w.heap.size,3,none⟩=some (.int .u64 num)∧w'.cell? ⟨w.heap.size,4,none⟩=some (.string op)∧w'.cell? ⟨w.heap.size,5,none⟩=some (.slice ad len cap)∧w'.cell? ⟨cb,2,none⟩=some (.map (some md))) (first | exact kk2 | exact kk | go_keep)
  (first
   | (go_at_call 46;refine hdc.mono ?_;rintro e w2 ⟨rfl,hb2⟩;have FD:Fp B W0 w (Cs cb mu md) w.heap.size #[.int .i64 kind,.int .i64 pl,.string name,.int .u64 num,.string op,.slice ad len cap] w2:=(HF.out.call (Chg.of_below (Below.refl wb.heap.size wb).drew)).call (Chg.of_below hb2);have CD:CkAt B cb mu md w2 star st m:=(HCK.out.new (Below.refl wb.heap.size wb).drew).new hb2;have kk:=And.intro (FD.box 0 _ rfl) (And.intro (FD.box 1 _ rfl) (And.intro (FD.box 2 _ rfl) (And.intro (FD.box 3 _ rfl) (And.intro (FD.box 4 _ rfl) (And.intro (FD.box 5 _ rfl) CD.cells.2.2.2)))));have hc:=takeD_ck CD HM.out.1 pl HM.out.2.1)
   | (go_at_call 45;refine hc.mono ?_;rintro e w3 ⟨⟨rfl,h3,h4⟩,k1,k2⟩;have FE:=FD.call h3;have kk2:=And.intro (FE.box 0 _ rfl) (And.intro (FE.box 1 _ rfl) (And.intro (FE.box 2 _ rfl) (And.intro (FE.box 3 _ rfl) (And.intro (FE.box 4 _ rfl) (And.intro (FE.box 5 _ rfl) k2)))));have HX:Hid (PcPost B cb mu md w star (takeD st pl) (m+1) (.returned (.bool (takeD st pl).isSome)) w3):=⟨rfl,FE.chg,h4⟩;clear h3 h4))
 go_wp2_with fail
 go_ret
 exact HX.out
theorem here_43a {B cb mu md:Nat}{W0:World}(pl num:Int)(name op:ByteArray)(ad:Option Addr)(len cap:Nat)(hwf:(Lit.int .i64 pl).wf=true)(hl:len≤2 ^ 63 - 1)(w:World)(hb:Below B W0 w)(hBE:B=W0.heap.size)(star:Bool)(st:St)(m:Nat)(hck:CkAt B cb mu md w star st m)(hm:m+1≤1000000)(q1 q2:Int)(h2:Two W0 ad len q1 q2)(hq1:q1≠0)(hdd:declI ⟨43,pl,name,num,op⟩ q1=true) :
  Calls Tryz.prog 23 #[.pointer (some ⟨cb,0,none⟩),.agg #[.int .i64 43,.int .i64 pl,.string name,.int .u64 num,.string op,.slice ad len cap]] w (PcPost B cb mu md w star (takeD st pl) (m+1)):=by
 have hall:=h2
 obtain⟨hl3,b,off,rfl,hcc⟩:=h2
 obtain⟨wb,hwb⟩:∃wb,wb=w.alloc (.cells #[.int .i64 43,.int .i64 pl,.string name,.int .u64 num,.string op,.slice (some ⟨b,off,none⟩) len cap] 25):=⟨_,rfl⟩
 have hbl:Below w.heap.size w wb:=by rw[hwb];exact(Below.refl _ _).alloc (Nat.le_refl _) _
 have HF:Hid (Fp B W0 w (Cs cb mu md) w.heap.size #[.int .i64 43,.int .i64 pl,.string name,.int .u64 num,.string op,.slice (some ⟨b,off,none⟩) len cap] wb):=by rw[hwb];exact Fp.start hb hck.size hck.lts _ _
 have HCK:Hid (CkAt B cb mu md wb star st m):=hck.new hbl
 have HM:Hid (m+1≤1000000∧(Lit.int .i64 pl).wf=true∧Below w.heap.size w wb):=⟨hm,hwf,hbl⟩
 obtain⟨c0,f0,c1,c2⟩:=HCK.out.cells
 obtain⟨b0,b1,b2,b3,b4,b5⟩:=six HF.out.box
 clear hbl hck hm hwf hb
 have lt1:1<len:=by omega
 have lt2:2<len:=by omega
 have z1:=(hcc wb (hBE ▸ HF.out.bel)).1
 have z2:=(hcc wb (hBE ▸ HF.out.bel)).2
 have HALL:Hid (Two W0 (some ⟨b,off,none⟩) len q1 q2):=hall
 clear hcc hall
 have nq1:(q1 == 0)=false:=by simpa using hq1
 clear hq1
 have hdc:=declares_any (⟨43,pl,name,num,op⟩:Nd) (some ⟨b,off,none⟩) len cap W0 wb.drew (hBE ▸ (HF.out.bel).drew) hl q1 q2 (fun _=>HALL.out)
 rw[hdd] at hdc
 unfold ndA at hdc
 simp only at hdc
 have HD:Hid (CkAt B cb mu md wb star st m):=HCK.out
 go_enter Tryz.func23,Tryz.ntmps23
 go_upto_region 1 with fail
 rw[←hwb]
 clear hwb
 go_wp2_with fail
 go_region_held_law (fun w'=>w'.cell? ⟨w.heap.size,0,none⟩=some (.int .i64 43)∧w'.cell? ⟨w.heap.size,1,none⟩=some (.int .i64 pl)∧w'.cell? ⟨w.heap.size,2,none⟩=some (.string name)∧w'.cell? ⟨w.heap.size,3,none⟩=some (.int .u64 num)∧w'.cell? ⟨w.heap.size,4,none⟩=some (.string op)∧w'.cell? ⟨w.heap.size,5,none⟩=some (.slice (some ⟨b,off,none⟩) len cap)∧w'.cell? ⟨cb,2,none⟩=some (.map (some md))) (first | exact kk2 | exact kk | go_keep)
  (first
   | (go_at_call 46;refine hdc.mono ?_;rintro e w2 ⟨rfl,hb2⟩;have FD:Fp B W0 w (Cs cb mu md) w.heap.size #[.int .i64 43,.int .i64 pl,.string name,.int .u64 num,.string op,.slice (some ⟨b,off,none⟩) len cap] w2:=(HF.out.call (Chg.of_below (Below.refl wb.heap.size wb).drew)).call (Chg.of_below hb2);have CD:CkAt B cb mu md w2 star st m:=(HCK.out.new (Below.refl wb.heap.size wb).drew).new hb2;have kk:=And.intro (FD.box 0 _ rfl) (And.intro (FD.box 1 _ rfl) (And.intro (FD.box 2 _ rfl) (And.intro (FD.box 3 _ rfl) (And.intro (FD.box 4 _ rfl) (And.intro (FD.box 5 _ rfl) CD.cells.2.2.2)))));have hc:=takeD_ck CD HM.out.1 pl HM.out.2.1)
   | (go_at_call 45;refine hc.mono ?_;rintro e w3 ⟨⟨rfl,h3,h4⟩,k1,k2⟩;have FE:=FD.call h3;have kk2:=And.intro (FE.box 0 _ rfl) (And.intro (FE.box 1 _ rfl) (And.intro (FE.box 2 _ rfl) (And.intro (FE.box 3 _ rfl) (And.intro (FE.box 4 _ rfl) (And.intro (FE.box 5 _ rfl) k2)))));have HX:Hid (PcPost B cb mu md w star (takeD st pl) (m+1) (.returned (.bool (takeD st pl).isSome)) w3):=⟨rfl,FE.chg,h4⟩;clear h3 h4))
 go_wp2_with fail
 go_ret
 exact HX.out
theorem here_43b {B cb mu md:Nat}{W0:World}(pl num:Int)(name op:ByteArray)(ad:Option Addr)(len cap:Nat)(hwf:(Lit.int .i64 pl).wf=true)(hl:len≤2 ^ 63 - 1)(w:World)(hb:Below B W0 w)(hBE:B=W0.heap.size)(star:Bool)(st:St)(m:Nat)(hck:CkAt B cb mu md w star st m)(hm:m+1≤1000000)(q1 q2:Int)(h2:Two W0 ad len q1 q2)(hq1:q1=0)(hq2:q2≠0)(hdd:declI ⟨43,pl,name,num,op⟩ q1=false) :
  Calls Tryz.prog 23 #[.pointer (some ⟨cb,0,none⟩),.agg #[.int .i64 43,.int .i64 pl,.string name,.int .u64 num,.string op,.slice ad len cap]] w (PcPost B cb mu md w star (some st) (m+1)):=by
 have hall:=h2
 obtain⟨hl3,b,off,rfl,hcc⟩:=h2
 obtain⟨wb,hwb⟩:∃wb,wb=w.alloc (.cells #[.int .i64 43,.int .i64 pl,.string name,.int .u64 num,.string op,.slice (some ⟨b,off,none⟩) len cap] 25):=⟨_,rfl⟩
 have hbl:Below w.heap.size w wb:=by rw[hwb];exact(Below.refl _ _).alloc (Nat.le_refl _) _
 have HF:Hid (Fp B W0 w (Cs cb mu md) w.heap.size #[.int .i64 43,.int .i64 pl,.string name,.int .u64 num,.string op,.slice (some ⟨b,off,none⟩) len cap] wb):=by rw[hwb];exact Fp.start hb hck.size hck.lts _ _
 have HCK:Hid (CkAt B cb mu md wb star st m):=hck.new hbl
 have HM:Hid (m+1≤1000000∧(Lit.int .i64 pl).wf=true∧Below w.heap.size w wb):=⟨hm,hwf,hbl⟩
 obtain⟨c0,f0,c1,c2⟩:=HCK.out.cells
 obtain⟨b0,b1,b2,b3,b4,b5⟩:=six HF.out.box
 clear hbl hck hm hwf hb
 have lt1:1<len:=by omega
 have lt2:2<len:=by omega
 have z1:=(hcc wb (hBE ▸ HF.out.bel)).1
 have z2:=(hcc wb (hBE ▸ HF.out.bel)).2
 have HALL:Hid (Two W0 (some ⟨b,off,none⟩) len q1 q2):=hall
 clear hcc hall
 have nq2:(q2 == 0)=false:=by simpa using hq2
 rw[hq1] at z1
 have hdc:=declares_any (⟨43,pl,name,num,op⟩:Nd) (some ⟨b,off,none⟩) len cap W0 wb.drew (hBE ▸ (HF.out.bel).drew) hl q1 q2 (fun _=>HALL.out)
 rw[hdd] at hdc
 unfold ndA at hdc
 simp only at hdc
 have HD:Hid (CkAt B cb mu md wb star st m):=HCK.out
 go_enter Tryz.func23,Tryz.ntmps23
 go_upto_region 1 with fail
 rw[←hwb]
 clear hwb
 go_wp2_with fail
 first
  | (go_region_with ((go_at_call 46;refine hdc.mono ?_;rintro e w2 ⟨rfl,hb2⟩;have FD:Fp B W0 w (Cs cb mu md) w.heap.size #[.int .i64 43,.int .i64 pl,.string name,.int .u64 num,.string op,.slice (some ⟨b,off,none⟩) len cap] w2:=(HF.out.call (Chg.of_below (Below.refl wb.heap.size wb).drew)).call (Chg.of_below hb2);have CD:CkAt B cb mu md w2 star st m:=(HCK.out.new (Below.refl wb.heap.size wb).drew).new hb2;have HX:Hid (PcPost B cb mu md w star (some st) (m+1) (.returned (.bool true)) w2):=⟨rfl,FD.chg,fun st' q=>by cases q;exact CD.more (by omega)⟩;clear hb2 FD CD)))
  | fail
 all_goals
  go_wp2_with fail
  go_ret
  exact HX.out
theorem here_any {B cb mu md:Nat}{W0:World}{n:Nat}(x:Nd)(ad:Option Addr)(xs:List (Tr n))(cap:Nat)(hwf:x.wf)(hsl:Sli.ok (encT n) 6 W0 ⟨ad,cap,xs⟩)(h43:x.kind=43→xs.length=3)(w:World)(hb:Below B W0 w)(hBE:B=W0.heap.size)(star:Bool)(st:St)(m:Nat)(hck:CkAt B cb mu md w star st m)(hm:m+1≤1000000) :
  Calls Tryz.prog 23 #[.pointer (some ⟨cb,0,none⟩),ndA x ad xs.length cap] w (PcPost B cb mu md w star (hereP (kidT n) x xs star st) (m+1)):=by
 have hl:xs.length≤2 ^ 63 - 1:=Nat.le_trans hsl.len hsl.cap
 have h2:x.kind=43→Two W0 ad xs.length (kd0 (kidT n) xs 1) (kd0 (kidT n) xs 2):=by
  intro h
  have h3:=h43 h
  obtain⟨b,off,e1,hlie⟩:=kids_lie hsl (by intro e;simp only at e;rw[e] at h3;simp at h3)
  refine⟨by omega,b,off,e1,fun w' hb' => ?_⟩
  match xs,h3 with
  | [k0,k1,k2],_ =>
    have q1:=(hlie 1 k1 rfl _ w' rfl hb').1
    have q2:=(hlie 2 k2 rfl _ w' rfl hb').1
    rw[kd0_at _ 1 k1 rfl,kd0_at _ 2 k2 rfl]
    exact⟨by simpa using q1,by simpa using q2⟩
 rw[hereP_kd x xs star st _ _ rfl rfl]
 generalize kd0 (kidT n) xs 1=q1 at *
 generalize kd0 (kidT n) xs 2=q2 at *
 have hpl:=hwf.pl
 obtain⟨kind,pl,name,num,op⟩:=x
 unfold ndA
 simp only at h2 hpl ⊢
 by_cases h3:kind=3
 ·subst h3
  rw[if_pos rfl]
  exact here_3 pl num name op ad xs.length cap hpl hl w hb hBE star st m hck hm
 rw[if_neg h3]
 by_cases h17:kind=17
 ·subst h17
  rw[if_pos rfl]
  cases n1:isS name preS with
  | true =>
    simp only[Bool.true_or,if_true]
    exact here_17a pl num name op ad xs.length cap hpl hl w hb hBE star st m hck hm n1
  | false =>
    cases n2:isS name postS with
    | true =>
      simp only[Bool.false_or,if_true]
      exact here_17b pl num name op ad xs.length cap hpl hl w hb hBE star st m hck hm n1 n2
    | false =>
      simp only[Bool.false_or,Bool.false_eq_true,if_false]
      exact here_17c pl num name op ad xs.length cap hpl hl w hb hBE star st m hck hm n1 n2
 rw[if_neg h17]
 by_cases h22:kind=22
 ·subst h22
  rw[if_pos rfl]
  cases hs:star with
  | true =>
    simp only[if_true]
    rw[hs] at hck
    exact here_22a pl num name op ad xs.length cap hpl hl w hb hBE true st m hck hm rfl
  | false =>
    simp only[Bool.false_eq_true,if_false]
    rw[hs] at hck
    exact here_22b pl num name op ad xs.length cap hpl hl w hb hBE false st m hck hm rfl
 rw[if_neg h22]
 by_cases c43:kind=43
 ·subst c43
  by_cases z:q1=0∧q2=0
  ·rw[if_pos ⟨rfl,z⟩]
   obtain⟨rfl,rfl⟩:=z
   exact here_43n pl num name op ad xs.length cap hpl hl w hb hBE star st m hck hm (h2 rfl)
  ·rw[if_neg (fun q=>z q.2)]
   by_cases z1:q1=0
   ·have hd:declI ⟨43,pl,name,num,op⟩ q1=false:=by unfold declI;simp[z1]
    rw[hd,if_neg (by simp)]
    exact here_43b pl num name op ad xs.length cap hpl hl w hb hBE star st m hck hm q1 q2 (h2 rfl) z1 (fun e=>z ⟨z1,e⟩) hd
   ·have hd:declI ⟨43,pl,name,num,op⟩ q1=true:=by unfold declI;simp[z1]
    rw[hd,if_pos rfl]
    exact here_43a pl num name op ad xs.length cap hpl hl w hb hBE star st m hck hm q1 q2 (h2 rfl) z1 hd
 rw[if_neg (fun q=>c43 q.1)]
 cases hd:declI ⟨kind,pl,name,num,op⟩ q1 with
 | false =>
   rw[if_neg (by simp)]
   exact here_other0 kind pl num name op ad xs.length cap hpl hl w hb hBE star st m hck hm h3 h17 h22 c43 q1 q2 hd
 | true =>
   rw[if_pos rfl]
   exact here_other1 kind pl num name op ad xs.length cap hpl hl w hb hBE star st m hck hm h3 h17 h22 c43 q1 q2 hd
def PC (B cb mu md:Nat)(W0:World)(F:Nat)(args:Array Value)(f:Bool→St→Option St)(z:Nat):Prop :=
 ∀(w:World) (star:Bool) (st:St) (m:Nat),Below B W0 w→CkAt B cb mu md w star st m→m+z≤1000000→Calls Tryz.prog F args w (PcPost B cb mu md w star (f star st) (m+z))
theorem all_if {c:Prop} [Decidable c] {a b:List UInt8}{f:UInt8→Bool}(ha:a.all f=true)(hb:b.all f=true):(if c then a else b).all f=true:=by
 by_cases h:c
 ·rw[if_pos h];exact ha
 ·rw[if_neg h];exact hb
theorem len_if {c:Prop} [Decidable c] {a b:List UInt8}{N:Nat}(ha:a.length≤N)(hb:b.length≤N):(if c then a else b).length≤N:=by
 by_cases h:c
 ·rw[if_pos h];exact ha
 ·rw[if_neg h];exact hb
theorem letters_all (k:Int)(n:Nat):(partsI k n).all (fun p=>letters.contains p)=true:=by
 have rep:∀(m:Nat) (a:UInt8),letters.contains a=true→(List.replicate m a).all (fun p=>letters.contains p)=true:=fun m a h=>List.all_eq_true.2 (fun p hp=>by rw[List.eq_of_mem_replicate hp];exact h)
 unfold partsI
 repeat' (apply all_if)
 all_goals first | (exact rep _ _ (by decide)) | (rw[List.all_append,rep _ _ (by decide)];decide) | decide
theorem parts_len (k:Int)(n:Nat):(partsI k n).length≤n+4:=by
 unfold partsI
 repeat' (apply len_if)
 all_goals (simp;try omega)
theorem letters_part (k:Int)(n:Nat):∀p∈partsI k n,p∈letters:=fun p hp=>by simpa using List.all_eq_true.1 (letters_all k n) p hp
theorem part_pc {B cb mu md:Nat}{W0:World}{n:Nat}(hBE:B=W0.heap.size)(x:Nd)(s:Sli (Tr n))(hok:okT (n+1) W0 ((x,s):Nd×Sli (Tr n)))(p:UInt8)(hp:p∈letters)
  (hr:PC B cb mu md W0 15 #[.pointer (some ⟨cb,0,none⟩),valT (n+1) ((x,s):Nd×Sli (Tr n))] (fun star st=>rightP (kidT n) (partP n) x s.xs star st) (szT (n+1) ((x,s):Nd×Sli (Tr n)))) :
  PC B cb mu md W0 25 #[.pointer (some ⟨cb,0,none⟩),.int .u8 p.toNat,valT (n+1) ((x,s):Nd×Sli (Tr n))] (fun star st=>partP (n+1) p ((x,s):Nd×Sli (Tr n)) star st) (szT (n+1) ((x,s):Nd×Sli (Tr n))):=by
 intro w star st m hb hck hm
 have hwf:=hok.1.pl
 have hl:s.xs.length≤2 ^ 63 - 1:=Nat.le_trans hok.2.1.len hok.2.1.cap
 have hz1:=sz_pos (n+1) ((x,s):Nd×Sli (Tr n))
 obtain⟨R,hR⟩:∃R,R=partP (n+1) p ((x,s):Nd×Sli (Tr n)) star st:=⟨_,rfl⟩
 simp only
 rw[←hR]
 have HR:Hid (R=if x.kind=0 then (if mayLackB p=true∧s.xs.length=0 then some st else none) else if isPartB p x.kind=false then none else if p=110 then (if s.xs.length=0 then takeD st x.pl else none) else rightP (kidT n) (partP n) x s.xs star st):=hR
 clear hR hok
 generalize hz:szT (n+1) ((x,s):Nd×Sli (Tr n))=z at *
 clear hz
 rw[val_succ] at hr ⊢
 obtain⟨kind,pl,name,num,op⟩:=x
 obtain⟨ad,cap,xs⟩:=s
 simp only at hr hwf hl HR ⊢
 obtain⟨pv,hpv⟩:∃pv:Int,pv=(p.toNat:Int):=⟨_,rfl⟩
 rw[←hpv]
 obtain⟨wb,hwb⟩:∃wb,wb=w.alloc (.cells #[.int .i64 kind,.int .i64 pl,.string name,.int .u64 num,.string op,.slice ad xs.length cap] 25):=⟨_,rfl⟩
 have hbl:Below w.heap.size w wb:=by rw[hwb];exact(Below.refl _ _).alloc (Nat.le_refl _) _
 have HF:Hid (Fp B W0 w (Cs cb mu md) w.heap.size #[.int .i64 kind,.int .i64 pl,.string name,.int .u64 num,.string op,.slice ad xs.length cap] wb):=by rw[hwb];exact Fp.start hb hck.size hck.lts _ _
 have HCK:Hid (CkAt B cb mu md wb star st m):=hck.new hbl
 have HM:Hid (m+z≤1000000∧(Lit.int .i64 pl).wf=true∧1≤z):=⟨hm,hwf,hz1⟩
 obtain⟨c0,f0,c1,c2⟩:=HCK.out.cells
 obtain⟨b0,b1,b2,b3,b4,b5⟩:=six HF.out.box
 have hml:=mayLack_any p hp wb
 have hip:=isPart_any p hp kind wb
 rw[←hpv] at hml hip
 obtain⟨L,hL⟩:∃L,L=mayLackB p:=⟨_,rfl⟩
 obtain⟨I,hI⟩:∃I,I=isPartB p kind:=⟨_,rfl⟩
 rw[←hL] at hml HR
 rw[←hI] at hip HR
 have hrc:=hr wb star st m HF.out.bel HCK.out hm
 have HRC:Hid (Calls Tryz.prog 15 #[.pointer (some ⟨cb,0,none⟩),.agg #[.int .i64 kind,.int .i64 pl,.string name,.int .u64 num,.string op,.slice ad xs.length cap]] wb (PcPost B cb mu md wb star (rightP (kidT n) (partP n) ⟨kind,pl,name,num,op⟩ xs star st) (m+z))):=hrc
 have HP:Hid (pv=(p.toNat:Int)):=hpv
 clear hbl hck hm hwf hb hr hrc hL hI hpv hz1
 by_cases h0:kind=0
 ·rw[if_pos h0] at HR
  subst h0
  cases L with
  | false =>
    have e:R=none:=by rw[HR.out,if_neg (by simp)]
    rw[e]
    go_enter Tryz.func25,Tryz.ntmps25
    go_upto_region 1 with fail
    rw[←hwb]
    clear hwb
    go_wp2_with fail
    refine hml.mono ?_
    rintro e w1 ⟨rfl,rfl⟩
    go_wp2_with fail
    go_ret
    exact⟨rfl,HF.out.chg,fun st' q=>by cases q⟩
  | true =>
    rcases Nat.eq_zero_or_pos xs.length with c | c
    ·have e:R=some st:=by rw[HR.out,if_pos ⟨rfl,c⟩]
     rw[e]
     rw[c] at hwb b5 HF ⊢
     go_enter Tryz.func25,Tryz.ntmps25
     go_upto_region 1 with fail
     rw[←hwb]
     clear hwb
     go_wp2_with fail
     refine hml.mono ?_
     rintro e w1 ⟨rfl,rfl⟩
     go_wp2_with fail
     go_ret
     exact⟨rfl,HF.out.chg,fun st' q=>by cases q;exact HCK.out.more (by omega)⟩
    ·have e:R=none:=by rw[HR.out,if_neg (fun q=>by omega)]
     rw[e]
     have cn:(((xs.length:Nat):Int) == 0)=false:=by simp;intro q;rw[q] at c;simp at c
     go_enter Tryz.func25,Tryz.ntmps25
     go_upto_region 1 with fail
     rw[←hwb]
     clear hwb
     go_wp2_with fail
     refine hml.mono ?_
     rintro e w1 ⟨rfl,rfl⟩
     go_wp2_with fail
     go_ret
     exact⟨rfl,HF.out.chg,fun st' q=>by cases q⟩
 ·rw[if_neg h0] at HR
  have n0:(kind == 0)=false:=by simpa using h0
  cases I with
  | false =>
    have e:R=none:=by rw[HR.out,if_pos rfl]
    rw[e]
    go_enter Tryz.func25,Tryz.ntmps25
    go_upto_region 1 with fail
    rw[←hwb]
    clear hwb
    go_wp2_with fail
    refine hip.mono ?_
    rintro e w1 ⟨rfl,rfl⟩
    go_wp2_with fail
    go_ret
    exact⟨rfl,HF.out.chg,fun st' q=>by cases q⟩
  | true =>
    rw[if_neg (by simp)] at HR
    by_cases h110:p=110
    ·rw[if_pos h110] at HR
     have hv:pv=110:=by rw[HP.out,h110];rfl
     subst hv
     clear HP
     rcases Nat.eq_zero_or_pos xs.length with c | c
     ·have e:R=takeD st pl:=by rw[HR.out,if_pos c]
      rw[e]
      rw[c] at hwb b5 HF ⊢
      have hc:=takeD_ck (HCK.out.new (Below.refl wb.heap.size wb).drew) (by have:=HM.out;omega) pl HM.out.2.1
      go_enter Tryz.func25,Tryz.ntmps25
      go_upto_region 1 with fail
      rw[←hwb]
      clear hwb
      go_wp2_with fail
      refine hip.mono ?_
      rintro e w1 ⟨rfl,rfl⟩
      go_wp2_with fail
      go_region_held_law (fun w'=>w'.cell? ⟨cb,2,none⟩=some (.map (some md))∧w'.cell? ⟨w.heap.size,1,none⟩=some (.int .i64 pl)∧w'.cell? ⟨w.heap.size,5,none⟩=some (.slice ad 0 cap)) (first | exact⟨k1,k2,k3⟩ | go_keep)
       ((go_at_call 45;refine hc.mono ?_;rintro e w2 ⟨⟨rfl,h3,h4⟩,_,k1⟩;have FD:=(HF.out.call (Chg.of_below (Below.refl w1.heap.size w1).drew)).call h3;have k2:w2.cell? ⟨w.heap.size,1,none⟩=some (.int .i64 pl):=FD.box 1 _ rfl;have k3:w2.cell? ⟨w.heap.size,5,none⟩=some (.slice ad 0 cap):=FD.box 5 _ rfl;have HX:Hid (PcPost B cb mu md w star (takeD st pl) (m+z) (.returned (.bool (takeD st pl).isSome)) w2):=⟨rfl,FD.chg,fun st' q=>(h4 st' q).more (by have:=HM.out;omega)⟩;clear h3 h4 FD))
      go_wp2_with fail
      go_ret
      exact HX.out
     ·have e:R=none:=by rw[HR.out,if_neg (by omega)]
      rw[e]
      have cn:(((xs.length:Nat):Int) == 0)=false:=by simp;intro q;rw[q] at c;simp at c
      go_enter Tryz.func25,Tryz.ntmps25
      go_upto_region 1 with fail
      rw[←hwb]
      clear hwb
      go_wp2_with fail
      refine hip.mono ?_
      rintro e w1 ⟨rfl,rfl⟩
      go_wp2_with fail
      go_quiet (fail)
      go_wp2_with fail
      go_ret
      exact⟨rfl,(HF.out.call (Chg.of_below (below_drewN (Below.refl _ _) _))).chg,fun st' q=>by cases q⟩
    ·rw[if_neg h110] at HR
     have hv:(pv == 110)=false:=by
      rw[HP.out]
      simp
      intro q
      apply h110
      exact UInt8.toNat_inj.1 (by have q':(p.toNat:Int)=110:=q;show p.toNat=110;omega)
     have hrc:=HRC.out
     rw[←HR.out] at hrc
     go_enter Tryz.func25,Tryz.ntmps25
     go_upto_region 1 with fail
     rw[←hwb]
     clear hwb
     go_wp2_with fail
     refine hip.mono ?_
     rintro e w1 ⟨rfl,rfl⟩
     go_wp2_with fail
     refine hrc.mono ?_
     rintro e w2 ⟨rfl,h3,h4⟩
     have HX:Hid (PcPost B cb mu md w star R (m+z) (.returned (.bool R.isSome)) w2):=⟨rfl,(HF.out.call h3).chg,h4⟩
     clear h3 h4 hrc
     go_wp2_with fail
     go_ret
     exact HX.out
end Go.Proofs.YtihmdcdifakepaaGreat.Sc
