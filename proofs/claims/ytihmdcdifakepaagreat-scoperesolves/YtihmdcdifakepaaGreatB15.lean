/- XC, ShelfR, XD -/
import Derived.Test.YtihmdcdifakepaaGreatB14
import Derived.Shelf.Strings.Repeat
import Derived.Shelf.Slices.Turned
import Derived.Test.YtihmdcdifakepaaGreatProg
set_option linter.unusedVariables false
set_option linter.unusedSimpArgs false
set_option maxRecDepth 100000
set_option maxHeartbeats 40000000
namespace Go.Proofs.YtihmdcdifakepaaGreat.Sc
open Go.RowKit
section
variable (x:Nd)(ad:Option Addr)(len cap:Nat)(w:World)
abbrev ndA (x:Nd)(ad:Option Addr)(len cap:Nat):Value := .agg #[.int .i64 x.kind,.int .i64 x.pl,.string x.name,.int .u64 x.num,.string x.op,.slice ad len cap]
theorem self_any:Calls Tryz.prog 67 #[ndA x ad len cap] w fun e w'=>e = .returned (.bool (selfB x))∧Below w.heap.size w w':=by
 obtain⟨kind,pl,name,num,op⟩:=x
 unfold ndA selfB isS
 simp only
 by_cases h:kind=12
 ·subst h
  cases hn:(name.toList == [])
  ·go_enter Tryz.func67,Tryz.ntmps67
   go_wp2_with fail
   go_ret
   exact⟨rfl,(Below.refl _ _).alloc (Nat.le_refl _) _⟩
  ·go_enter Tryz.func67,Tryz.ntmps67
   go_wp2_with fail
   go_ret
   exact⟨rfl,(Below.refl _ _).alloc (Nat.le_refl _) _⟩
 ·have h':(kind == 12)=false:=by simpa using h
  rw[h']
  go_enter Tryz.func67,Tryz.ntmps67
  go_wp2_with fail
  go_ret
  exact⟨rfl,(Below.refl _ _).alloc (Nat.le_refl _) _⟩
theorem isFn_any:Calls Tryz.prog 24 #[ndA x ad len cap] w fun e w'=>e = .returned (.bool (isFnB x))∧Below w.heap.size w w':=by
 obtain⟨kind,pl,name,num,op⟩:=x
 unfold ndA isFnB
 simp only
 by_cases h:kind=12
 ·subst h
  go_enter Tryz.func24,Tryz.ntmps24
  go_wp2_with fail
  go_ret
  exact⟨rfl,(Below.refl _ _).alloc (Nat.le_refl _) _⟩
 ·have h':(kind == 12)=false:=by simpa using h
  rw[h',Bool.false_or]
  obtain⟨q,hq⟩:∃q,q=(kind == 33):=⟨_,rfl⟩
  have HQ:Hid (q=(kind == 33)):=hq
  rw[←hq]
  clear hq h
  go_enter Tryz.func24,Tryz.ntmps24
  go_wp2_with fail
  go_ret
  rw[HQ.out]
  exact⟨rfl,(Below.refl _ _).alloc (Nat.le_refl _) _⟩
end
def Two (W0:World)(ad:Option Addr)(len:Nat)(q1 q2:Int):Prop:=3≤len∧∃b off,ad=some ⟨b,off,none⟩∧∀w,Below W0.heap.size W0 w→w.cell? ⟨b,off+6,none⟩=some (.int .i64 q1)∧w.cell? ⟨b,off+12,none⟩=some (.int .i64 q2)
def declI (x:Nd)(q1:Int):Bool:=if x.kind=31∨x.kind=32∨x.kind=33∨x.kind=38 then true else if x.kind=43 then q1 != 0 else selfB x
theorem declares_any (x:Nd)(ad:Option Addr)(len cap:Nat)(W0 w:World)(hb:Below W0.heap.size W0 w)(hl:len≤2 ^ 63 - 1)(q1 q2:Int)(h2:x.kind=43→Two W0 ad len q1 q2) :
  Calls Tryz.prog 46 #[ndA x ad len cap] w fun e w'=>e = .returned (.bool (declI x q1))∧Below w.heap.size w w':=by
 obtain⟨wb,hwb⟩:∃wb,wb=w.alloc (.cells #[.int .i64 x.kind,.int .i64 x.pl,.string x.name,.int .u64 x.num,.string x.op,.slice ad len cap] 25):=⟨_,rfl⟩
 have hB:Below w.heap.size w wb:=by rw[hwb];exact(Below.refl _ _).alloc (Nat.le_refl _) _
 have hbox:∀i v,(#[.int .i64 x.kind,.int .i64 x.pl,.string x.name,.int .u64 x.num,.string x.op,.slice ad len cap]:Array Value)[i]?=some v→wb.cell? ⟨w.heap.size,i,none⟩=some v:=by rw[hwb];exact box_new w _ _
 have hself:=self_any x ad len cap wb
 obtain⟨sv,hsv⟩:∃sv,sv=selfB x:=⟨_,rfl⟩
 rw[←hsv] at hself
 obtain⟨D,hD⟩:∃D,D=declI x q1:=⟨_,rfl⟩
 rw[←hD]
 unfold declI at hD
 rw[←hsv] at hD
 clear hsv
 obtain⟨kind,pl,name,num,op⟩:=x
 unfold ndA at hself ⊢
 simp only at hself hD h2 hbox hwb ⊢
 have b0:wb.cell? ⟨w.heap.size,0,none⟩=some (.int .i64 kind):=hbox 0 _ rfl
 have b1:wb.cell? ⟨w.heap.size,1,none⟩=some (.int .i64 pl):=hbox 1 _ rfl
 have b2:wb.cell? ⟨w.heap.size,2,none⟩=some (.string name):=hbox 2 _ rfl
 have b3:wb.cell? ⟨w.heap.size,3,none⟩=some (.int .u64 num):=hbox 3 _ rfl
 have b4:wb.cell? ⟨w.heap.size,4,none⟩=some (.string op):=hbox 4 _ rfl
 have b5:wb.cell? ⟨w.heap.size,5,none⟩=some (.slice ad len cap):=hbox 5 _ rfl
 have HB:Hid (Below w.heap.size w wb):=hB
 have HW:Hid (Below W0.heap.size W0 wb):=hb.trans (hB.mono hb.size)
 clear hB hbox hb
 by_cases h31:kind=31∨kind=32∨kind=33∨kind=38
 ·rw[if_pos h31] at hD
  rw[hD]
  rcases h31 with rfl | rfl | rfl | rfl
  all_goals
   go_enter Tryz.func46,Tryz.ntmps46
   go_upto_region 1 with fail
   rw[←hwb]
   clear hwb
   go_wp2_with fail
   go_ret
   exact⟨rfl,HB.out⟩
 ·rw[if_neg h31] at hD
  by_cases h43:kind=43
  ·rw[if_pos h43] at hD
   rw[hD]
   obtain⟨hl3,b,off,rfl,hc⟩:=h2 h43
   have z1:=(hc wb HW.out).1
   subst h43
   clear h2 hc
   have lt1:1<len:=by omega
   go_enter Tryz.func46,Tryz.ntmps46
   go_upto_region 1 with fail
   rw[←hwb]
   clear hwb
   go_wp2_with fail
   go_ret
   exact⟨rfl,HB.out⟩
  ·rw[if_neg h43] at hD
   rw[hD]
   have n1:(kind == 31)=false:=by simp;omega
   have n2:(kind == 32)=false:=by simp;omega
   have n3:(kind == 33)=false:=by simp;omega
   have n4:(kind == 38)=false:=by simp;omega
   have n5:(kind == 43)=false:=by simp;omega
   clear h2 h31 h43
   go_enter Tryz.func46,Tryz.ntmps46
   go_upto_region 1 with fail
   rw[←hwb]
   clear hwb
   go_wp2_with fail
   refine hself.mono ?_
   rintro e w2 ⟨rfl,hb2⟩
   have HB2:Hid (Below w.heap.size w w2):=HB.out.trans (hb2.mono HB.out.size)
   clear hb2 hself
   go_wp2_with fail
   go_ret
   exact⟨rfl,HB2.out⟩
end Go.Proofs.YtihmdcdifakepaaGreat.Sc
namespace Go.Proofs
open Go.Shelf
def Tryz.lays105_ren:Go.Shelf.Ren:=⟨fun | 105=>43 | 212=>60 | 99=>61 | 165=>62 | 166=>63 | 170=>64 | 169=>65 | 263=>74 | 264=>75 | 206=>76 | 240=>77 | 241=>78 | 276=>90 | 277=>91 | n=>n,fun | 9=>9 | 3=>3 | 4=>4 | 20=>20 | 0=>0 | 46=>104 | 109=>105 | 5=>5 | 72=>111 | 76=>115 | 51=>129 | 146=>130 | 53=>22 | 148=>132 | 70=>108 | 37=>109 | 75=>114 | 127=>134 | 164=>137 | 80=>118 | n=>n,fun | n=>n⟩
theorem Tryz.lays105:Go.Proofs.Lays.n105 Tryz.prog Tryz.lays105_ren:={
 mixed:=by kernel_rfl
 f99:=Tryz.func61.trans (congrArg some (by kernel_rfl))
 f105:=Tryz.func43.trans (congrArg some (by kernel_rfl))
 f165:=Tryz.func62.trans (congrArg some (by kernel_rfl))
 f166:=Tryz.func63.trans (congrArg some (by kernel_rfl))
 f169:=Tryz.func65.trans (congrArg some (by kernel_rfl))
 f170:=Tryz.func64.trans (congrArg some (by kernel_rfl))
 f206:=Tryz.func76.trans (congrArg some (by kernel_rfl))
 f212:=Tryz.func60.trans (congrArg some (by kernel_rfl))
 f240:=Tryz.func77.trans (congrArg some (by kernel_rfl))
 f241:=Tryz.func78.trans (congrArg some (by kernel_rfl))
 f263:=Tryz.func74.trans (congrArg some (by kernel_rfl))
 f264:=Tryz.func75.trans (congrArg some (by kernel_rfl))
 f276:=Tryz.func90.trans (congrArg some (by kernel_rfl))
 f277:=Tryz.func91.trans (congrArg some (by kernel_rfl))
 t0:=Tryz.underlying0
 a0:=Tryz.isAgg0
 z0:=Tryz.sizeOf0
 v0:=Tryz.zeroValue0
 t3:=Tryz.underlying3
 a3:=Tryz.isAgg3
 z3:=Tryz.sizeOf3
 v3:=Tryz.zeroValue3
 t4:=Tryz.underlying4
 a4:=Tryz.isAgg4
 z4:=Tryz.sizeOf4
 v4:=Tryz.zeroValue4
 t5:=Tryz.underlying5
 a5:=Tryz.isAgg5
 z5:=Tryz.sizeOf5
 v5:=Tryz.zeroValue5
 t9:=Tryz.underlying9
 a9:=Tryz.isAgg9
 z9:=Tryz.sizeOf9
 v9:=Tryz.zeroValue9
 t20:=Tryz.underlying20
 a20:=Tryz.isAgg20
 z20:=Tryz.sizeOf20
 v20:=Tryz.zeroValue20
 t37:=Tryz.underlying109
 a37:=Tryz.isAgg109
 z37:=Tryz.sizeOf109
 v37:=Tryz.zeroValue109
 t46:=Tryz.underlying104
 a46:=Tryz.isAgg104
 z46:=Tryz.sizeOf104
 v46:=Tryz.zeroValue104
 t51:=Tryz.underlying129
 a51:=Tryz.isAgg129
 z51:=Tryz.sizeOf129
 v51:=Tryz.zeroValue129
 t53:=Tryz.underlying22
 a53:=Tryz.isAgg22
 z53:=Tryz.sizeOf22
 v53:=Tryz.zeroValue22
 t70:=Tryz.underlying108
 a70:=Tryz.isAgg108
 z70:=Tryz.sizeOf108
 v70:=Tryz.zeroValue108
 t72:=Tryz.underlying111
 a72:=Tryz.isAgg111
 z72:=Tryz.sizeOf111
 v72:=Tryz.zeroValue111
 t75:=Tryz.underlying114
 a75:=Tryz.isAgg114
 z75:=Tryz.sizeOf114
 v75:=Tryz.zeroValue114
 t76:=Tryz.underlying115
 a76:=Tryz.isAgg115
 z76:=Tryz.sizeOf115
 v76:=Tryz.zeroValue115
 t109:=Tryz.underlying105
 a109:=Tryz.isAgg105
 z109:=Tryz.sizeOf105
 v109:=Tryz.zeroValue105
 t127:=Tryz.underlying134
 a127:=Tryz.isAgg134
 z127:=Tryz.sizeOf134
 v127:=Tryz.zeroValue134
 t146:=Tryz.underlying130
 a146:=Tryz.isAgg130
 z146:=Tryz.sizeOf130
 v146:=Tryz.zeroValue130
 t148:=Tryz.underlying132
 a148:=Tryz.isAgg132
 z148:=Tryz.sizeOf132
 v148:=Tryz.zeroValue132
 t164:=Tryz.underlying137
 a164:=Tryz.isAgg137
 z164:=Tryz.sizeOf137
 v164:=Tryz.zeroValue137 }
theorem Tryz.Builder_Extra_105:Builder.Extra Tryz.prog Tryz.lays105_ren:={
 sizeBuilder:=by kernel_rfl
 liesBuilder:=by kernel_rfl
 t5:=Tryz.underlying5
 a5:=Tryz.isAgg5
 z5:=Tryz.sizeOf5
 v5:=Tryz.zeroValue5
 infoByte:=by kernel_rfl
 cellsByte:=by kernel_rfl
 sizeByte:=by kernel_rfl
 neB5:=by decide }
open Go.RowKit Go.Lib in
theorem Tryz.strings_Repeat (s:ByteArray)(c:Nat)(w:World)(hc:c≤9223372036854775807)(hlen:s.size*c≤140737488355328) :
  Calls Tryz.prog 43 #[.string s,.int .i64 c] w fun e w'=>e = .returned (.string ⟨(Lib.repeatL s.data.toList c).toArray⟩)∧Below w.heap.size w w':=Any.strings_Repeat Tryz.lays105 Tryz.Builder_Extra_105 s c w hc hlen
def Tryz.lays109_ren:Go.Shelf.Ren:=⟨fun | 109=>79 | n=>n,fun | 31=>58 | 9=>9 | 3=>3 | 0=>0 | 4=>4 | n=>n,fun | n=>n⟩
theorem Tryz.lays109:Go.Proofs.Lays.n109 Tryz.prog Tryz.lays109_ren:={
 mixed:=by kernel_rfl
 f109:=Tryz.func79.trans (congrArg some (by kernel_rfl))
 t0:=Tryz.underlying0
 a0:=Tryz.isAgg0
 z0:=Tryz.sizeOf0
 v0:=Tryz.zeroValue0
 t3:=Tryz.underlying3
 a3:=Tryz.isAgg3
 z3:=Tryz.sizeOf3
 v3:=Tryz.zeroValue3
 t4:=Tryz.underlying4
 a4:=Tryz.isAgg4
 z4:=Tryz.sizeOf4
 v4:=Tryz.zeroValue4
 t9:=Tryz.underlying9
 a9:=Tryz.isAgg9
 z9:=Tryz.sizeOf9
 v9:=Tryz.zeroValue9
 t31:=Tryz.underlying58
 a31:=Tryz.isAgg58
 z31:=Tryz.sizeOf58
 v31:=Tryz.zeroValue58 }
open Go.Lib in
theorem Tryz.slices_Index_string (b off n c:Nat)(zs:List ByteArray)(x:ByteArray)(w:World)(hz:n≤zs.length)(hbig:n≤9223372036854775807)(hc:∀j,j<zs.length→w.cell? ⟨b,off+j,none⟩=some (.string (zs.getD j ByteArray.empty))) :
  Calls Tryz.prog 79 #[.slice (some ⟨b,off,none⟩) n c,.string x] w fun e w'=>e = .returned (.int .i64 (Lib.idxOfS (zs.take n) x))∧w'=w:=Any.slices_Index_string Tryz.lays109 b off n c zs x w hz hbig hc
def Tryz.lays110_ren:Go.Shelf.Ren:=⟨fun | 110=>66 | 109=>79 | n=>n,fun | 31=>58 | 9=>9 | 4=>4 | 3=>3 | 0=>0 | n=>n,fun | n=>n⟩
theorem Tryz.lays110:Go.Proofs.Lays.n110 Tryz.prog Tryz.lays110_ren:={
 mixed:=by kernel_rfl
 f109:=Tryz.func79.trans (congrArg some (by kernel_rfl))
 f110:=Tryz.func66.trans (congrArg some (by kernel_rfl))
 t0:=Tryz.underlying0
 a0:=Tryz.isAgg0
 z0:=Tryz.sizeOf0
 v0:=Tryz.zeroValue0
 t3:=Tryz.underlying3
 a3:=Tryz.isAgg3
 z3:=Tryz.sizeOf3
 v3:=Tryz.zeroValue3
 t4:=Tryz.underlying4
 a4:=Tryz.isAgg4
 z4:=Tryz.sizeOf4
 v4:=Tryz.zeroValue4
 t9:=Tryz.underlying9
 a9:=Tryz.isAgg9
 z9:=Tryz.sizeOf9
 v9:=Tryz.zeroValue9
 t31:=Tryz.underlying58
 a31:=Tryz.isAgg58
 z31:=Tryz.sizeOf58
 v31:=Tryz.zeroValue58 }
open Go.Lib in
theorem Tryz.slices_Contains_string (b off n c:Nat)(zs:List ByteArray)(x:ByteArray)(w:World)(hz:n≤zs.length)(hbig:n≤9223372036854775807)(hc:∀j,j<zs.length→w.cell? ⟨b,off+j,none⟩=some (.string (zs.getD j ByteArray.empty))) :
  Calls Tryz.prog 66 #[.slice (some ⟨b,off,none⟩) n c,.string x] w fun e w'=>e = .returned (.bool (Lib.containsS (zs.take n) x))∧w'=w:=Any.slices_Contains_string Tryz.lays110 b off n c zs x w hz hbig hc
end Go.Proofs
namespace Go.Proofs.YtihmdcdifakepaaGreat.Sc
open Go.RowKit
theorem bytes_eq (a b:ByteArray)(h:a.toList=b.toList):a=b:=by
 rw[Lib.toList_data,Lib.toList_data] at h
 cases a with | mk x=>cases b with | mk y=>simp only at h;rw[show x=y from Array.toList_inj.1 h]
theorem containsS_any (zs:List ByteArray)(s:ByteArray):Lib.containsS zs s=zs.any fun z=>z.toList == s.toList:=by
 rw[Bool.eq_iff_iff,Lib.containsS_iff,List.any_eq_true]
 constructor
 ·intro h;exact⟨s,h,by simp⟩
 ·rintro⟨z,h1,h2⟩
  rw[←bytes_eq z s (by simpa using h2)]
  exact h1
theorem isOne_any (s:ByteArray)(b:Nat)(cap:Nat)(zs:List ByteArray)(w:World)(hz:StrsAt w (some ⟨b,0,none⟩) zs)(hne:zs≠[])(hl:zs.length≤1000) :
  Calls Tryz.prog 44 #[.string s,.slice (some ⟨b,0,none⟩) zs.length cap] w fun e w'=>e = .returned (.bool (zs.any fun z=>z.toList == s.toList))∧w'=w:=by
 obtain⟨b',off',e1,hc⟩:=hz hne
 cases e1
 have hcon:=Tryz.slices_Contains_string b 0 zs.length cap zs s w (Nat.le_refl _) (by omega) (fun j hj=>by
  have:=hc j _ (List.getElem?_eq_getElem hj)
  rw[this]
  simp[List.getD,List.getElem?_eq_getElem hj])
 rw[List.take_length,containsS_any] at hcon
 obtain⟨A,hA⟩:∃A,A=(zs.any fun z=>z.toList == s.toList):=⟨_,rfl⟩
 rw[←hA] at hcon ⊢
 clear hA hc
 go_enter Tryz.func44,Tryz.ntmps44
 go_wp2_with fail
 refine hcon.mono ?_
 rintro e w1 ⟨rfl,rfl⟩
 go_wp2_with fail
 go_ret
 exact⟨rfl,rfl⟩
theorem rightOp_11 (pl num:Int)(name op:ByteArray)(ad:Option Addr)(len cap:Nat)(w:World) :
  Calls Tryz.prog 22 #[ndA ⟨11,pl,name,num,op⟩ ad len cap] w fun e w'=>e = .returned (.bool (oneB op propL))∧Below w.heap.size w w':=by
 obtain⟨A,hA⟩:∃A,A=oneB op propL:=⟨_,rfl⟩
 rw[←hA]
 obtain⟨wb,hwb⟩:∃wb,wb=(w.alloc (.cells #[.int .i64 11,.int .i64 pl,.string name,.int .u64 num,.string op,.slice ad len cap] 25)).alloc (.cells ((propL.map bs).map Value.string).toArray 9):=⟨_,rfl⟩
 have hs:StrsAt wb (some ⟨w.heap.size+1,0,none⟩) (propL.map bs):=by
  rw[hwb]
  have:=strs_new (w.alloc (.cells #[.int .i64 11,.int .i64 pl,.string name,.int .u64 num,.string op,.slice ad len cap] 25)) (propL.map bs)
  simpa using this
 have HB:Hid (Below w.heap.size w wb):=by rw[hwb];exact((Below.refl w.heap.size w).alloc (Nat.le_refl _) _).alloc (by simp) _
 have hc:=isOne_any op (w.heap.size+1) (propL.map bs).length (propL.map bs) wb hs (by decide) (by decide)
 rw[any_one,←hA,hwb] at hc
 rw[hwb] at HB
 clear hA hs hwb
 unfold ndA
 go_enter Tryz.func22,Tryz.ntmps22
 go_wp2_with fail
 refine hc.mono ?_
 rintro e w1 ⟨rfl,rfl⟩
 clear hc
 go_wp2_with fail
 go_ret
 exact⟨rfl,HB.out⟩
theorem rightOp_16 (pl num:Int)(name op:ByteArray)(ad:Option Addr)(len cap:Nat)(w:World) :
  Calls Tryz.prog 22 #[ndA ⟨16,pl,name,num,op⟩ ad len cap] w fun e w'=>e = .returned (.bool (oneB op unaryL))∧Below w.heap.size w w':=by
 obtain⟨A,hA⟩:∃A,A=oneB op unaryL:=⟨_,rfl⟩
 rw[←hA]
 obtain⟨wb,hwb⟩:∃wb,wb=(w.alloc (.cells #[.int .i64 16,.int .i64 pl,.string name,.int .u64 num,.string op,.slice ad len cap] 25)).alloc (.cells ((unaryL.map bs).map Value.string).toArray 9):=⟨_,rfl⟩
 have hs:StrsAt wb (some ⟨w.heap.size+1,0,none⟩) (unaryL.map bs):=by
  rw[hwb]
  have:=strs_new (w.alloc (.cells #[.int .i64 16,.int .i64 pl,.string name,.int .u64 num,.string op,.slice ad len cap] 25)) (unaryL.map bs)
  simpa using this
 have HB:Hid (Below w.heap.size w wb):=by rw[hwb];exact((Below.refl w.heap.size w).alloc (Nat.le_refl _) _).alloc (by simp) _
 have hc:=isOne_any op (w.heap.size+1) (unaryL.map bs).length (unaryL.map bs) wb hs (by decide) (by decide)
 rw[any_one,←hA,hwb] at hc
 rw[hwb] at HB
 clear hA hs hwb
 unfold ndA
 go_enter Tryz.func22,Tryz.ntmps22
 go_wp2_with fail
 refine hc.mono ?_
 rintro e w1 ⟨rfl,rfl⟩
 clear hc
 go_wp2_with fail
 go_ret
 exact⟨rfl,HB.out⟩
theorem rightOp_17 (pl num:Int)(name op:ByteArray)(ad:Option Addr)(len cap:Nat)(w:World) :
  Calls Tryz.prog 22 #[ndA ⟨17,pl,name,num,op⟩ ad len cap] w fun e w'=>e = .returned (.bool (oneB op updateL))∧Below w.heap.size w w':=by
 obtain⟨A,hA⟩:∃A,A=oneB op updateL:=⟨_,rfl⟩
 rw[←hA]
 obtain⟨wb,hwb⟩:∃wb,wb=(w.alloc (.cells #[.int .i64 17,.int .i64 pl,.string name,.int .u64 num,.string op,.slice ad len cap] 25)).alloc (.cells ((updateL.map bs).map Value.string).toArray 9):=⟨_,rfl⟩
 have hs:StrsAt wb (some ⟨w.heap.size+1,0,none⟩) (updateL.map bs):=by
  rw[hwb]
  have:=strs_new (w.alloc (.cells #[.int .i64 17,.int .i64 pl,.string name,.int .u64 num,.string op,.slice ad len cap] 25)) (updateL.map bs)
  simpa using this
 have HB:Hid (Below w.heap.size w wb):=by rw[hwb];exact((Below.refl w.heap.size w).alloc (Nat.le_refl _) _).alloc (by simp) _
 have hc:=isOne_any op (w.heap.size+1) (updateL.map bs).length (updateL.map bs) wb hs (by decide) (by decide)
 rw[any_one,←hA,hwb] at hc
 rw[hwb] at HB
 clear hA hs hwb
 unfold ndA
 go_enter Tryz.func22,Tryz.ntmps22
 go_wp2_with fail
 refine hc.mono ?_
 rintro e w1 ⟨rfl,rfl⟩
 clear hc
 go_wp2_with fail
 go_ret
 exact⟨rfl,HB.out⟩
theorem rightOp_18 (pl num:Int)(name op:ByteArray)(ad:Option Addr)(len cap:Nat)(w:World) :
  Calls Tryz.prog 22 #[ndA ⟨18,pl,name,num,op⟩ ad len cap] w fun e w'=>e = .returned (.bool (oneB op binaryPL))∧Below w.heap.size w w':=by
 obtain⟨A,hA⟩:∃A,A=oneB op binaryPL:=⟨_,rfl⟩
 rw[←hA]
 obtain⟨wb,hwb⟩:∃wb,wb=(w.alloc (.cells #[.int .i64 18,.int .i64 pl,.string name,.int .u64 num,.string op,.slice ad len cap] 25)).alloc (.cells ((binaryPL.map bs).map Value.string).toArray 9):=⟨_,rfl⟩
 have hs:StrsAt wb (some ⟨w.heap.size+1,0,none⟩) (binaryPL.map bs):=by
  rw[hwb]
  have:=strs_new (w.alloc (.cells #[.int .i64 18,.int .i64 pl,.string name,.int .u64 num,.string op,.slice ad len cap] 25)) (binaryPL.map bs)
  simpa using this
 have HB:Hid (Below w.heap.size w wb):=by rw[hwb];exact((Below.refl w.heap.size w).alloc (Nat.le_refl _) _).alloc (by simp) _
 have hc:=isOne_any op (w.heap.size+1) (binaryPL.map bs).length (binaryPL.map bs) wb hs (by decide) (by decide)
 rw[any_one,←hA,hwb] at hc
 rw[hwb] at HB
 clear hA hs hwb
 unfold ndA
 go_enter Tryz.func22,Tryz.ntmps22
 go_wp2_with fail
 refine hc.mono ?_
 rintro e w1 ⟨rfl,rfl⟩
 clear hc
 go_wp2_with fail
 go_ret
 exact⟨rfl,HB.out⟩
theorem rightOp_19 (pl num:Int)(name op:ByteArray)(ad:Option Addr)(len cap:Nat)(w:World) :
  Calls Tryz.prog 22 #[ndA ⟨19,pl,name,num,op⟩ ad len cap] w fun e w'=>e = .returned (.bool (oneB op logicL))∧Below w.heap.size w w':=by
 obtain⟨A,hA⟩:∃A,A=oneB op logicL:=⟨_,rfl⟩
 rw[←hA]
 obtain⟨wb,hwb⟩:∃wb,wb=(w.alloc (.cells #[.int .i64 19,.int .i64 pl,.string name,.int .u64 num,.string op,.slice ad len cap] 25)).alloc (.cells ((logicL.map bs).map Value.string).toArray 9):=⟨_,rfl⟩
 have hs:StrsAt wb (some ⟨w.heap.size+1,0,none⟩) (logicL.map bs):=by
  rw[hwb]
  have:=strs_new (w.alloc (.cells #[.int .i64 19,.int .i64 pl,.string name,.int .u64 num,.string op,.slice ad len cap] 25)) (logicL.map bs)
  simpa using this
 have HB:Hid (Below w.heap.size w wb):=by rw[hwb];exact((Below.refl w.heap.size w).alloc (Nat.le_refl _) _).alloc (by simp) _
 have hc:=isOne_any op (w.heap.size+1) (logicL.map bs).length (logicL.map bs) wb hs (by decide) (by decide)
 rw[any_one,←hA,hwb] at hc
 rw[hwb] at HB
 clear hA hs hwb
 unfold ndA
 go_enter Tryz.func22,Tryz.ntmps22
 go_wp2_with fail
 refine hc.mono ?_
 rintro e w1 ⟨rfl,rfl⟩
 clear hc
 go_wp2_with fail
 go_ret
 exact⟨rfl,HB.out⟩
theorem rightOp_21 (pl num:Int)(name op:ByteArray)(ad:Option Addr)(len cap:Nat)(w:World) :
  Calls Tryz.prog 22 #[ndA ⟨21,pl,name,num,op⟩ ad len cap] w fun e w'=>e = .returned (.bool (oneB op assignL))∧Below w.heap.size w w':=by
 obtain⟨A,hA⟩:∃A,A=oneB op assignL:=⟨_,rfl⟩
 rw[←hA]
 obtain⟨wb,hwb⟩:∃wb,wb=(w.alloc (.cells #[.int .i64 21,.int .i64 pl,.string name,.int .u64 num,.string op,.slice ad len cap] 25)).alloc (.cells ((assignL.map bs).map Value.string).toArray 9):=⟨_,rfl⟩
 have hs:StrsAt wb (some ⟨w.heap.size+1,0,none⟩) (assignL.map bs):=by
  rw[hwb]
  have:=strs_new (w.alloc (.cells #[.int .i64 21,.int .i64 pl,.string name,.int .u64 num,.string op,.slice ad len cap] 25)) (assignL.map bs)
  simpa using this
 have HB:Hid (Below w.heap.size w wb):=by rw[hwb];exact((Below.refl w.heap.size w).alloc (Nat.le_refl _) _).alloc (by simp) _
 have hc:=isOne_any op (w.heap.size+1) (assignL.map bs).length (assignL.map bs) wb hs (by decide) (by decide)
 rw[any_one,←hA,hwb] at hc
 rw[hwb] at HB
 clear hA hs hwb
 unfold ndA
 go_enter Tryz.func22,Tryz.ntmps22
 go_wp2_with fail
 refine hc.mono ?_
 rintro e w1 ⟨rfl,rfl⟩
 clear hc
 go_wp2_with fail
 go_ret
 exact⟨rfl,HB.out⟩
theorem rightOp_38 (pl num:Int)(name op:ByteArray)(ad:Option Addr)(len cap:Nat)(w:World) :
  Calls Tryz.prog 22 #[ndA ⟨38,pl,name,num,op⟩ ad len cap] w fun e w'=>e = .returned (.bool (oneB op ofL))∧Below w.heap.size w w':=by
 obtain⟨A,hA⟩:∃A,A=oneB op ofL:=⟨_,rfl⟩
 rw[←hA]
 obtain⟨wb,hwb⟩:∃wb,wb=(w.alloc (.cells #[.int .i64 38,.int .i64 pl,.string name,.int .u64 num,.string op,.slice ad len cap] 25)).alloc (.cells ((ofL.map bs).map Value.string).toArray 9):=⟨_,rfl⟩
 have hs:StrsAt wb (some ⟨w.heap.size+1,0,none⟩) (ofL.map bs):=by
  rw[hwb]
  have:=strs_new (w.alloc (.cells #[.int .i64 38,.int .i64 pl,.string name,.int .u64 num,.string op,.slice ad len cap] 25)) (ofL.map bs)
  simpa using this
 have HB:Hid (Below w.heap.size w wb):=by rw[hwb];exact((Below.refl w.heap.size w).alloc (Nat.le_refl _) _).alloc (by simp) _
 have hc:=isOne_any op (w.heap.size+1) (ofL.map bs).length (ofL.map bs) wb hs (by decide) (by decide)
 rw[any_one,←hA,hwb] at hc
 rw[hwb] at HB
 clear hA hs hwb
 unfold ndA
 go_enter Tryz.func22,Tryz.ntmps22
 go_wp2_with fail
 refine hc.mono ?_
 rintro e w1 ⟨rfl,rfl⟩
 clear hc
 go_wp2_with fail
 go_ret
 exact⟨rfl,HB.out⟩
theorem rightOp_12 (pl num:Int)(name op:ByteArray)(ad:Option Addr)(len cap:Nat)(w:World) :
  Calls Tryz.prog 22 #[ndA ⟨12,pl,name,num,op⟩ ad len cap] w fun e w'=>e = .returned (.bool (isS op [42] || isS op []))∧Below w.heap.size w w':=by
 unfold ndA isS
 simp only
 cases h1:(op.toList == [42])
 ·cases h2:(op.toList == [])
  all_goals
   go_enter Tryz.func22,Tryz.ntmps22
   go_wp2_with fail
   go_ret
   exact⟨rfl,(Below.refl _ _).alloc (Nat.le_refl _) _⟩
 ·go_enter Tryz.func22,Tryz.ntmps22
  go_wp2_with fail
  go_ret
  exact⟨rfl,(Below.refl _ _).alloc (Nat.le_refl _) _⟩
theorem rightOp_33 (pl num:Int)(name op:ByteArray)(ad:Option Addr)(len cap:Nat)(w:World) :
  Calls Tryz.prog 22 #[ndA ⟨33,pl,name,num,op⟩ ad len cap] w fun e w'=>e = .returned (.bool (isS op [42] || isS op []))∧Below w.heap.size w w':=by
 unfold ndA isS
 simp only
 cases h1:(op.toList == [42])
 ·cases h2:(op.toList == [])
  all_goals
   go_enter Tryz.func22,Tryz.ntmps22
   go_wp2_with fail
   go_ret
   exact⟨rfl,(Below.refl _ _).alloc (Nat.le_refl _) _⟩
 ·go_enter Tryz.func22,Tryz.ntmps22
  go_wp2_with fail
  go_ret
  exact⟨rfl,(Below.refl _ _).alloc (Nat.le_refl _) _⟩
theorem rightOp_no (kind pl num:Int)(name op:ByteArray)(ad:Option Addr)(len cap:Nat)(w:World)(n12:(kind == 12)=false)(n33:(kind == 33)=false)(n11:(kind == 11)=false)(n16:(kind == 16)=false)(n17:(kind == 17)=false)(n18:(kind == 18)=false)(n19:(kind == 19)=false)(n21:(kind == 21)=false)(n38:(kind == 38)=false) :
  Calls Tryz.prog 22 #[ndA ⟨kind,pl,name,num,op⟩ ad len cap] w fun e w'=>e = .returned (.bool true)∧Below w.heap.size w w':=by
 unfold ndA
 simp only
 go_enter Tryz.func22,Tryz.ntmps22
 go_wp2_with fail
 go_ret
 exact⟨rfl,(Below.refl _ _).alloc (Nat.le_refl _) _⟩
theorem rightOp_any (x:Nd)(ad:Option Addr)(len cap:Nat)(w:World):Calls Tryz.prog 22 #[ndA x ad len cap] w fun e w'=>e = .returned (.bool (rightOpB x))∧Below w.heap.size w w':=by
 obtain⟨kind,pl,name,num,op⟩:=x
 by_cases h12:kind=12
 ·subst h12
  have e:rightOpB ⟨12,pl,name,num,op⟩=(isS op [42] || isS op []):=by unfold rightOpB;simp
  rw[e]
  exact rightOp_12 pl num name op ad len cap w
 by_cases h33:kind=33
 ·subst h33
  have e:rightOpB ⟨33,pl,name,num,op⟩=(isS op [42] || isS op []):=by unfold rightOpB;simp
  rw[e]
  exact rightOp_33 pl num name op ad len cap w
 by_cases h11:kind=11
 ·subst h11
  have e:rightOpB ⟨11,pl,name,num,op⟩=oneB op propL:=by unfold rightOpB;simp
  rw[e]
  exact rightOp_11 pl num name op ad len cap w
 by_cases h16:kind=16
 ·subst h16
  have e:rightOpB ⟨16,pl,name,num,op⟩=oneB op unaryL:=by unfold rightOpB;simp
  rw[e]
  exact rightOp_16 pl num name op ad len cap w
 by_cases h17:kind=17
 ·subst h17
  have e:rightOpB ⟨17,pl,name,num,op⟩=oneB op updateL:=by unfold rightOpB;simp
  rw[e]
  exact rightOp_17 pl num name op ad len cap w
 by_cases h18:kind=18
 ·subst h18
  have e:rightOpB ⟨18,pl,name,num,op⟩=oneB op binaryPL:=by unfold rightOpB;simp
  rw[e]
  exact rightOp_18 pl num name op ad len cap w
 by_cases h19:kind=19
 ·subst h19
  have e:rightOpB ⟨19,pl,name,num,op⟩=oneB op logicL:=by unfold rightOpB;simp
  rw[e]
  exact rightOp_19 pl num name op ad len cap w
 by_cases h21:kind=21
 ·subst h21
  have e:rightOpB ⟨21,pl,name,num,op⟩=oneB op assignL:=by unfold rightOpB;simp
  rw[e]
  exact rightOp_21 pl num name op ad len cap w
 by_cases h38:kind=38
 ·subst h38
  have e:rightOpB ⟨38,pl,name,num,op⟩=oneB op ofL:=by unfold rightOpB;simp
  rw[e]
  exact rightOp_38 pl num name op ad len cap w
 have e:rightOpB ⟨kind,pl,name,num,op⟩=true:=by
  unfold rightOpB
  repeat rw[if_neg (by simp only;omega)]
 rw[e]
 exact rightOp_no kind pl num name op ad len cap w (by simpa using h12) (by simpa using h33) (by simpa using h11) (by simpa using h16) (by simpa using h17) (by simpa using h18) (by simpa using h19) (by simpa using h21) (by simpa using h38)
end Go.Proofs.YtihmdcdifakepaaGreat.Sc
