/- WF -/
import Derived.Test.YtihmdcdifakepaaGreatB5
set_option linter.unusedVariables false
set_option linter.unusedSimpArgs false
set_option maxRecDepth 100000
set_option maxHeartbeats 40000000
namespace Go.Proofs.YtihmdcdifakepaaGreat.Sc
open Go.RowKit
def bs (l:List UInt8):ByteArray:=⟨l.toArray⟩
theorem bs_toList (l:List UInt8):(bs l).toList=l:=by rw[Lib.toList_data];simp[bs]
theorem any_one (s:ByteArray)(L:List (List UInt8)):((L.map bs).any fun z=>z.toList == s.toList)=oneB s L:=by
 unfold oneB
 rw[List.any_map]
 induction L with
 | nil=>rfl
 | cons a r ih =>
   rw[List.any_cons,List.contains_cons,ih]
   congr 1
   simp only[Function.comp,bs_toList]
   rw[Bool.eq_iff_iff]
   simp
   exact⟨fun h=>h.symm,fun h=>h.symm⟩
theorem strs_new (w:World)(zs:List ByteArray):StrsAt (w.alloc (.cells (zs.map Value.string).toArray 9)) (some ⟨w.heap.size,0,none⟩) zs:=by
 intro _
 refine⟨w.heap.size,0,rfl,fun i z hi => ?_⟩
 have:=box_new w (zs.map Value.string).toArray 9 (0+i) (.string z) (by simp[hi])
 exact this
def ShPost (x:Nd)(w:World)(e:Ending)(w':World):Prop:=∃(b:Nat)(zs:List ByteArray),e = .returned (.tuple #[.int .i64 (shapeR x).1,.int .i64 (shapeR x).2.1,.slice (some ⟨b,0,none⟩) zs.length zs.length])∧StrsAt w' (some ⟨b,0,none⟩) zs∧(zs.any fun z=>z.toList == x.op.toList)=(shapeR x).2.2∧zs.length≤1000∧Below w.heap.size w w'
theorem any_self (s:ByteArray):([s].any fun z=>z.toList == s.toList)=true:=by simp
theorem shape_1 (pl num:Int)(name op:ByteArray)(ad:Option Addr)(len cap:Nat)(w:World) :
  Calls Tryz.prog 55 #[.agg #[.int .i64 1,.int .i64 pl,.string name,.int .u64 num,.string op,.slice ad len cap]] w (ShPost ⟨1,pl,name,num,op⟩ w):=by
 have hs:shapeR ⟨1,pl,name,num,op⟩=(0,0,true):=by unfold shapeR;simp
 unfold ShPost
 rw[hs]
 clear hs
 go_enter Tryz.func55,Tryz.ntmps55
 go_wp2
 refine bodyPost_ret (v := .tuple #[.int .i64 0,.int .i64 (0),.slice (some ⟨w.heap.size+1,0,none⟩) 1 1]) (by simp[results,Tryz.results55,go_sem]) rfl ⟨w.heap.size+1,[op],rfl,?_,any_self op,by simp,?_⟩
 ·have:=strs_new (w.alloc (.cells #[.int .i64 1,.int .i64 pl,.string name,.int .u64 num,.string op,.slice ad len cap] 25)) [op]
  simpa using this
 ·exact((Below.refl w.heap.size w).alloc (Nat.le_refl _) _).alloc (by simp) _
theorem shape_2 (pl num:Int)(name op:ByteArray)(ad:Option Addr)(len cap:Nat)(w:World) :
  Calls Tryz.prog 55 #[.agg #[.int .i64 2,.int .i64 pl,.string name,.int .u64 num,.string op,.slice ad len cap]] w (ShPost ⟨2,pl,name,num,op⟩ w):=by
 have hs:shapeR ⟨2,pl,name,num,op⟩=(0,0,true):=by unfold shapeR;simp
 unfold ShPost
 rw[hs]
 clear hs
 go_enter Tryz.func55,Tryz.ntmps55
 go_wp2
 refine bodyPost_ret (v := .tuple #[.int .i64 0,.int .i64 (0),.slice (some ⟨w.heap.size+1,0,none⟩) 1 1]) (by simp[results,Tryz.results55,go_sem]) rfl ⟨w.heap.size+1,[op],rfl,?_,any_self op,by simp,?_⟩
 ·have:=strs_new (w.alloc (.cells #[.int .i64 2,.int .i64 pl,.string name,.int .u64 num,.string op,.slice ad len cap] 25)) [op]
  simpa using this
 ·exact((Below.refl w.heap.size w).alloc (Nat.le_refl _) _).alloc (by simp) _
theorem shape_3 (pl num:Int)(name op:ByteArray)(ad:Option Addr)(len cap:Nat)(w:World) :
  Calls Tryz.prog 55 #[.agg #[.int .i64 3,.int .i64 pl,.string name,.int .u64 num,.string op,.slice ad len cap]] w (ShPost ⟨3,pl,name,num,op⟩ w):=by
 have hs:shapeR ⟨3,pl,name,num,op⟩=(0,0,true):=by unfold shapeR;simp
 unfold ShPost
 rw[hs]
 clear hs
 go_enter Tryz.func55,Tryz.ntmps55
 go_wp2
 refine bodyPost_ret (v := .tuple #[.int .i64 0,.int .i64 (0),.slice (some ⟨w.heap.size+1,0,none⟩) 1 1]) (by simp[results,Tryz.results55,go_sem]) rfl ⟨w.heap.size+1,[op],rfl,?_,any_self op,by simp,?_⟩
 ·have:=strs_new (w.alloc (.cells #[.int .i64 3,.int .i64 pl,.string name,.int .u64 num,.string op,.slice ad len cap] 25)) [op]
  simpa using this
 ·exact((Below.refl w.heap.size w).alloc (Nat.le_refl _) _).alloc (by simp) _
theorem shape_4 (pl num:Int)(name op:ByteArray)(ad:Option Addr)(len cap:Nat)(w:World) :
  Calls Tryz.prog 55 #[.agg #[.int .i64 4,.int .i64 pl,.string name,.int .u64 num,.string op,.slice ad len cap]] w (ShPost ⟨4,pl,name,num,op⟩ w):=by
 have hs:shapeR ⟨4,pl,name,num,op⟩=(0,0,true):=by unfold shapeR;simp
 unfold ShPost
 rw[hs]
 clear hs
 go_enter Tryz.func55,Tryz.ntmps55
 go_wp2
 refine bodyPost_ret (v := .tuple #[.int .i64 0,.int .i64 (0),.slice (some ⟨w.heap.size+1,0,none⟩) 1 1]) (by simp[results,Tryz.results55,go_sem]) rfl ⟨w.heap.size+1,[op],rfl,?_,any_self op,by simp,?_⟩
 ·have:=strs_new (w.alloc (.cells #[.int .i64 4,.int .i64 pl,.string name,.int .u64 num,.string op,.slice ad len cap] 25)) [op]
  simpa using this
 ·exact((Below.refl w.heap.size w).alloc (Nat.le_refl _) _).alloc (by simp) _
theorem shape_5 (pl num:Int)(name op:ByteArray)(ad:Option Addr)(len cap:Nat)(w:World) :
  Calls Tryz.prog 55 #[.agg #[.int .i64 5,.int .i64 pl,.string name,.int .u64 num,.string op,.slice ad len cap]] w (ShPost ⟨5,pl,name,num,op⟩ w):=by
 have hs:shapeR ⟨5,pl,name,num,op⟩=(0,0,true):=by unfold shapeR;simp
 unfold ShPost
 rw[hs]
 clear hs
 go_enter Tryz.func55,Tryz.ntmps55
 go_wp2
 refine bodyPost_ret (v := .tuple #[.int .i64 0,.int .i64 (0),.slice (some ⟨w.heap.size+1,0,none⟩) 1 1]) (by simp[results,Tryz.results55,go_sem]) rfl ⟨w.heap.size+1,[op],rfl,?_,any_self op,by simp,?_⟩
 ·have:=strs_new (w.alloc (.cells #[.int .i64 5,.int .i64 pl,.string name,.int .u64 num,.string op,.slice ad len cap] 25)) [op]
  simpa using this
 ·exact((Below.refl w.heap.size w).alloc (Nat.le_refl _) _).alloc (by simp) _
theorem shape_6 (pl num:Int)(name op:ByteArray)(ad:Option Addr)(len cap:Nat)(w:World) :
  Calls Tryz.prog 55 #[.agg #[.int .i64 6,.int .i64 pl,.string name,.int .u64 num,.string op,.slice ad len cap]] w (ShPost ⟨6,pl,name,num,op⟩ w):=by
 have hs:shapeR ⟨6,pl,name,num,op⟩=(0,0,true):=by unfold shapeR;simp
 unfold ShPost
 rw[hs]
 clear hs
 go_enter Tryz.func55,Tryz.ntmps55
 go_wp2
 refine bodyPost_ret (v := .tuple #[.int .i64 0,.int .i64 (0),.slice (some ⟨w.heap.size+1,0,none⟩) 1 1]) (by simp[results,Tryz.results55,go_sem]) rfl ⟨w.heap.size+1,[op],rfl,?_,any_self op,by simp,?_⟩
 ·have:=strs_new (w.alloc (.cells #[.int .i64 6,.int .i64 pl,.string name,.int .u64 num,.string op,.slice ad len cap] 25)) [op]
  simpa using this
 ·exact((Below.refl w.heap.size w).alloc (Nat.le_refl _) _).alloc (by simp) _
theorem shape_7 (pl num:Int)(name op:ByteArray)(ad:Option Addr)(len cap:Nat)(w:World) :
  Calls Tryz.prog 55 #[.agg #[.int .i64 7,.int .i64 pl,.string name,.int .u64 num,.string op,.slice ad len cap]] w (ShPost ⟨7,pl,name,num,op⟩ w):=by
 have hs:shapeR ⟨7,pl,name,num,op⟩=(0,0,true):=by unfold shapeR;simp
 unfold ShPost
 rw[hs]
 clear hs
 go_enter Tryz.func55,Tryz.ntmps55
 go_wp2
 refine bodyPost_ret (v := .tuple #[.int .i64 0,.int .i64 (0),.slice (some ⟨w.heap.size+1,0,none⟩) 1 1]) (by simp[results,Tryz.results55,go_sem]) rfl ⟨w.heap.size+1,[op],rfl,?_,any_self op,by simp,?_⟩
 ·have:=strs_new (w.alloc (.cells #[.int .i64 7,.int .i64 pl,.string name,.int .u64 num,.string op,.slice ad len cap] 25)) [op]
  simpa using this
 ·exact((Below.refl w.heap.size w).alloc (Nat.le_refl _) _).alloc (by simp) _
theorem shape_8 (pl num:Int)(name op:ByteArray)(ad:Option Addr)(len cap:Nat)(w:World) :
  Calls Tryz.prog 55 #[.agg #[.int .i64 8,.int .i64 pl,.string name,.int .u64 num,.string op,.slice ad len cap]] w (ShPost ⟨8,pl,name,num,op⟩ w):=by
 have hs:shapeR ⟨8,pl,name,num,op⟩=(0,0,true):=by unfold shapeR;simp
 unfold ShPost
 rw[hs]
 clear hs
 go_enter Tryz.func55,Tryz.ntmps55
 go_wp2
 refine bodyPost_ret (v := .tuple #[.int .i64 0,.int .i64 (0),.slice (some ⟨w.heap.size+1,0,none⟩) 1 1]) (by simp[results,Tryz.results55,go_sem]) rfl ⟨w.heap.size+1,[op],rfl,?_,any_self op,by simp,?_⟩
 ·have:=strs_new (w.alloc (.cells #[.int .i64 8,.int .i64 pl,.string name,.int .u64 num,.string op,.slice ad len cap] 25)) [op]
  simpa using this
 ·exact((Below.refl w.heap.size w).alloc (Nat.le_refl _) _).alloc (by simp) _
theorem shape_9 (pl num:Int)(name op:ByteArray)(ad:Option Addr)(len cap:Nat)(w:World) :
  Calls Tryz.prog 55 #[.agg #[.int .i64 9,.int .i64 pl,.string name,.int .u64 num,.string op,.slice ad len cap]] w (ShPost ⟨9,pl,name,num,op⟩ w):=by
 have hs:shapeR ⟨9,pl,name,num,op⟩=(0,-1,true):=by unfold shapeR;simp
 unfold ShPost
 rw[hs]
 clear hs
 go_enter Tryz.func55,Tryz.ntmps55
 go_wp2
 refine bodyPost_ret (v := .tuple #[.int .i64 0,.int .i64 (-1),.slice (some ⟨w.heap.size+1,0,none⟩) 1 1]) (by simp[results,Tryz.results55,go_sem]) rfl ⟨w.heap.size+1,[op],rfl,?_,any_self op,by simp,?_⟩
 ·have:=strs_new (w.alloc (.cells #[.int .i64 9,.int .i64 pl,.string name,.int .u64 num,.string op,.slice ad len cap] 25)) [op]
  simpa using this
 ·exact((Below.refl w.heap.size w).alloc (Nat.le_refl _) _).alloc (by simp) _
theorem shape_10 (pl num:Int)(name op:ByteArray)(ad:Option Addr)(len cap:Nat)(w:World) :
  Calls Tryz.prog 55 #[.agg #[.int .i64 10,.int .i64 pl,.string name,.int .u64 num,.string op,.slice ad len cap]] w (ShPost ⟨10,pl,name,num,op⟩ w):=by
 have hs:shapeR ⟨10,pl,name,num,op⟩=(0,-1,true):=by unfold shapeR;simp
 unfold ShPost
 rw[hs]
 clear hs
 go_enter Tryz.func55,Tryz.ntmps55
 go_wp2
 refine bodyPost_ret (v := .tuple #[.int .i64 0,.int .i64 (-1),.slice (some ⟨w.heap.size+1,0,none⟩) 1 1]) (by simp[results,Tryz.results55,go_sem]) rfl ⟨w.heap.size+1,[op],rfl,?_,any_self op,by simp,?_⟩
 ·have:=strs_new (w.alloc (.cells #[.int .i64 10,.int .i64 pl,.string name,.int .u64 num,.string op,.slice ad len cap] 25)) [op]
  simpa using this
 ·exact((Below.refl w.heap.size w).alloc (Nat.le_refl _) _).alloc (by simp) _
theorem shape_13 (pl num:Int)(name op:ByteArray)(ad:Option Addr)(len cap:Nat)(w:World) :
  Calls Tryz.prog 55 #[.agg #[.int .i64 13,.int .i64 pl,.string name,.int .u64 num,.string op,.slice ad len cap]] w (ShPost ⟨13,pl,name,num,op⟩ w):=by
 have hs:shapeR ⟨13,pl,name,num,op⟩=(2,2,true):=by unfold shapeR;simp
 unfold ShPost
 rw[hs]
 clear hs
 go_enter Tryz.func55,Tryz.ntmps55
 go_wp2
 refine bodyPost_ret (v := .tuple #[.int .i64 2,.int .i64 (2),.slice (some ⟨w.heap.size+1,0,none⟩) 1 1]) (by simp[results,Tryz.results55,go_sem]) rfl ⟨w.heap.size+1,[op],rfl,?_,any_self op,by simp,?_⟩
 ·have:=strs_new (w.alloc (.cells #[.int .i64 13,.int .i64 pl,.string name,.int .u64 num,.string op,.slice ad len cap] 25)) [op]
  simpa using this
 ·exact((Below.refl w.heap.size w).alloc (Nat.le_refl _) _).alloc (by simp) _
theorem shape_14 (pl num:Int)(name op:ByteArray)(ad:Option Addr)(len cap:Nat)(w:World) :
  Calls Tryz.prog 55 #[.agg #[.int .i64 14,.int .i64 pl,.string name,.int .u64 num,.string op,.slice ad len cap]] w (ShPost ⟨14,pl,name,num,op⟩ w):=by
 have hs:shapeR ⟨14,pl,name,num,op⟩=(1,-1,true):=by unfold shapeR;simp
 unfold ShPost
 rw[hs]
 clear hs
 go_enter Tryz.func55,Tryz.ntmps55
 go_wp2
 refine bodyPost_ret (v := .tuple #[.int .i64 1,.int .i64 (-1),.slice (some ⟨w.heap.size+1,0,none⟩) 1 1]) (by simp[results,Tryz.results55,go_sem]) rfl ⟨w.heap.size+1,[op],rfl,?_,any_self op,by simp,?_⟩
 ·have:=strs_new (w.alloc (.cells #[.int .i64 14,.int .i64 pl,.string name,.int .u64 num,.string op,.slice ad len cap] 25)) [op]
  simpa using this
 ·exact((Below.refl w.heap.size w).alloc (Nat.le_refl _) _).alloc (by simp) _
theorem shape_15 (pl num:Int)(name op:ByteArray)(ad:Option Addr)(len cap:Nat)(w:World) :
  Calls Tryz.prog 55 #[.agg #[.int .i64 15,.int .i64 pl,.string name,.int .u64 num,.string op,.slice ad len cap]] w (ShPost ⟨15,pl,name,num,op⟩ w):=by
 have hs:shapeR ⟨15,pl,name,num,op⟩=(1,-1,true):=by unfold shapeR;simp
 unfold ShPost
 rw[hs]
 clear hs
 go_enter Tryz.func55,Tryz.ntmps55
 go_wp2
 refine bodyPost_ret (v := .tuple #[.int .i64 1,.int .i64 (-1),.slice (some ⟨w.heap.size+1,0,none⟩) 1 1]) (by simp[results,Tryz.results55,go_sem]) rfl ⟨w.heap.size+1,[op],rfl,?_,any_self op,by simp,?_⟩
 ·have:=strs_new (w.alloc (.cells #[.int .i64 15,.int .i64 pl,.string name,.int .u64 num,.string op,.slice ad len cap] 25)) [op]
  simpa using this
 ·exact((Below.refl w.heap.size w).alloc (Nat.le_refl _) _).alloc (by simp) _
theorem shape_20 (pl num:Int)(name op:ByteArray)(ad:Option Addr)(len cap:Nat)(w:World) :
  Calls Tryz.prog 55 #[.agg #[.int .i64 20,.int .i64 pl,.string name,.int .u64 num,.string op,.slice ad len cap]] w (ShPost ⟨20,pl,name,num,op⟩ w):=by
 have hs:shapeR ⟨20,pl,name,num,op⟩=(3,3,true):=by unfold shapeR;simp
 unfold ShPost
 rw[hs]
 clear hs
 go_enter Tryz.func55,Tryz.ntmps55
 go_wp2
 refine bodyPost_ret (v := .tuple #[.int .i64 3,.int .i64 (3),.slice (some ⟨w.heap.size+1,0,none⟩) 1 1]) (by simp[results,Tryz.results55,go_sem]) rfl ⟨w.heap.size+1,[op],rfl,?_,any_self op,by simp,?_⟩
 ·have:=strs_new (w.alloc (.cells #[.int .i64 20,.int .i64 pl,.string name,.int .u64 num,.string op,.slice ad len cap] 25)) [op]
  simpa using this
 ·exact((Below.refl w.heap.size w).alloc (Nat.le_refl _) _).alloc (by simp) _
theorem shape_22 (pl num:Int)(name op:ByteArray)(ad:Option Addr)(len cap:Nat)(w:World) :
  Calls Tryz.prog 55 #[.agg #[.int .i64 22,.int .i64 pl,.string name,.int .u64 num,.string op,.slice ad len cap]] w (ShPost ⟨22,pl,name,num,op⟩ w):=by
 have hs:shapeR ⟨22,pl,name,num,op⟩=(1,1,true):=by unfold shapeR;simp
 unfold ShPost
 rw[hs]
 clear hs
 go_enter Tryz.func55,Tryz.ntmps55
 go_wp2
 refine bodyPost_ret (v := .tuple #[.int .i64 1,.int .i64 (1),.slice (some ⟨w.heap.size+1,0,none⟩) 1 1]) (by simp[results,Tryz.results55,go_sem]) rfl ⟨w.heap.size+1,[op],rfl,?_,any_self op,by simp,?_⟩
 ·have:=strs_new (w.alloc (.cells #[.int .i64 22,.int .i64 pl,.string name,.int .u64 num,.string op,.slice ad len cap] 25)) [op]
  simpa using this
 ·exact((Below.refl w.heap.size w).alloc (Nat.le_refl _) _).alloc (by simp) _
theorem shape_16 (pl num:Int)(name op:ByteArray)(ad:Option Addr)(len cap:Nat)(w:World) :
  Calls Tryz.prog 55 #[.agg #[.int .i64 16,.int .i64 pl,.string name,.int .u64 num,.string op,.slice ad len cap]] w (ShPost ⟨16,pl,name,num,op⟩ w):=by
 have hs:shapeR ⟨16,pl,name,num,op⟩=(1,1,oneB op unaryL):=by unfold shapeR;simp
 unfold ShPost
 rw[hs]
 clear hs
 go_enter Tryz.func55,Tryz.ntmps55
 go_wp2
 refine bodyPost_ret (v := .tuple #[.int .i64 1,.int .i64 (1),.slice (some ⟨w.heap.size+2,0,none⟩) (unaryL.map bs).length (unaryL.map bs).length]) (by simp[results,Tryz.results55,go_sem] <;> rfl) rfl ⟨w.heap.size+2,unaryL.map bs,rfl,?_,any_one op unaryL,by decide,?_⟩
 ·have:=strs_new ((w.alloc (.cells #[.int .i64 16,.int .i64 pl,.string name,.int .u64 num,.string op,.slice ad len cap] 25)).alloc (.cells #[.string op] 9)) (unaryL.map bs)
  have e:((w.alloc (.cells #[.int .i64 16,.int .i64 pl,.string name,.int .u64 num,.string op,.slice ad len cap] 25)).alloc (.cells #[.string op] 9)).heap.size=w.heap.size+2:=by simp
  rw[e] at this
  exact this
 ·exact(((Below.refl w.heap.size w).alloc (Nat.le_refl _) _).alloc (by simp) _).alloc (by simp;omega) _
theorem shape_17 (pl num:Int)(name op:ByteArray)(ad:Option Addr)(len cap:Nat)(w:World) :
  Calls Tryz.prog 55 #[.agg #[.int .i64 17,.int .i64 pl,.string name,.int .u64 num,.string op,.slice ad len cap]] w (ShPost ⟨17,pl,name,num,op⟩ w):=by
 have hs:shapeR ⟨17,pl,name,num,op⟩=(1,1,oneB op updateL):=by unfold shapeR;simp
 unfold ShPost
 rw[hs]
 clear hs
 go_enter Tryz.func55,Tryz.ntmps55
 go_wp2
 refine bodyPost_ret (v := .tuple #[.int .i64 1,.int .i64 (1),.slice (some ⟨w.heap.size+2,0,none⟩) (updateL.map bs).length (updateL.map bs).length]) (by simp[results,Tryz.results55,go_sem] <;> rfl) rfl ⟨w.heap.size+2,updateL.map bs,rfl,?_,any_one op updateL,by decide,?_⟩
 ·have:=strs_new ((w.alloc (.cells #[.int .i64 17,.int .i64 pl,.string name,.int .u64 num,.string op,.slice ad len cap] 25)).alloc (.cells #[.string op] 9)) (updateL.map bs)
  have e:((w.alloc (.cells #[.int .i64 17,.int .i64 pl,.string name,.int .u64 num,.string op,.slice ad len cap] 25)).alloc (.cells #[.string op] 9)).heap.size=w.heap.size+2:=by simp
  rw[e] at this
  exact this
 ·exact(((Below.refl w.heap.size w).alloc (Nat.le_refl _) _).alloc (by simp) _).alloc (by simp;omega) _
theorem shape_18 (pl num:Int)(name op:ByteArray)(ad:Option Addr)(len cap:Nat)(w:World) :
  Calls Tryz.prog 55 #[.agg #[.int .i64 18,.int .i64 pl,.string name,.int .u64 num,.string op,.slice ad len cap]] w (ShPost ⟨18,pl,name,num,op⟩ w):=by
 have hs:shapeR ⟨18,pl,name,num,op⟩=(2,2,oneB op binaryRL):=by unfold shapeR;simp
 unfold ShPost
 rw[hs]
 clear hs
 go_enter Tryz.func55,Tryz.ntmps55
 go_wp2
 refine bodyPost_ret (v := .tuple #[.int .i64 2,.int .i64 (2),.slice (some ⟨w.heap.size+2,0,none⟩) (binaryRL.map bs).length (binaryRL.map bs).length]) (by simp[results,Tryz.results55,go_sem] <;> rfl) rfl ⟨w.heap.size+2,binaryRL.map bs,rfl,?_,any_one op binaryRL,by decide,?_⟩
 ·have:=strs_new ((w.alloc (.cells #[.int .i64 18,.int .i64 pl,.string name,.int .u64 num,.string op,.slice ad len cap] 25)).alloc (.cells #[.string op] 9)) (binaryRL.map bs)
  have e:((w.alloc (.cells #[.int .i64 18,.int .i64 pl,.string name,.int .u64 num,.string op,.slice ad len cap] 25)).alloc (.cells #[.string op] 9)).heap.size=w.heap.size+2:=by simp
  rw[e] at this
  exact this
 ·exact(((Below.refl w.heap.size w).alloc (Nat.le_refl _) _).alloc (by simp) _).alloc (by simp;omega) _
theorem shape_19 (pl num:Int)(name op:ByteArray)(ad:Option Addr)(len cap:Nat)(w:World) :
  Calls Tryz.prog 55 #[.agg #[.int .i64 19,.int .i64 pl,.string name,.int .u64 num,.string op,.slice ad len cap]] w (ShPost ⟨19,pl,name,num,op⟩ w):=by
 have hs:shapeR ⟨19,pl,name,num,op⟩=(2,2,oneB op logicL):=by unfold shapeR;simp
 unfold ShPost
 rw[hs]
 clear hs
 go_enter Tryz.func55,Tryz.ntmps55
 go_wp2
 refine bodyPost_ret (v := .tuple #[.int .i64 2,.int .i64 (2),.slice (some ⟨w.heap.size+2,0,none⟩) (logicL.map bs).length (logicL.map bs).length]) (by simp[results,Tryz.results55,go_sem] <;> rfl) rfl ⟨w.heap.size+2,logicL.map bs,rfl,?_,any_one op logicL,by decide,?_⟩
 ·have:=strs_new ((w.alloc (.cells #[.int .i64 19,.int .i64 pl,.string name,.int .u64 num,.string op,.slice ad len cap] 25)).alloc (.cells #[.string op] 9)) (logicL.map bs)
  have e:((w.alloc (.cells #[.int .i64 19,.int .i64 pl,.string name,.int .u64 num,.string op,.slice ad len cap] 25)).alloc (.cells #[.string op] 9)).heap.size=w.heap.size+2:=by simp
  rw[e] at this
  exact this
 ·exact(((Below.refl w.heap.size w).alloc (Nat.le_refl _) _).alloc (by simp) _).alloc (by simp;omega) _
theorem shape_21 (pl num:Int)(name op:ByteArray)(ad:Option Addr)(len cap:Nat)(w:World) :
  Calls Tryz.prog 55 #[.agg #[.int .i64 21,.int .i64 pl,.string name,.int .u64 num,.string op,.slice ad len cap]] w (ShPost ⟨21,pl,name,num,op⟩ w):=by
 have hs:shapeR ⟨21,pl,name,num,op⟩=(2,2,oneB op assignL):=by unfold shapeR;simp
 unfold ShPost
 rw[hs]
 clear hs
 go_enter Tryz.func55,Tryz.ntmps55
 go_wp2
 refine bodyPost_ret (v := .tuple #[.int .i64 2,.int .i64 (2),.slice (some ⟨w.heap.size+2,0,none⟩) (assignL.map bs).length (assignL.map bs).length]) (by simp[results,Tryz.results55,go_sem] <;> rfl) rfl ⟨w.heap.size+2,assignL.map bs,rfl,?_,any_one op assignL,by decide,?_⟩
 ·have:=strs_new ((w.alloc (.cells #[.int .i64 21,.int .i64 pl,.string name,.int .u64 num,.string op,.slice ad len cap] 25)).alloc (.cells #[.string op] 9)) (assignL.map bs)
  have e:((w.alloc (.cells #[.int .i64 21,.int .i64 pl,.string name,.int .u64 num,.string op,.slice ad len cap] 25)).alloc (.cells #[.string op] 9)).heap.size=w.heap.size+2:=by simp
  rw[e] at this
  exact this
 ·exact(((Below.refl w.heap.size w).alloc (Nat.le_refl _) _).alloc (by simp) _).alloc (by simp;omega) _
theorem shape_no (kind pl num:Int)(name op:ByteArray)(ad:Option Addr)(len cap:Nat)(w:World)(h1:kind≠1)(h2:kind≠2)(h3:kind≠3)(h4:kind≠4)(h5:kind≠5)(h6:kind≠6)(h7:kind≠7)(h8:kind≠8)(h9:kind≠9)(h10:kind≠10)(h13:kind≠13)(h14:kind≠14)(h15:kind≠15)(h16:kind≠16)(h17:kind≠17)(h18:kind≠18)(h19:kind≠19)(h20:kind≠20)(h21:kind≠21)(h22:kind≠22) :
  Calls Tryz.prog 55 #[.agg #[.int .i64 kind,.int .i64 pl,.string name,.int .u64 num,.string op,.slice ad len cap]] w (ShPost ⟨kind,pl,name,num,op⟩ w):=by
 have hs:shapeR ⟨kind,pl,name,num,op⟩=(1,0,true):=by
  unfold shapeR
  repeat rw[if_neg (by simp only;omega)]
 unfold ShPost
 rw[hs]
 clear hs
 go_enter Tryz.func55,Tryz.ntmps55
 go_wp2
 refine bodyPost_ret (v := .tuple #[.int .i64 1,.int .i64 0,.slice (some ⟨w.heap.size+1,0,none⟩) 1 1]) (by simp[results,Tryz.results55,go_sem]) rfl ⟨w.heap.size+1,[op],rfl,?_,any_self op,by simp,?_⟩
 ·have:=strs_new (w.alloc (.cells #[.int .i64 kind,.int .i64 pl,.string name,.int .u64 num,.string op,.slice ad len cap] 25)) [op]
  simpa using this
 ·exact((Below.refl w.heap.size w).alloc (Nat.le_refl _) _).alloc (by simp) _
theorem shape_any (x:Nd)(ad:Option Addr)(len cap:Nat)(w:World) :
  Calls Tryz.prog 55 #[.agg #[.int .i64 x.kind,.int .i64 x.pl,.string x.name,.int .u64 x.num,.string x.op,.slice ad len cap]] w (ShPost x w):=by
 obtain⟨kind,pl,name,num,op⟩:=x
 simp only
 by_cases h1:kind=1
 ·subst h1;exact shape_1 pl num name op ad len cap w
 by_cases h2:kind=2
 ·subst h2;exact shape_2 pl num name op ad len cap w
 by_cases h3:kind=3
 ·subst h3;exact shape_3 pl num name op ad len cap w
 by_cases h4:kind=4
 ·subst h4;exact shape_4 pl num name op ad len cap w
 by_cases h5:kind=5
 ·subst h5;exact shape_5 pl num name op ad len cap w
 by_cases h6:kind=6
 ·subst h6;exact shape_6 pl num name op ad len cap w
 by_cases h7:kind=7
 ·subst h7;exact shape_7 pl num name op ad len cap w
 by_cases h8:kind=8
 ·subst h8;exact shape_8 pl num name op ad len cap w
 by_cases h9:kind=9
 ·subst h9;exact shape_9 pl num name op ad len cap w
 by_cases h10:kind=10
 ·subst h10;exact shape_10 pl num name op ad len cap w
 by_cases h13:kind=13
 ·subst h13;exact shape_13 pl num name op ad len cap w
 by_cases h14:kind=14
 ·subst h14;exact shape_14 pl num name op ad len cap w
 by_cases h15:kind=15
 ·subst h15;exact shape_15 pl num name op ad len cap w
 by_cases h16:kind=16
 ·subst h16;exact shape_16 pl num name op ad len cap w
 by_cases h17:kind=17
 ·subst h17;exact shape_17 pl num name op ad len cap w
 by_cases h18:kind=18
 ·subst h18;exact shape_18 pl num name op ad len cap w
 by_cases h19:kind=19
 ·subst h19;exact shape_19 pl num name op ad len cap w
 by_cases h20:kind=20
 ·subst h20;exact shape_20 pl num name op ad len cap w
 by_cases h21:kind=21
 ·subst h21;exact shape_21 pl num name op ad len cap w
 by_cases h22:kind=22
 ·subst h22;exact shape_22 pl num name op ad len cap w
 exact shape_no kind pl num name op ad len cap w h1 h2 h3 h4 h5 h6 h7 h8 h9 h10 h13 h14 h15 h16 h17 h18 h19 h20 h21 h22
end Go.Proofs.YtihmdcdifakepaaGreat.Sc
