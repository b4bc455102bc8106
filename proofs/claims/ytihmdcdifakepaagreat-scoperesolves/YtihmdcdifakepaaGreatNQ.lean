/- NQ -/
import Derived.Test.YtihmdcdifakepaaGreatB31
import Derived.Test.YtihmdcdifakepaaGreatB18
import Derived.Defers
import Derived.Recover
import Derived.Laws.Pointers
set_option linter.unusedVariables false
set_option linter.unusedSimpArgs false
set_option maxRecDepth 100000
set_option maxHeartbeats 40000000
namespace Go.Proofs.YtihmdcdifakepaaGreat.Rv
open Go.RowKit Go.Proofs.YtihmdcdifakepaaGreat.Sc Go.Proofs.YtihmdcdifakepaaGreat.Rz
structure Bxs (w:World)(nb:Nat)(x:Nd)(kv:Value):Prop where
 nd:NdB nb x kv w
 rs:w.heap[nb+1]?=some (.cells #[.slice none 0 0,.slice none 0 0,.slice none 0 0] 30 (0,0))
 ra:w.heap[nb+1+1]?=some (.cells #[.int .i64 0] 3 (0,0))
 re:w.heap[nb+1+1+1]?=some (.cells #[.int .i64 0] 31 (0,0))
theorem Bxs.lt {w:World}{nb:Nat}{x:Nd}{kv:Value}(h:Bxs w nb x kv):nb+4≤w.heap.size:=(Array.getElem?_eq_some_iff.1 h.re).1
theorem Bxs.kept {w w':World}{nb:Nat}{x:Nd}{kv:Value}{S:Nat→Prop}(h:Bxs w nb x kv)(hc:Chg S w w')(hn:∀k,S k→nb+4≤k):Bxs w' nb x kv:=by
 have hl:=h.lt
 have q:∀k,k<nb+4→¬S k:=fun k h1 h2=>by have:=hn k h2;omega
 exact⟨h.nd.chg hc (q _ (by omega)),(hc.block _ (by omega) (q _ (by omega))).trans h.rs,(hc.block _ (by omega) (q _ (by omega))).trans h.ra,(hc.block _ (by omega) (q _ (by omega))).trans h.re⟩
theorem Bxs.made (w:World)(x:Nd)(kv:Value):Bxs ((((w.alloc (.cells #[.int .i64 x.kind,.int .i64 x.pl,.string x.name,.int .u64 x.num,.string x.op,kv] 25)).alloc (.cells #[.slice none 0 0,.slice none 0 0,.slice none 0 0] 30)).alloc (.cells #[.int .i64 0] 3)).alloc (.cells #[.int .i64 0] 31)) w.heap.size x kv:=by
 have hb:∀(w:World) (o:Obj) (k:Nat),k<w.heap.size→(w.alloc o).heap[k]?=w.heap[k]?:=fun w o k h=>((Below.refl w.heap.size w).alloc (Nat.le_refl _) o).block k h
 have hs:∀(w:World) (o:Obj),(w.alloc o).heap.size=w.heap.size+1:=fun w o=>Array.size_push o
 obtain⟨w1,h1⟩:∃w1,w1=w.alloc (.cells #[.int .i64 x.kind,.int .i64 x.pl,.string x.name,.int .u64 x.num,.string x.op,kv] 25):=⟨_,rfl⟩
 rw[←h1]
 obtain⟨w2,h2⟩:∃w2,w2=w1.alloc (.cells #[.slice none 0 0,.slice none 0 0,.slice none 0 0] 30):=⟨_,rfl⟩
 rw[←h2]
 obtain⟨w3,h3⟩:∃w3,w3=w2.alloc (.cells #[.int .i64 0] 3):=⟨_,rfl⟩
 rw[←h3]
 have s1:w1.heap.size=w.heap.size+1:=by rw[h1];exact hs _ _
 have s2:w2.heap.size=w.heap.size+1+1:=by rw[h2,hs,s1]
 have s3:w3.heap.size=w.heap.size+1+1+1:=by rw[h3,hs,s2]
 refine⟨?_,?_,?_,?_⟩
 ·unfold NdB
  rw[hb _ _ _ (by omega),h3,hb _ _ _ (by omega),h2,hb _ _ _ (by omega),h1]
  exact at_new _ _
 ·rw[hb _ _ _ (by omega),h3,hb _ _ _ (by omega),h2,←s1]
  exact at_new _ _
 ·rw[hb _ _ _ (by omega),h3,←s2]
  exact at_new _ _
 ·rw[←s3]
  exact at_new _ _
theorem root_parts {n:Nat}{x:Nd}{s:Sli (Tr n)}(h:rootP (n+1) ((x,s):Nd×Sli (Tr n))=true):x.kind=47∧(partsI 47 s.xs.length).length=s.xs.length∧∀(i:Nat)(q:UInt8)(k:Tr n),(partsI 47 s.xs.length)[i]?=some q→s.xs[i]?=some k→Rz.Good n q k:=by
 have h':(x.kind == 47 && (holdsT (n+1) 300 ((x,s):Nd×Sli (Tr n)) 131072).1 && (rightP (kidT n) (partP n) x s.xs false ([],[])).isSome)=true:=h
 simp only[Bool.and_eq_true] at h'
 obtain⟨⟨h1,_⟩,h3⟩:=h'
 have hk:x.kind=47:=by simpa using h1
 obtain⟨st,h3⟩:=Option.isSome_iff_exists.1 h3
 unfold rightP at h3
 split at h3
 ·cases h3
 ·rename_i e1
  split at h3
  ·cases h3
  ·obtain⟨s1,h4,h5⟩:=Option.bind_eq_some_iff.1 h3
   rw[hk] at e1 h5
   refine⟨hk,by simpa using e1,fun i q k hq hi => ?_⟩
   obtain⟨a,b,hab⟩:=kids_good _ _ _ _ _ _ h5 i q k hq hi
   exact⟨_,a,b,hab⟩
theorem fit_root {n:Nat}{x:Nd}{s:Sli (Tr n)}(h:rootP (n+1) ((x,s):Nd×Sli (Tr n))=true):Fit (n+1) ((x,s):Nd×Sli (Tr n)):=by
 obtain⟨h1,h2,h3⟩:=root_parts h
 refine⟨fun q=>by omega,fun q=>by omega,fun q=>by omega,fun k hk => ?_⟩
 obtain⟨i,hi⟩:=List.getElem?_of_mem hk
 have hil:i<(partsI 47 s.xs.length).length:=by rw[h2];exact(List.getElem?_eq_some_iff.1 hi).1
 exact fit_good n _ k (h3 i _ k (List.getElem?_eq_getElem hil) hi)
structure BxC (w:World)(nb:Nat):Prop where
 s0:w.cell? ⟨nb+1,0,none⟩=some (.slice none 0 0)
 s1:w.cell? ⟨nb+1,1,none⟩=some (.slice none 0 0)
 s2:w.cell? ⟨nb+1,2,none⟩=some (.slice none 0 0)
 a0:w.cell? ⟨nb+1+1,0,none⟩=some (.int .i64 0)
 e0:w.cell? ⟨nb+1+1+1,0,none⟩=some (.int .i64 0)
 f0:w.frozen? ⟨nb+1,0,none⟩=false
 f1:w.frozen? ⟨nb+1,1,none⟩=false
 f2:w.frozen? ⟨nb+1,2,none⟩=false
 fa:w.frozen? ⟨nb+1+1,0,none⟩=false
 fe:w.frozen? ⟨nb+1+1+1,0,none⟩=false
theorem Bxs.cs {w:World}{nb:Nat}{x:Nd}{kv:Value}(h:Bxs w nb x kv):BxC w nb :=
 ⟨cell_of_row w _ 0 _ _ (0,0) h.rs,cell_of_row w _ 1 _ _ (0,0) h.rs,cell_of_row w _ 2 _ _ (0,0) h.rs,cell_of_row w _ 0 _ _ (0,0) h.ra,cell_of_row w _ 0 _ _ (0,0) h.re,by simp[World.frozen?,h.rs,go_sem],by simp[World.frozen?,h.rs,go_sem],by simp[World.frozen?,h.rs,go_sem],by simp[World.frozen?,h.ra,go_sem],by simp[World.frozen?,h.re,go_sem]⟩
theorem nil_assert (w:World):(Instr.typeAssert Value.nilIface 20 38 true).run Tryz.prog w = .ok (.tuple #[.agg #[.int .i64 0,.int .i64 0],.bool false]) w:=by kernel_rfl
theorem some_assert (a c:Int)(w:World):(Instr.typeAssert (Value.iface 38 (.agg #[.int .i64 a,.int .i64 c])) 20 38 true).run Tryz.prog w = .ok (.tuple #[.agg #[.int .i64 a,.int .i64 c],.bool true]) w:=by kernel_rfl
theorem catch_idle (p0 p1 p2:Addr)(w:World) :
  CallsD Tryz.prog 8 #[.pointer (some p0),.pointer (some p1),.pointer (some p2)] .returning w fun e u' w'=>e = .returned (.tuple #[])∧u' = .returning∧Below w.heap.size w w':=by
 have hta:=fun w=>nil_assert w
 refine callsD_of_wpS Tryz.func8 rfl fun c₀ cs hu => ?_
 simp only[Tryz.ntmps8,List.size_toArray,List.length_cons,List.length_nil,Nat.reduceAdd,Nat.reduceSub,Array.replicate_succ,Array.replicate_zero,List.push_toArray,List.append_toArray,List.nil_append,List.cons_append]
 apply wpS_seq
 apply wpS_region
 simp[wpOpsS,go_sem,recoverD,hu,hta,Exit.thenS]
 apply wpS_seq
 apply wpS_region
 simp[wpOpsS,go_sem,Exit.thenS]
 refine wpS_cond (t:=false) (by simp[Act.eval]) ?_
 simp only[Bool.false_eq_true,if_false]
 refine wpS_of_wp (wp_skip ?_)
 have hb:Below w.heap.size w (w.alloc (.cells #[.int .i64 0,.int .i64 0] 38)):=(Below.refl _ _).alloc (Nat.le_refl _) _
 cases c₀
 simp_all [bodyPostS,results,Tryz.f8]
structure Flt (w w':World)(nb:Nat)(er:Rz.Er):Prop where
 s0:w'.cell? ⟨nb+1,0,none⟩=some (.slice none 0 0)
 s1:w'.cell? ⟨nb+1,1,none⟩=some (.slice none 0 0)
 s2:w'.cell? ⟨nb+1,2,none⟩=some (.slice none 0 0)
 a0:w'.cell? ⟨nb+1+1,0,none⟩=some (.int .i64 er.1)
 e0:w'.cell? ⟨nb+1+1+1,0,none⟩=some (.int .i64 er.2)
 ch:Chg (fun k=>nb<k∧k<nb+4) w w'
theorem catch_thrown (nb:Nat)(er:Rz.Er)(w:World)(x:Nd)(kv:Value)(h:Bxs w nb x kv) :
  CallsD Tryz.prog 8 #[.pointer (some ⟨nb+1,0,none⟩),.pointer (some ⟨nb+1+1,0,none⟩),.pointer (some ⟨nb+1+1+1,0,none⟩)] (.panicking (thrown er)) w fun e u' w'=>e = .returned (.tuple #[])∧u' = .panicking [{ v := .iface 38 (.agg #[.int .i64 er.1,.int .i64 er.2]),recovered:=true }]∧Flt w w' nb er:=by
 have hta:=fun w=>some_assert er.1 er.2 w
 obtain⟨wa,hwa⟩:∃wa,wa=w.alloc (.cells #[.int .i64 er.1,.int .i64 er.2] 38):=⟨_,rfl⟩
 have hba:Below w.heap.size w wa:=by rw[hwa];exact(Below.refl _ _).alloc (Nat.le_refl _) _
 have hx:=h.kept (S:=fun _=>False) (Chg.of_below hba) (fun _ q=>q.elim)
 obtain⟨s0,s1,s2,a0,e0,f0,f1,f2,fa,fe⟩:=hx.cs
 have g0:wa.cell? ⟨w.heap.size,0,none⟩=some (.int .i64 er.1):=by rw[hwa];exact box_new w _ _ 0 _ rfl
 have g1:wa.cell? ⟨w.heap.size,1,none⟩=some (.int .i64 er.2):=by rw[hwa];exact box_new w _ _ 1 _ rfl
 have HB:Hid (Below w.heap.size w wa):=hba
 have hlt:=h.lt
 refine callsD_of_wpS Tryz.func8 rfl fun c₀ cs hu => ?_
 simp only[Tryz.ntmps8,List.size_toArray,List.length_cons,List.length_nil,Nat.reduceAdd,Nat.reduceSub,Array.replicate_succ,Array.replicate_zero,List.push_toArray,List.append_toArray,List.nil_append,List.cons_append]
 unfold thrown at hu
 apply wpS_seq
 apply wpS_region
 simp[wpOpsS,go_sem,recoverD,hu,hta,Exit.thenS]
 apply wpS_seq
 apply wpS_region
 simp[wpOpsS,go_sem,Exit.thenS]
 refine wpS_cond (t:=true) (by simp[Act.eval]) ?_
 simp only[if_true]
 refine wpS_of_wp ?_
 rw[←hwa]
 clear hwa hta hba hu
 go_region
 obtain⟨w8,hw8⟩:∃w8,w8=((((wa.setCell ⟨nb+1,0,none⟩ (.slice none 0 0)).setCell ⟨nb+1,1,none⟩ (.slice none 0 0)).setCell ⟨nb+1,2,none⟩ (.slice none 0 0)).setCell ⟨nb+1+1,0,none⟩ (.int .i64 er.1)).setCell ⟨nb+1+1+1,0,none⟩ (.int .i64 er.2):=⟨_,rfl⟩
 rw[←hw8]
 have hbd:Below w8.heap.size w8 w8.drew:=(Below.refl _ _).drew
 have hf:Flt w w8.drew nb er:=by
  have k0:w8.cell? ⟨nb+1,0,none⟩=some (.slice none 0 0):=by rw[hw8];simp[go_sem,s0,s1,s2,a0,e0]
  have k1:w8.cell? ⟨nb+1,1,none⟩=some (.slice none 0 0):=by rw[hw8];simp[go_sem,s0,s1,s2,a0,e0]
  have k2:w8.cell? ⟨nb+1,2,none⟩=some (.slice none 0 0):=by rw[hw8];simp[go_sem,s0,s1,s2,a0,e0]
  have k3:w8.cell? ⟨nb+1+1,0,none⟩=some (.int .i64 er.1):=by rw[hw8];simp[go_sem,s0,s1,s2,a0,e0]
  have k4:w8.cell? ⟨nb+1+1+1,0,none⟩=some (.int .i64 er.2):=by rw[hw8];simp[go_sem,s0,s1,s2,a0,e0]
  have hc8:Chg (fun k=>nb<k∧k<nb+4) wa w8:=by
   rw[hw8]
   exact(((((Chg.set (S:=fun k=>nb<k∧k<nb+4) wa ⟨nb+1,0,none⟩ _ (by simp)).trans (Chg.set (S:=fun k=>nb<k∧k<nb+4) _ ⟨nb+1,1,none⟩ _ (by simp)) (fun _ _ q=>q)).trans (Chg.set (S:=fun k=>nb<k∧k<nb+4) _ ⟨nb+1,2,none⟩ _ (by simp)) (fun _ _ q=>q)).trans (Chg.set (S:=fun k=>nb<k∧k<nb+4) _ ⟨nb+1+1,0,none⟩ _ (by simp;omega)) (fun _ _ q=>q)).trans (Chg.set (S:=fun k=>nb<k∧k<nb+4) _ ⟨nb+1+1+1,0,none⟩ _ (by simp;omega)) (fun _ _ q=>q))
  exact⟨Sc.cells_below hbd _ _ k0,Sc.cells_below hbd _ _ k1,Sc.cells_below hbd _ _ k2,Sc.cells_below hbd _ _ k3,Sc.cells_below hbd _ _ k4,((Chg.of_below HB.out).trans hc8 (fun _ _ q=>q)).trans (Chg.of_below hbd) (fun _ _ (q:nb<_∧_<nb+4)=>q)⟩
 exact⟨rfl,_,rfl,.tuple #[],by simp[results,Tryz.f8],rfl,rfl,hf⟩
def ResO (w:World)(r:Except Rz.Er Rz.RS)(e:Ending)(w':World):Prop :=
 Below w.heap.size w w'∧match r with
  | .ok s=>∃v0 v1 v2,e = .returned (.tuple #[.agg #[v0,v1,v2],.int .i64 0,.int .i64 0])∧OwnR scpC 4 53 w.heap.size w' v0 s.scopes∧OwnR vrC 6 61 w.heap.size w' v1 s.vars∧OwnR usC 2 57 w.heap.size w' v2 s.uses∧∀b,v1.ownBlock=some b→¬v0.ownBlock=some b∧¬v2.ownBlock=some b
  | .error er=>e = .returned (.tuple #[.agg #[.slice none 0 0,.slice none 0 0,.slice none 0 0],.int .i64 er.1,.int .i64 er.2])
theorem Flt.below {w0 w w':World}{nb:Nat}{er:Rz.Er}(h:Flt w w' nb er)(hb:Below nb w0 w)(hl:nb≤w.heap.size):Below nb w0 w':=h.ch.below hb hl (fun k q=>by omega)
theorem resolve_wrong (w:World)(n:Nat)(x:Nd)(sl:Sli (Tr n))(hok:okT (n+1) w ((x,sl):Nd×Sli (Tr n)))(hr:rootP (n+1) ((x,sl):Nd×Sli (Tr n))=false) :
  Calls Tryz.prog 4 #[.agg #[.int .i64 x.kind,.int .i64 x.pl,.string x.name,.int .u64 x.num,.string x.op,.slice sl.at' sl.xs.length sl.cap]] w (ResO w (.error (x.pl,70))):=by
 have hmf:∀(fn:Fn) (first cap:Array Value) (w:World),(Instr.makeFunc fn first cap).run Tryz.prog w = .ok (.func fn first cap) w:=fun _ _ _ _=>rfl
 obtain⟨w4,hw4⟩:∃w4,w4=(((w.alloc (.cells #[.int .i64 x.kind,.int .i64 x.pl,.string x.name,.int .u64 x.num,.string x.op,.slice sl.at' sl.xs.length sl.cap] 25)).alloc (.cells #[.slice none 0 0,.slice none 0 0,.slice none 0 0] 30)).alloc (.cells #[.int .i64 0] 3)).alloc (.cells #[.int .i64 0] 31):=⟨_,rfl⟩
 have hB4:Below w.heap.size w w4:=by rw[hw4];exact((((Below.refl w.heap.size w).alloc (Nat.le_refl _) _).alloc (by simp) _).alloc (by simp;omega) _).alloc (by simp;omega) _
 have hx:Bxs w4 w.heap.size x (.slice sl.at' sl.xs.length sl.cap):=by rw[hw4];exact Bxs.made w x _
 have hcall:=Right_any (n+1) ((x,sl):Nd×Sli (Tr n)) w4 (okT_kept hok (Sc.cells_below hB4))
 rw[hr] at hcall
 have hcall:Calls Tryz.prog 9 #[.agg #[.int .i64 x.kind,.int .i64 x.pl,.string x.name,.int .u64 x.num,.string x.op,.slice sl.at' sl.xs.length sl.cap]] w4 fun e w'=>e = .returned (.bool false)∧Below w4.heap.size w4 w':=hcall
 have HB4:Hid (Below w.heap.size w w4):=hB4
 have HX:Hid (Bxs w4 w.heap.size x (.slice sl.at' sl.xs.length sl.cap)):=hx
 clear hB4 hx hok hr
 generalize sl.at'=ka at *
 generalize sl.cap=kc at *
 generalize sl.xs.length=kl at *
 go_enter_defers Tryz.func4,Tryz.ntmps4
 go_wp2_with fail
 rw[←hw4]
 clear hw4
 refine hcall.mono ?_
 rintro e w5 ⟨rfl,hb5⟩
 have H5:Hid (Below w.heap.size w w5):=HB4.out.trans (hb5.mono HB4.out.size)
 have X5:Hid (Bxs w5 w.heap.size x (.slice ka kl kc)):=HX.out.kept (S:=fun _=>False) (Chg.of_below hb5) (fun _ q=>q.elim)
 obtain⟨_,b1,_,_,_,_⟩:=X5.out.nd.cs
 clear hcall hb5 HB4 HX
 go_wp2_with fail
 refine leaves_cons (f:=8) (args:=#[.pointer (some ⟨w.heap.size+1,0,none⟩),.pointer (some ⟨w.heap.size+1+1,0,none⟩),.pointer (some ⟨w.heap.size+1+1+1,0,none⟩)]) (by simp) (by simp[go_sem]) ?_
 refine(catch_thrown w.heap.size (x.pl,70) w5 x _ X5.out).mono ?_
 rintro e u' w9 ⟨rfl,rfl,hf⟩
 have hB:=hf.below H5.out H5.out.size
 obtain⟨s0,s1,s2,a0,e0,_⟩:=hf
 simp[Leaves,settle,results,Tryz.f4,go_sem,s0,s1,s2,a0,e0]
 exact⟨hB,rfl⟩
theorem resolve_right (w:World)(n:Nat)(x:Nd)(sl:Sli (Tr n))(hok:okT (n+1) w ((x,sl):Nd×Sli (Tr n)))(hr:rootP (n+1) ((x,sl):Nd×Sli (Tr n))=true)(hsz:szT (n+1) ((x,sl):Nd×Sli (Tr n))≤131072)(hn:n≤1000) :
  Calls Tryz.prog 4 #[.agg #[.int .i64 x.kind,.int .i64 x.pl,.string x.name,.int .u64 x.num,.string x.op,.slice sl.at' sl.xs.length sl.cap]] w (ResO w (resolveP bi (n+1) ((x,sl):Nd×Sli (Tr n)))):=by
 have hmf:∀(fn:Fn) (first cap:Array Value) (w:World),(Instr.makeFunc fn first cap).run Tryz.prog w = .ok (.func fn first cap) w:=fun _ _ _ _=>rfl
 obtain⟨w4,hw4⟩:∃w4,w4=(((w.alloc (.cells #[.int .i64 x.kind,.int .i64 x.pl,.string x.name,.int .u64 x.num,.string x.op,.slice sl.at' sl.xs.length sl.cap] 25)).alloc (.cells #[.slice none 0 0,.slice none 0 0,.slice none 0 0] 30)).alloc (.cells #[.int .i64 0] 3)).alloc (.cells #[.int .i64 0] 31):=⟨_,rfl⟩
 have hB4:Below w.heap.size w w4:=by rw[hw4];exact((((Below.refl w.heap.size w).alloc (Nat.le_refl _) _).alloc (by simp) _).alloc (by simp;omega) _).alloc (by simp;omega) _
 have hx:Bxs w4 w.heap.size x (.slice sl.at' sl.xs.length sl.cap):=by rw[hw4];exact Bxs.made w x _
 have hcall:=Right_any (n+1) ((x,sl):Nd×Sli (Tr n)) w4 (okT_kept hok (Sc.cells_below hB4))
 rw[hr] at hcall
 have hcall:Calls Tryz.prog 9 #[.agg #[.int .i64 x.kind,.int .i64 x.pl,.string x.name,.int .u64 x.num,.string x.op,.slice sl.at' sl.xs.length sl.cap]] w4 fun e w'=>e = .returned (.bool true)∧Below w4.heap.size w4 w':=hcall
 have HB4:Hid (Below w.heap.size w w4):=hB4
 have HX:Hid (Bxs w4 w.heap.size x (.slice sl.at' sl.xs.length sl.cap)):=hx
 have HPR:Hid (∀w6 rb,Below w.heap.size w w6→w.heap.size≤rb→w6.heap[rb]?=some (.cells #[.slice none 0 0,.slice none 0 0,.slice none 0 0,.slice none 0 0,.int .i64 0,.int .i64 0,.slice none 0 0] 45 (0,0))→Calls Tryz.prog 10 #[.pointer (some ⟨rb,0,none⟩),.agg #[.int .i64 x.kind,.int .i64 x.pl,.string x.name,.int .u64 x.num,.string x.op,.slice sl.at' sl.xs.length sl.cap]] w6 (Out w6 w.heap.size rb (fun b=>b=rb) (.slice none 0 0) (.tuple #[]) (resolveP bi (n+1) ((x,sl):Nd×Sli (Tr n))))):=fun w6 rb h1 h2 h3=>program_any w n x sl ⟨hok,fit_root hr⟩ hsz hn w6 rb h1 h2 h3
 clear hB4 hx hok hr hsz hn
 generalize resolveP bi (n+1) ((x,sl):Nd×Sli (Tr n))=R at *
 generalize sl.at'=ka at *
 generalize sl.cap=kc at *
 generalize sl.xs.length=kl at *
 go_enter_defers Tryz.func4,Tryz.ntmps4
 go_wp2_with fail
 rw[←hw4]
 clear hw4
 refine hcall.mono ?_
 rintro e w5 ⟨rfl,hb5⟩
 have H5:Hid (Below w.heap.size w w5):=HB4.out.trans (hb5.mono HB4.out.size)
 have X5:Hid (Bxs w5 w.heap.size x (.slice ka kl kc)):=HX.out.kept (S:=fun _=>False) (Chg.of_below hb5) (fun _ q=>q.elim)
 clear hcall hb5 HB4 HX
 obtain⟨w6,hw6⟩:∃w6,w6=w5.alloc (.cells #[.slice none 0 0,.slice none 0 0,.slice none 0 0,.slice none 0 0,.int .i64 0,.int .i64 0,.slice none 0 0] 45):=⟨_,rfl⟩
 have hb6:Below w5.heap.size w5 w6:=by rw[hw6];exact(Below.refl _ _).alloc (Nat.le_refl _) _
 have X6:Hid (Bxs w6 w.heap.size x (.slice ka kl kc)):=X5.out.kept (S:=fun _=>False) (Chg.of_below hb6) (fun _ q=>q.elim)
 have H6:Hid (Below w.heap.size w w6):=H5.out.trans (hb6.mono H5.out.size)
 have HL:Hid (w.heap.size+4≤w5.heap.size):=X5.out.lt
 have hpr:=HPR.out w6 w5.heap.size H6.out H5.out.size (by rw[hw6];exact at_new _ _)
 obtain⟨b0,b1,b2,b3,b4,b5⟩:=X6.out.nd.cs
 clear hb6 HPR X5 H5
 go_upto_region 5 with fail
 rw[←hw6]
 clear hw6
 go_wp2_with fail
 refine hpr.mono ?_
 intro e w7 ho
 clear hpr b0 b1 b2 b3 b4 b5
 cases R with
 | error er =>
   obtain⟨rfl,g7⟩:=ho
   have X7:Bxs w7 w.heap.size x (.slice ka kl kc):=X6.out.kept g7 (fun k e=>by have:=HL.out;omega)
   have H7:Below w.heap.size w w7:=g7.below H6.out H6.out.size (fun k e=>by have:=HL.out;omega)
   refine leaves_cons (f:=8) (args:=#[.pointer (some ⟨w.heap.size+1,0,none⟩),.pointer (some ⟨w.heap.size+1+1,0,none⟩),.pointer (some ⟨w.heap.size+1+1+1,0,none⟩)]) (by simp) (by simp[go_sem]) ?_
   refine(catch_thrown w.heap.size er w7 x _ X7).mono ?_
   rintro e u' w9 ⟨rfl,rfl,hf⟩
   have hB:=hf.below H7 H7.size
   obtain⟨s0,s1,s2,a0,e0,_⟩:=hf
   simp[Leaves,settle,results,Tryz.f4,go_sem,s0,s1,s2,a0,e0]
   exact⟨hB,rfl⟩
 | ok s =>
   obtain⟨rfl,O',⟨tg,v0,v1,v2,v3,ms,hm,hO⟩,g7,hO2⟩:=ho
   obtain⟨p0,m0,q0,hv0⟩:∃a l c,v0 = .slice a l c:=by
    obtain⟨ad,cp,e,_⟩:=own_slice hm.r0
    exact⟨_,_,_,e⟩
   subst hv0
   obtain⟨p1,m1,q1,hv1⟩:∃a l c,v1 = .slice a l c:=by
    obtain⟨ad,cp,e,_⟩:=own_slice hm.r1
    exact⟨_,_,_,e⟩
   subst hv1
   obtain⟨p2,m2,q2,hv2⟩:∃a l c,v2 = .slice a l c:=by
    obtain⟨ad,cp,e,_⟩:=own_slice hm.r2
    exact⟨_,_,_,e⟩
   subst hv2
   have X7:Hid (Bxs w7 w.heap.size x (.slice ka kl kc)):=X6.out.kept g7 (fun k e=>by have:=HL.out;omega)
   have H7:Hid (Below w.heap.size w w7):=g7.below H6.out H6.out.size (fun k e=>by have:=HL.out;omega)
   have HNB:Hid (∀k,((Value.slice p0 m0 q0).ownBlock=some k∨(Value.slice p1 m1 q1).ownBlock=some k∨(Value.slice p2 m2 q2).ownBlock=some k)→w.heap.size+4≤k):=fun k q=>by
    have hk:O' k:=(hO k).2 (by
     rcases q with q | q | q
     ·exact Or.inr (Or.inl q)
     ·exact Or.inr (Or.inr (Or.inl q))
     ·exact Or.inr (Or.inr (Or.inr (Or.inl q))))
    rcases hO2 k hk with r | r
    ·have:=HL.out;omega
    ·have:=X6.out.lt;omega
   have HRW:Hid (OwnR scpC 4 53 w.heap.size w7 (Value.slice p0 m0 q0) s.scopes∧OwnR vrC 6 61 w.heap.size w7 (Value.slice p1 m1 q1) s.vars∧OwnR usC 2 57 w.heap.size w7 (Value.slice p2 m2 q2) s.uses∧∀b,(Value.slice p1 m1 q1).ownBlock=some b→¬(Value.slice p0 m0 q0).ownBlock=some b∧¬(Value.slice p2 m2 q2).ownBlock=some b):=⟨hm.r0,hm.r1,hm.r2,fun b q=>by
    have h1:=hm.t2 b q
    exact⟨fun r=>by have:=hm.t1 b r;omega,fun r=>by have:=hm.t3 b r;omega⟩⟩
   have t0:=hm.c.1
   have t1:=hm.c.2.1
   have t2:=hm.c.2.2.1
   obtain⟨s0,s1,s2,a0,e0,f0,f1,f2,fa,fe⟩:=X7.out.cs
   clear hm hO hO2 g7 X6 H6 HL
   go_wp2_with fail
   obtain⟨w8,hw8⟩:∃w8,w8=((((w7.setCell ⟨w.heap.size+1,0,none⟩ (Value.slice p0 m0 q0)).setCell ⟨w.heap.size+1,1,none⟩ (Value.slice p1 m1 q1)).setCell ⟨w.heap.size+1,2,none⟩ (Value.slice p2 m2 q2)).setCell ⟨w.heap.size+1+1,0,none⟩ (.int .i64 0)).setCell ⟨w.heap.size+1+1+1,0,none⟩ (.int .i64 0):=⟨_,rfl⟩
   have k0:w8.cell? ⟨w.heap.size+1,0,none⟩=some (Value.slice p0 m0 q0):=by rw[hw8];simp[go_sem,s0,s1,s2,a0,e0]
   have k1:w8.cell? ⟨w.heap.size+1,1,none⟩=some (Value.slice p1 m1 q1):=by rw[hw8];simp[go_sem,s0,s1,s2,a0,e0]
   have k2:w8.cell? ⟨w.heap.size+1,2,none⟩=some (Value.slice p2 m2 q2):=by rw[hw8];simp[go_sem,s0,s1,s2,a0,e0]
   have k3:w8.cell? ⟨w.heap.size+1+1,0,none⟩=some (.int .i64 0):=by rw[hw8];simp[go_sem,s0,s1,s2,a0,e0]
   have k4:w8.cell? ⟨w.heap.size+1+1+1,0,none⟩=some (.int .i64 0):=by rw[hw8];simp[go_sem,s0,s1,s2,a0,e0]
   have hc8:Chg (fun k=>w.heap.size<k∧k<w.heap.size+4) w7 w8:=by
    rw[hw8]
    exact(((((Chg.set (S:=fun k=>w.heap.size<k∧k<w.heap.size+4) w7 ⟨w.heap.size+1,0,none⟩ (Value.slice p0 m0 q0) (by simp)).trans (Chg.set (S:=fun k=>w.heap.size<k∧k<w.heap.size+4) _ ⟨w.heap.size+1,1,none⟩ (Value.slice p1 m1 q1) (by simp)) (fun _ _ q=>q)).trans (Chg.set (S:=fun k=>w.heap.size<k∧k<w.heap.size+4) _ ⟨w.heap.size+1,2,none⟩ (Value.slice p2 m2 q2) (by simp)) (fun _ _ q=>q)).trans (Chg.set (S:=fun k=>w.heap.size<k∧k<w.heap.size+4) _ ⟨w.heap.size+1+1,0,none⟩ (.int .i64 0) (by simp;omega)) (fun _ _ q=>q)).trans (Chg.set (S:=fun k=>w.heap.size<k∧k<w.heap.size+4) _ ⟨w.heap.size+1+1+1,0,none⟩ (.int .i64 0) (by simp;omega)) (fun _ _ q=>q))
   have H8:Below w.heap.size w w8:=hc8.below H7.out H7.out.size (fun k q=>by omega)
   obtain⟨r0,r1,r2,r3⟩:=HRW.out
   have z0:=r0.kept hc8 (fun b q=>by have:=HNB.out b (Or.inl q);omega)
   have z1:=r1.kept hc8 (fun b q=>by have:=HNB.out b (Or.inr (Or.inl q));omega)
   have z2:=r2.kept hc8 (fun b q=>by have:=HNB.out b (Or.inr (Or.inr q));omega)
   rw[←hw8]
   refine leaves_cons (f:=8) (args:=#[.pointer (some ⟨w.heap.size+1,0,none⟩),.pointer (some ⟨w.heap.size+1+1,0,none⟩),.pointer (some ⟨w.heap.size+1+1+1,0,none⟩)]) (by simp) (by simp[go_sem]) ?_
   refine(catch_idle ⟨w.heap.size+1,0,none⟩ ⟨w.heap.size+1+1,0,none⟩ ⟨w.heap.size+1+1+1,0,none⟩ _).mono ?_
   rintro e u' w9 ⟨rfl,rfl,hb9⟩
   have j0:=Sc.cells_below hb9 _ _ k0
   have j1:=Sc.cells_below hb9 _ _ k1
   have j2:=Sc.cells_below hb9 _ _ k2
   have j3:=Sc.cells_below hb9 _ _ k3
   have j4:=Sc.cells_below hb9 _ _ k4
   have H9:Below w.heap.size w w9:=H8.trans (hb9.mono H8.size)
   simp[Leaves,settle,results,Tryz.f4,go_sem,j0,j1,j2,j3,j4]
   exact⟨H9,(Value.slice p0 m0 q0),(Value.slice p1 m1 q1),(Value.slice p2 m2 q2),rfl,z0.below hb9,z1.below hb9,z2.below hb9,r3⟩
end Go.Proofs.YtihmdcdifakepaaGreat.Rv
