/- OA, OR, OS, RI -/
import Derived.Test.YtihmdcdifakepaaGreatNQ
import Derived.Laws.StructEq
import Derived.Test.YtihmdcdifakepaaGreatB8
set_option linter.unusedVariables false
set_option linter.unusedSimpArgs false
set_option maxRecDepth 100000
set_option maxHeartbeats 40000000
namespace Go.Proofs.YtihmdcdifakepaaGreat.Rv
open Go.RowKit Go.Proofs.YtihmdcdifakepaaGreat.Sc Go.Proofs.YtihmdcdifakepaaGreat.Rz
structure OneAt (w:World)(kb ko:Nat)(k p:Int)(name:ByteArray)(num:Int)(op:ByteArray)(kv:Value):Prop where
 x0:w.cell? ⟨kb,ko,none⟩=some (.int .i64 k)
 x1:w.cell? ⟨kb,ko+1,none⟩=some (.int .i64 p)
 x2:w.cell? ⟨kb,ko+2,none⟩=some (.string name)
 x3:w.cell? ⟨kb,ko+3,none⟩=some (.int .u64 num)
 x4:w.cell? ⟨kb,ko+4,none⟩=some (.string op)
 x5:w.cell? ⟨kb,ko+5,none⟩=some kv
def prB:ByteArray:=⟨#[112,114,105,110,116]⟩
def noB:ByteArray:=⟨#[]⟩
def trP (n:Nat):Tr 3:=((⟨47,0,noB,0,noB⟩,⟨some ⟨n+1,0,none⟩,1,[((⟨46,0,noB,0,noB⟩,⟨some ⟨n,0,none⟩,1,[((⟨3,3,prB,0,noB⟩,⟨none,0,[]⟩):Nd×Sli (Tr 0))]⟩):Nd×Sli (Tr 1))]⟩):Nd×Sli (Tr 2))
structure TreeP (w:World)(n:Nat):Prop where
 k1:OneAt w n 0 3 3 prB 0 noB (.slice none 0 0)
 k2:OneAt w (n+1) 0 46 0 noB 0 noB (.slice (some ⟨n,0,none⟩) 1 1)
theorem OneAt.kept {w w':World}{kb ko:Nat}{k p:Int}{name:ByteArray}{num:Int}{op:ByteArray}{kv:Value}(h:OneAt w kb ko k p name num op kv)(hb:Below w.heap.size w w'):OneAt w' kb ko k p name num op kv :=
 ⟨Sc.cells_below hb _ _ h.x0,Sc.cells_below hb _ _ h.x1,Sc.cells_below hb _ _ h.x2,Sc.cells_below hb _ _ h.x3,Sc.cells_below hb _ _ h.x4,Sc.cells_below hb _ _ h.x5⟩
theorem TreeP.kept {w w':World}{n:Nat}(h:TreeP w n)(hb:Below w.heap.size w w'):TreeP w' n:=⟨h.k1.kept hb,h.k2.kept hb⟩
theorem one_ok {β:Type}{enc:β→List Value}{w:World}{b:Nat}{y:β}(h:∀j u,(enc y)[j]?=some u→w.cell? ⟨b,j,none⟩=some u):Sli.ok enc 6 w ⟨some ⟨b,0,none⟩,1,[y]⟩:=by
 refine⟨Nat.le_refl _,by simp[maxLen],fun _=>⟨b,0,rfl,fun i x hi j u hj => ?_⟩⟩
 cases i with
 | zero =>
   simp at hi
   subst hi
   simpa using h j u hj
 | succ i=>simp at hi
theorem nd_wf (k p n:Int)(a b:ByteArray)(hp:(Lit.int .i64 p).wf=true)(ha:a.size≤maxLen)(hb:b.size≤maxLen):(⟨k,p,a,n,b⟩:Nd).wf:=⟨hp,ha,hb⟩
theorem TreeP.ok {w:World}{n:Nat}(h:TreeP w n):okT 3 w (trP n):=by
 have e0:noB.size≤maxLen:=by decide
 have e1:prB.size≤maxLen:=by decide
 refine⟨nd_wf _ _ _ _ _ (by decide) e0 e0,one_ok ?_,?_⟩
 ·intro j u hj
  have:=h.k2
  match j with
  | 0=>cases hj;exact this.x0
  | 1=>cases hj;exact this.x1
  | 2=>cases hj;exact this.x2
  | 3=>cases hj;exact this.x3
  | 4=>cases hj;exact this.x4
  | 5=>cases hj;exact this.x5
  | j+6=>simp[encT] at hj
 ·intro y hy
  have hy:=List.mem_singleton.1 hy
  subst hy
  refine⟨nd_wf _ _ _ _ _ (by decide) e0 e0,one_ok ?_,?_⟩
  ·intro j u hj
   have:=h.k1
   match j with
   | 0=>cases hj;exact this.x0
   | 1=>cases hj;exact this.x1
   | 2=>cases hj;exact this.x2
   | 3=>cases hj;exact this.x3
   | 4=>cases hj;exact this.x4
   | 5=>cases hj;exact this.x5
   | j+6=>simp[encT] at hj
  ·intro y hy
   have hy:=List.mem_singleton.1 hy
   subst hy
   exact⟨nd_wf _ _ _ _ _ (by decide) e1 e0,⟨Nat.le_refl _,by simp,fun q=>absurd rfl q⟩,fun y hy=>by cases hy⟩
theorem root_print (n:Nat):rootP 3 (trP n)=true:=by rfl
theorem right_print (n:Nat)(w:World)(h:TreeP w n):Calls Tryz.prog 9 #[.agg #[.int .i64 47,.int .i64 0,.string noB,.int .u64 0,.string noB,.slice (some ⟨n+1,0,none⟩) 1 1]] w fun e w'=>e = .returned (.bool true)∧Below w.heap.size w w':=by
 have:=Right_any 3 (trP n) w h.ok
 rw[root_print] at this
 exact this
theorem root_sizeA {n:Nat}{x:Nd}{s:Sli (Tr n)}(h:rootP (n+1) ((x,s):Nd×Sli (Tr n))=true):szT (n+1) ((x,s):Nd×Sli (Tr n))≤131072:=by
 have h':(x.kind == 47 && (holdsT (n+1) 300 ((x,s):Nd×Sli (Tr n)) 131072).1 && (rightP (kidT n) (partP n) x s.xs false ([],[])).isSome)=true:=h
 simp only[Bool.and_eq_true] at h'
 obtain⟨⟨_,h2⟩,_⟩:=h'
 have h5:=(holds_count (n+1) ((x,s):Nd×Sli (Tr n)) 131072 300).symm.trans h2
 have h6:=of_decide_eq_true h5
 have h7:=count_sz (n+1) 300 _ _ h6
 rw[h7] at h6
 omega
theorem res_print (n:Nat):∃s,resolveP bi 3 (trP n) = .ok s∧s.scopes.length=1∧s.vars=[]∧s.uses=[⟨3,-1⟩]:=⟨_,rfl,rfl,rfl,rfl⟩
def PrO (w:World)(e:Ending)(w':World):Prop:=(∃p0 c0 p1 c1 u c,e = .returned (.tuple #[.agg #[.slice p0 1 c0,.slice p1 0 c1,.slice (some ⟨u,0,none⟩) 1 c],.int .i64 0,.int .i64 0])∧w'.cell? ⟨u,1,none⟩=some (.int .i64 (-1)))∧Below w.heap.size w w'
theorem resolve_print (n:Nat)(w:World)(h:TreeP w n):Calls Tryz.prog 4 #[.agg #[.int .i64 47,.int .i64 0,.string noB,.int .u64 0,.string noB,.slice (some ⟨n+1,0,none⟩) 1 1]] w (PrO w):=by
 refine(resolve_right w 2 _ _ h.ok (root_print n) (root_sizeA (root_print n)) (by omega)).mono ?_
 rintro e w' ⟨hb,he⟩
 obtain⟨s,h1,h2,h3,h4⟩:=res_print n
 have h1':resolveP bi (2+1) (((⟨47,0,noB,0,noB⟩,⟨some ⟨n+1,0,none⟩,1,[((⟨46,0,noB,0,noB⟩,⟨some ⟨n,0,none⟩,1,[((⟨3,3,prB,0,noB⟩,⟨none,0,[]⟩):Nd×Sli (Tr 0))]⟩):Nd×Sli (Tr 1))]⟩):Nd×Sli (Tr 2))) = .ok s:=h1
 rw[h1'] at he
 obtain⟨v0,v1,v2,rfl,r0,r1,r2,_⟩:=he
 rw[h3] at r1
 rw[h4] at r2
 obtain⟨p0,c0,e0,_⟩:=own_slice r0
 obtain⟨p1,c1,e1,_⟩:=own_slice r1
 obtain⟨p2,c2,e2,_,_,hg⟩:=own_slice r2
 obtain⟨g,rfl⟩:=hg (by simp)
 rw[h2] at e0
 subst e0 e1 e2
 obtain⟨_,_,_,_,_,rr,_⟩:=r2.read (fun y=>(rfl:(usC y).length=2))
 exact⟨⟨p0,c0,p1,c1,g,c2,rfl,rr 0 _ rfl 1 _ rfl⟩,hb⟩
theorem TreeP.made (w:World):TreeP (((w.alloc (.cells #[.int .i64 3,.int .i64 3,.string prB,.int .u64 0,.string noB,.slice none 0 0] 25)).alloc (.cells #[.int .i64 46,.int .i64 0,.string noB,.int .u64 0,.string noB,.slice (some ⟨w.heap.size,0,none⟩) 1 1] 25)).alloc (.cells #[.int .i64 47,.int .i64 0,.string noB,.int .u64 0,.string noB,.slice (some ⟨w.heap.size+1,0,none⟩) 1 1] 25)) w.heap.size:=by
 constructor <;> constructor <;> simp[go_sem]
theorem alive_any (w:World):Calls Tryz.prog 6 #[] w fun e w'=>e = .returned (.bool true)∧Below w.heap.size w w':=by
 obtain⟨w3,hw3⟩:∃w3,w3=((w.alloc (.cells #[.int .i64 3,.int .i64 3,.string prB,.int .u64 0,.string noB,.slice none 0 0] 25)).alloc (.cells #[.int .i64 46,.int .i64 0,.string noB,.int .u64 0,.string noB,.slice (some ⟨w.heap.size,0,none⟩) 1 1] 25)).alloc (.cells #[.int .i64 47,.int .i64 0,.string noB,.int .u64 0,.string noB,.slice (some ⟨w.heap.size+1,0,none⟩) 1 1] 25):=⟨_,rfl⟩
 have hT:TreeP w3 w.heap.size:=by rw[hw3];exact TreeP.made w
 have hB:Below w.heap.size w w3:=by rw[hw3];exact(((Below.refl w.heap.size w).alloc (Nat.le_refl _) _).alloc (by simp) _).alloc (by simp;omega) _
 have hres:=resolve_print _ _ hT
 have HT:Hid (TreeP w3 w.heap.size):=hT
 have HB:Hid (Below w.heap.size w w3):=hB
 have d0:w3.cell? ⟨w.heap.size+1+1,0,none⟩=some (.int .i64 47):=by rw[hw3];simp[go_sem]
 have d1:w3.cell? ⟨w.heap.size+1+1,1,none⟩=some (.int .i64 0):=by rw[hw3];simp[go_sem]
 have d2:w3.cell? ⟨w.heap.size+1+1,2,none⟩=some (.string noB):=by rw[hw3];simp[go_sem]
 have d3:w3.cell? ⟨w.heap.size+1+1,3,none⟩=some (.int .u64 0):=by rw[hw3];simp[go_sem]
 have d4:w3.cell? ⟨w.heap.size+1+1,4,none⟩=some (.string noB):=by rw[hw3];simp[go_sem]
 have d5:w3.cell? ⟨w.heap.size+1+1,5,none⟩=some (.slice (some ⟨w.heap.size+1,0,none⟩) 1 1):=by rw[hw3];simp[go_sem]
 have HD:Hid (w3.cell? ⟨w.heap.size+1+1,0,none⟩=some (.int .i64 47)∧w3.cell? ⟨w.heap.size+1+1,1,none⟩=some (.int .i64 0)∧w3.cell? ⟨w.heap.size+1+1,2,none⟩=some (.string noB)∧w3.cell? ⟨w.heap.size+1+1,3,none⟩=some (.int .u64 0)∧w3.cell? ⟨w.heap.size+1+1,4,none⟩=some (.string noB)∧w3.cell? ⟨w.heap.size+1+1,5,none⟩=some (.slice (some ⟨w.heap.size+1,0,none⟩) 1 1)):=⟨d0,d1,d2,d3,d4,d5⟩
 have HF:Hid (w3=((w.alloc (.cells #[.int .i64 3,.int .i64 3,.string prB,.int .u64 0,.string noB,.slice none 0 0] 25)).alloc (.cells #[.int .i64 46,.int .i64 0,.string noB,.int .u64 0,.string noB,.slice (some ⟨w.heap.size,0,none⟩) 1 1] 25)).alloc (.cells #[.int .i64 47,.int .i64 0,.string noB,.int .u64 0,.string noB,.slice (some ⟨w.heap.size+1,0,none⟩) 1 1] 25)):=hw3
 have HRES:Hid (Calls Tryz.prog 4 #[.agg #[.int .i64 47,.int .i64 0,.string noB,.int .u64 0,.string noB,.slice (some ⟨w.heap.size+1,0,none⟩) 1 1]] w3 (PrO w3)):=hres
 clear hT hB hres d0 d1 d2 d3 d4 d5 hw3
 go_enter Tryz.func6,Tryz.ntmps6
 go_wp2_with fail
 unfold prB noB at HF
 rw[←HF.out]
 refine HRES.out.mono ?_
 rintro e w4 ⟨⟨p0,c0,p1,c1,u,c,rfl,hu⟩,hb4⟩
 obtain⟨w5,hw5⟩:∃w5,w5=w4.alloc (.cells #[.slice p0 1 c0,.slice p1 0 c1,.slice (some ⟨u,0,none⟩) 1 c] 30):=⟨_,rfl⟩
 have hb5:Below w4.heap.size w4 w5:=by rw[hw5];exact(Below.refl _ _).alloc (Nat.le_refl _) _
 have hb35:Below w3.heap.size w3 w5:=hb4.trans (hb5.mono hb4.size)
 have H5:Hid (Below w.heap.size w w5):=HB.out.trans (hb35.mono HB.out.size)
 have hri:=right_print w.heap.size w5 (HT.out.kept hb35)
 obtain⟨q0,q1,q2,q3,q4,q5⟩:=HD.out
 have d0:=Sc.cells_below hb35 _ _ q0
 have d1:=Sc.cells_below hb35 _ _ q1
 have d2:=Sc.cells_below hb35 _ _ q2
 have d3:=Sc.cells_below hb35 _ _ q3
 have d4:=Sc.cells_below hb35 _ _ q4
 have d5:=Sc.cells_below hb35 _ _ q5
 have HU:Hid (w5.cell? ⟨u,1,none⟩=some (.int .i64 (-1))):=Sc.cells_below hb5 _ _ hu
 have HS:Hid (w5.cell? ⟨w4.heap.size,0,none⟩=some (.slice p0 1 c0)∧w5.cell? ⟨w4.heap.size,2,none⟩=some (.slice (some ⟨u,0,none⟩) 1 c)):=by rw[hw5];exact⟨box_new w4 _ _ 0 _ rfl,box_new w4 _ _ 2 _ rfl⟩
 have HRI:Hid (Calls Tryz.prog 9 #[.agg #[.int .i64 47,.int .i64 0,.string noB,.int .u64 0,.string noB,.slice (some ⟨w.heap.size+1,0,none⟩) 1 1]] w5 fun e w'=>e = .returned (.bool true)∧Below w5.heap.size w5 w'):=hri
 clear hu hb4 hb5 hb35 hri q0 q1 q2 q3 q4 q5 HD HF HRES HT HB
 go_upto_region 3 with fail
 rw[←hw5]
 clear hw5
 go_wp2_with fail
 refine HRI.out.mono ?_
 rintro e w6 ⟨rfl,hb6⟩
 have u6:=Sc.cells_below hb6 _ _ HU.out
 have s0:=Sc.cells_below hb6 _ _ HS.out.1
 have s2:=Sc.cells_below hb6 _ _ HS.out.2
 have H6:Hid (Below w.heap.size w w6):=H5.out.trans (hb6.mono H5.out.size)
 have hbu:=builtins_any w6
 clear hb6 HU HS HRI H5 d0 d1 d2 d3 d4 d5
 go_wp2_with (go_at_call 13;refine hbu.mono ?_;rintro e w7 ⟨rfl,_,hb7⟩;clear hbu;have H7:Hid (Below w.heap.size w w7):=H6.out.trans (hb7.mono H6.out.size);clear hb7)
 go_ret
 exact⟨rfl,H7.out⟩
theorem row_cells {β:Type}{enc:β→List Value}{k:Nat}{e:TypeId}{B:Nat}{w:World}{p:Option Addr}{m q:Nat}{xs:List β}(hk:∀y,(enc y).length=k)(h:OwnR enc k e B w (.slice p m q) xs){i:Nat}{y:β}(hi:xs[i]?=some y) :
  ∃g,p=some ⟨g,0,none⟩∧∀(W:World),Below w.heap.size w W→∀(j:Nat) (u:Value),(enc y)[j]?=some u→W.cell? ⟨g,i*k+j,none⟩=some u:=by
 obtain⟨ad,cap,e1,l1,l2,hg⟩:=own_slice h
 cases e1
 obtain⟨g,rfl⟩:=hg (fun e=>by rw[e] at hi;simp at hi)
 obtain⟨_,_,hlt,_,_,r6,_⟩:=h.read hk
 exact⟨g,rfl,fun W hW j u hu=>Sc.cells_below hW _ _ (r6 i y hi j u hu)⟩
theorem row_len {β:Type}{enc:β→List Value}{k:Nat}{e:TypeId}{B:Nat}{w:World}{v:Value}{xs:List β}(h:OwnR enc k e B w v xs):∃p q,v = .slice p xs.length q:=by
 obtain⟨ad,cap,e1,_⟩:=own_slice h
 exact⟨ad,cap,e1⟩
theorem neq_scp (y:Rz.Scp)(w:World):(Go.binOp .neq 53 (.agg #[.int .i64 y.pl,.int .i64 y.parent,.int .i64 (y.params:Int),.int .i64 (y.vars:Int)]) (.agg #[.int .i64 y.pl,.int .i64 y.parent,.int .i64 (y.params:Int),.int .i64 (y.vars:Int)])).run Tryz.prog w = .ok (.bool false) w:=by
 have ht:Tryz.prog.underlying 53=some (.struct (Tryz.prog.fieldsOf 53)):=by kernel_rfl
 have hp:Tryz.prog.stoodInHeld 53=false:=by kernel_rfl
 rw[run_neq_struct,run_equalIn_struct w 9999 53 _ _ ht hp]
 have hf : (Tryz.prog.fieldsOf 53).toList = [⟨"At", 3, 0, false, "", "", 0⟩, ⟨"Parent", 3, 1, false, "", "", 8⟩, ⟨"Params", 3, 2, false, "", "", 16⟩, ⟨"Vars", 3, 3, false, "", "", 24⟩] := by kernel_rfl
 rw[hf]
 simp[Op.eqFields,go_sem]
theorem neq_vr (y:Rz.Vr)(w:World):(Go.binOp .neq 61 (.agg #[.string y.name,.int .i64 y.pl,.int .i64 y.kind,.int .i64 (y.fn:Int),.int .i64 (y.slot:Int),.bool y.cap]) (.agg #[.string y.name,.int .i64 y.pl,.int .i64 y.kind,.int .i64 (y.fn:Int),.int .i64 (y.slot:Int),.bool y.cap])).run Tryz.prog w = .ok (.bool false) w:=by
 have ht:Tryz.prog.underlying 61=some (.struct (Tryz.prog.fieldsOf 61)):=by kernel_rfl
 have hp:Tryz.prog.stoodInHeld 61=false:=by kernel_rfl
 rw[run_neq_struct,run_equalIn_struct w 9999 61 _ _ ht hp]
 have hf : (Tryz.prog.fieldsOf 61).toList = [⟨"Name", 9, 0, false, "", "", 0⟩, ⟨"At", 3, 1, false, "", "", 16⟩, ⟨"Kind", 3, 2, false, "", "", 24⟩, ⟨"Func", 3, 3, false, "", "", 32⟩, ⟨"Slot", 3, 4, false, "", "", 40⟩, ⟨"Captured", 4, 5, false, "", "", 48⟩] := by kernel_rfl
 rw[hf]
 simp[Op.eqFields,go_sem]
theorem neq_us (y:Rz.Us)(w:World):(Go.binOp .neq 57 (.agg #[.int .i64 y.pl,.int .i64 y.var]) (.agg #[.int .i64 y.pl,.int .i64 y.var])).run Tryz.prog w = .ok (.bool false) w:=by
 have ht:Tryz.prog.underlying 57=some (.struct (Tryz.prog.fieldsOf 57)):=by kernel_rfl
 have hp:Tryz.prog.stoodInHeld 57=false:=by kernel_rfl
 rw[run_neq_struct,run_equalIn_struct w 9999 57 _ _ ht hp]
 have hf : (Tryz.prog.fieldsOf 57).toList = [⟨"At", 3, 0, false, "", "", 0⟩, ⟨"Var", 3, 1, false, "", "", 8⟩] := by kernel_rfl
 rw[hf]
 simp[Op.eqFields,go_sem]
theorem same_any (w:World)(B B':Nat)(sc:List Rz.Scp)(vr:List Rz.Vr)(us:List Rz.Us)(v0 v1 v2 u0 u1 u2:Value)(r0:OwnR scpC 4 53 B w v0 sc)(r1:OwnR vrC 6 61 B w v1 vr)(r2:OwnR usC 2 57 B w v2 us)(s0:OwnR scpC 4 53 B' w u0 sc)(s1:OwnR vrC 6 61 B' w u1 vr)(s2:OwnR usC 2 57 B' w u2 us)(m0:sc.length≤2000000)(m1:vr.length≤2000000)(m2:us.length≤2000000) :
  Calls Tryz.prog 7 #[.agg #[v0,v1,v2],.agg #[u0,u1,u2]] w fun e w'=>e = .returned (.bool true)∧Below w.heap.size w w':=by
 obtain⟨p0,q0,rfl⟩:=row_len r0
 obtain⟨p1,q1,rfl⟩:=row_len r1
 obtain⟨p2,q2,rfl⟩:=row_len r2
 obtain⟨j0,l0,rfl⟩:=row_len s0
 obtain⟨j1,l1,rfl⟩:=row_len s1
 obtain⟨j2,l2,rfl⟩:=row_len s2
 obtain⟨wb,hwb⟩:∃wb,wb=(w.alloc (.cells #[.slice p0 sc.length q0,.slice p1 vr.length q1,.slice p2 us.length q2] 30)).alloc (.cells #[.slice j0 sc.length l0,.slice j1 vr.length l1,.slice j2 us.length l2] 30):=⟨_,rfl⟩
 have hb:Below w.heap.size w wb:=by rw[hwb];exact((Below.refl w.heap.size w).alloc (Nat.le_refl _) _).alloc (by simp) _
 have a0:wb.cell? ⟨w.heap.size,0,none⟩=some (.slice p0 sc.length q0):=by rw[hwb];simp[go_sem]
 have a1:wb.cell? ⟨w.heap.size,1,none⟩=some (.slice p1 vr.length q1):=by rw[hwb];simp[go_sem]
 have a2:wb.cell? ⟨w.heap.size,2,none⟩=some (.slice p2 us.length q2):=by rw[hwb];simp[go_sem]
 have b0:wb.cell? ⟨w.heap.size+1,0,none⟩=some (.slice j0 sc.length l0):=by rw[hwb];simp[go_sem]
 have b1:wb.cell? ⟨w.heap.size+1,1,none⟩=some (.slice j1 vr.length l1):=by rw[hwb];simp[go_sem]
 have b2:wb.cell? ⟨w.heap.size+1,2,none⟩=some (.slice j2 us.length l2):=by rw[hwb];simp[go_sem]
 have HB:Hid (Below w.heap.size w wb):=hb
 have HA:Hid (wb.cell? ⟨w.heap.size,0,none⟩=some (.slice p0 sc.length q0)∧wb.cell? ⟨w.heap.size,1,none⟩=some (.slice p1 vr.length q1)∧wb.cell? ⟨w.heap.size,2,none⟩=some (.slice p2 us.length q2)):=⟨a0,a1,a2⟩
 have HC:Hid (wb.cell? ⟨w.heap.size+1,0,none⟩=some (.slice j0 sc.length l0)∧wb.cell? ⟨w.heap.size+1,1,none⟩=some (.slice j1 vr.length l1)∧wb.cell? ⟨w.heap.size+1,2,none⟩=some (.slice j2 us.length l2)):=⟨b0,b1,b2⟩
 have R0:Hid (OwnR scpC 4 53 B wb (.slice p0 sc.length q0) sc∧OwnR scpC 4 53 B' wb (.slice j0 sc.length l0) sc):=⟨r0.below hb,s0.below hb⟩
 have R1:Hid (OwnR vrC 6 61 B wb (.slice p1 vr.length q1) vr∧OwnR vrC 6 61 B' wb (.slice j1 vr.length l1) vr):=⟨r1.below hb,s1.below hb⟩
 have R2:Hid (OwnR usC 2 57 B wb (.slice p2 us.length q2) us∧OwnR usC 2 57 B' wb (.slice j2 us.length l2) us):=⟨r2.below hb,s2.below hb⟩
 have HM:Hid (sc.length≤2000000∧vr.length≤2000000∧us.length≤2000000):=⟨m0,m1,m2⟩
 clear r0 r1 r2 s0 s1 s2 m0 m1 m2 hb
 go_enter Tryz.func7,Tryz.ntmps7
 go_upto_region 1 with fail
 rw[←hwb]
 clear hwb
 go_wp2_with fail
 go_loopw [5] (fun i wz=>∃k:Nat,Hid (k≤sc.length∧Below wb.heap.size wb wz)∧i = .int .i64 (k:Int)) (fun i wz=>sc.length - (intOf i).toNat)
 case atStart=>exact⟨0,⟨Nat.zero_le _,Below.refl _ _⟩,rfl⟩
 case round =>
  obtain⟨i,HI,rfl⟩:=hrel
  clear a0 a1 a2 b0 b1 b2
  have t1:=Sc.cells_below HI.out.2 _ _ HA.out.1
  have t2:=Sc.cells_below HI.out.2 _ _ HC.out.1
  rcases Nat.lt_or_ge i sc.length with ci | ci
  ·obtain⟨y,hy⟩:∃y,sc[i]?=some y:=⟨_,List.getElem?_eq_getElem ci⟩
   obtain⟨g1,rfl,hc1⟩:=row_cells (fun y=>(rfl:(scpC y).length=4)) R0.out.1 hy
   obtain⟨g2,rfl,hc2⟩:=row_cells (fun y=>(rfl:(scpC y).length=4)) R0.out.2 hy
   have x0:=hc1 wr HI.out.2 0 _ rfl
   have z0:=hc2 wr HI.out.2 0 _ rfl
   have x1:=hc1 wr HI.out.2 1 _ rfl
   have z1:=hc2 wr HI.out.2 1 _ rfl
   have x2:=hc1 wr HI.out.2 2 _ rfl
   have z2:=hc2 wr HI.out.2 2 _ rfl
   have x3:=hc1 wr HI.out.2 3 _ rfl
   have z3:=hc2 wr HI.out.2 3 _ rfl
   rw[Nat.add_zero] at x0 z0
   have hil:(i:Int)<(sc.length:Int):=by omega
   have hi0:(0:Int)≤(i:Int):=by omega
   have hw1:IntKind.i64.wrap ((i:Int)+1)=((i+1:Nat):Int):=by have:=HM.out.1;rw[IntKind.wrap_i64];omega
   have hnq:=neq_scp y
   have HQ:Hid (i<sc.length):=ci
   have HN:Hid (Below wb.heap.size wb wr.drew):=HI.out.2.drew
   clear hc1 hc2 hy ci HI
   go_wp2_with fail
   go_region
   all_goals
    go_wp2_with fail
    refine⟨⟨i+1,⟨HQ.out,HN.out⟩,by go_num⟩,?_⟩
    simp[intOf]
    have:=HQ.out
    omega
  ·have hil:¬(i:Int)<(sc.length:Int):=by omega
   have HZ:Hid (Below wb.heap.size wb wr):=HI.out.2
   clear HI ci
   go_wp2_with fail
   go_loopw [6] (fun i wz=>∃k:Nat,Hid (k≤vr.length∧Below wb.heap.size wb wz)∧i = .int .i64 (k:Int)) (fun i wz=>vr.length - (intOf i).toNat)
   case atStart=>exact⟨0,⟨Nat.zero_le _,HZ.out⟩,rfl⟩
   case round =>
    obtain⟨i,HI,rfl⟩:=hrel
    have t1:=Sc.cells_below HI.out.2 _ _ HA.out.2.1
    have t2:=Sc.cells_below HI.out.2 _ _ HC.out.2.1
    rcases Nat.lt_or_ge i vr.length with ci | ci
    ·obtain⟨y,hy⟩:∃y,vr[i]?=some y:=⟨_,List.getElem?_eq_getElem ci⟩
     obtain⟨g1,rfl,hc1⟩:=row_cells (fun y=>(rfl:(vrC y).length=6)) R1.out.1 hy
     obtain⟨g2,rfl,hc2⟩:=row_cells (fun y=>(rfl:(vrC y).length=6)) R1.out.2 hy
     have x0:=hc1 wr HI.out.2 0 _ rfl
     have z0:=hc2 wr HI.out.2 0 _ rfl
     have x1:=hc1 wr HI.out.2 1 _ rfl
     have z1:=hc2 wr HI.out.2 1 _ rfl
     have x2:=hc1 wr HI.out.2 2 _ rfl
     have z2:=hc2 wr HI.out.2 2 _ rfl
     have x3:=hc1 wr HI.out.2 3 _ rfl
     have z3:=hc2 wr HI.out.2 3 _ rfl
     have x4:=hc1 wr HI.out.2 4 _ rfl
     have z4:=hc2 wr HI.out.2 4 _ rfl
     have x5:=hc1 wr HI.out.2 5 _ rfl
     have z5:=hc2 wr HI.out.2 5 _ rfl
     rw[Nat.add_zero] at x0 z0
     have hil:(i:Int)<(vr.length:Int):=by omega
     have hi0:(0:Int)≤(i:Int):=by omega
     have hw1:IntKind.i64.wrap ((i:Int)+1)=((i+1:Nat):Int):=by have:=HM.out.2.1;rw[IntKind.wrap_i64];omega
     have hnq:=neq_vr y
     have HQ:Hid (i<vr.length):=ci
     have HN:Hid (Below wb.heap.size wb wr.drew):=HI.out.2.drew
     clear hc1 hc2 hy ci HI
     go_wp2_with fail
     go_region
     all_goals
      go_wp2_with fail
      refine⟨⟨i+1,⟨HQ.out,HN.out⟩,by go_num⟩,?_⟩
      simp[intOf]
      have:=HQ.out
      omega
    ·have hil:¬(i:Int)<(vr.length:Int):=by omega
     have HZ:Hid (Below wb.heap.size wb wr):=HI.out.2
     clear HI ci
     go_wp2_with fail
     go_loopw [7] (fun i wz=>∃k:Nat,Hid (k≤us.length∧Below wb.heap.size wb wz)∧i = .int .i64 (k:Int)) (fun i wz=>us.length - (intOf i).toNat)
     case atStart=>exact⟨0,⟨Nat.zero_le _,HZ.out⟩,rfl⟩
     case round =>
      obtain⟨i,HI,rfl⟩:=hrel
      have t1:=Sc.cells_below HI.out.2 _ _ HA.out.2.2
      have t2:=Sc.cells_below HI.out.2 _ _ HC.out.2.2
      rcases Nat.lt_or_ge i us.length with ci | ci
      ·obtain⟨y,hy⟩:∃y,us[i]?=some y:=⟨_,List.getElem?_eq_getElem ci⟩
       obtain⟨g1,rfl,hc1⟩:=row_cells (fun y=>(rfl:(usC y).length=2)) R2.out.1 hy
       obtain⟨g2,rfl,hc2⟩:=row_cells (fun y=>(rfl:(usC y).length=2)) R2.out.2 hy
       have x0:=hc1 wr HI.out.2 0 _ rfl
       have z0:=hc2 wr HI.out.2 0 _ rfl
       have x1:=hc1 wr HI.out.2 1 _ rfl
       have z1:=hc2 wr HI.out.2 1 _ rfl
       rw[Nat.add_zero] at x0 z0
       have hil:(i:Int)<(us.length:Int):=by omega
       have hi0:(0:Int)≤(i:Int):=by omega
       have hw1:IntKind.i64.wrap ((i:Int)+1)=((i+1:Nat):Int):=by have:=HM.out.2.2;rw[IntKind.wrap_i64];omega
       have hnq:=neq_us y
       have HQ:Hid (i<us.length):=ci
       have HN:Hid (Below wb.heap.size wb wr.drew):=HI.out.2.drew
       clear hc1 hc2 hy ci HI
       go_wp2_with fail
       go_region
       all_goals
        go_wp2_with fail
        refine⟨⟨i+1,⟨HQ.out,HN.out⟩,by go_num⟩,?_⟩
        simp[intOf]
        have:=HQ.out
        omega
      ·have hil:¬(i:Int)<(us.length:Int):=by omega
       have HZ:Hid (Below wb.heap.size wb wr):=HI.out.2
       clear HI ci
       go_wp2_with fail
       go_ret
       exact⟨rfl,HB.out.trans (HZ.out.mono HB.out.size)⟩
end Go.Proofs.YtihmdcdifakepaaGreat.Rv
namespace Go.Proofs.YtihmdcdifakepaaGreat.Rz
open Go.Proofs.YtihmdcdifakepaaGreat.Sc
theorem bind_assoc' {x:Except Er RS}{f g:RM}:(x.bind f).bind g=x.bind fun s=>(f s).bind g:=by cases x <;> rfl
theorem each_app {α:Type}(f:α→RM):∀(a b:List α)(s:RS),eachP f (a++b) s=(eachP f a s).bind (eachP f b)
 | [],b,s=>rfl
 | k :: a,b,s=>by
   show(f k s).bind (eachP f (a++b))=((f k s).bind (eachP f a)).bind (eachP f b)
   rw[bind_assoc']
   congr 1
   funext s1
   exact each_app f a b s1
theorem each_cut {α:Type}(f:α→RM)(i:Nat)(l:List α)(s:RS):eachP f l s=(eachP f (l.take i) s).bind (eachP f (l.drop i)):=by
 rw[←each_app,List.take_append_drop]
section
variable {α:Type}{fP exR stR:α→RM}(kP:∀k,Keeps (fP k))(kE:∀k,Keeps (exR k))(kS:∀k,Keeps (stR k))
def EqE (fP exR:α→RM)(k:α):Prop:=∀s r,Rl false s r→Eqv (Rl false) (fP k s) (exR k r)
def EqS (fP stR:α→RM)(k:α):Prop:=∀s r,Rl true s r→Eqv (Rl true) (fP k s) (stR k r)
theorem EqE.up (kP:∀k,Keeps (fP k))(kE:∀k,Keeps (exR k)){lp:Bool}{k:α}(h:EqE fP exR k)(s r:RS)(hr:Rl lp s r):Eqv (Rl lp) (fP k s) (exR k r) :=
 Eqv.up hr (kP k) (kE k) (h s r hr.low)
theorem eqv_exprs (kP:∀k,Keeps (fP k))(kE:∀k,Keeps (exR k)){lp:Bool}(l:List α)(h:∀k∈l,EqE fP exR k)(s r:RS)(hr:Rl lp s r):Eqv (Rl lp) (eachP fP l s) (eachP exR l r) :=
 eqv_each l (fun k hk s r hr=>(h k hk).up kP kE s r hr) s r hr
theorem eqv_give (bi:ByteArray→Bool)(nd:α→Nd)(l:List α)(h0:∀t r,l=t :: r→(nd t).kind≠3→EqE fP exR t)(h1:∀k∈l.drop 1,EqE fP exR k)(s r:RS)(hr:Rl false s r) :
  Eqv (Rl false) (giveP bi nd fP l s) (giveR bi nd exR l r):=by
 cases l with
 | nil=>exact hr
 | cons t q =>
   unfold giveP giveR
   simp only
   by_cases c:(nd t).kind=3
   ·rw[if_pos c,if_pos c]
    have hw:=eqv_written bi (nd t).name (nd t).pl s r hr
    have herr:∀(e:Er) (b:Except Er RS),Eqv (Rl false) (.error e) b→Eqv (Rl false) (.error e) (b.bind (eachP exR q)):=fun e b h=>by
     cases b with
     | error e'=>exact h
     | ok r1=>exact h.elim
    cases hu:useP bi (nd t).name (nd t).pl s with
    | error e =>
      rw[hu] at hw
      exact herr e _ hw
    | ok p =>
      obtain⟨v,s1⟩:=p
      rw[hu] at hw
      simp only at hw ⊢
      cases hs:staysP v s1 with
      | true =>
        rw[hs] at hw
        exact herr _ _ hw
      | false =>
        rw[hs] at hw
        have hw2:Eqv (Rl false) (.ok s1) (useR bi (nd t).name (nd t).pl true r):=hw
        exact Eqv.bind (f:=eachP fP q) hw2 fun s2 r2 h=>eqv_each q (fun k hk=>h1 k hk) s2 r2 h
   ·rw[if_neg c,if_neg c]
    exact(h0 t q rfl c s r hr).bind fun s1 r1 h=>eqv_each q (fun k hk=>h1 k hk) s1 r1 h
theorem eqv_while (kP:∀k,Keeps (fP k))(kE:∀k,Keeps (exR k))(kS:∀k,Keeps (stR k))(a b:List α)(ha:∀k∈a,EqE fP exR k)(hb:∀k∈b,EqS fP stR k)(s r:RS)(hr:Rl true s r):Eqv (Rl true) (loopP fP (a++b) s) ((eachP exR a r).bind (loopP stR b)):=by
 obtain⟨h1,h2⟩:=hr.side rfl
 have e:loopP fP (a++b) s=(eachP fP a { s with loops:=s.loops+1 }).bind fun s1=>(eachP fP b s1).bind fun s2 => .ok { s2 with loops:=s2.loops - 1 }:=by
  unfold loopP
  rw[each_app,bind_assoc']
 rw[e]
 have h0:Rl false { s with loops:=s.loops+1 } r:=⟨⟨hr.core.scopes,hr.core.vars,hr.core.uses,hr.core.fn⟩,hr.blocks,fun e=>by cases e⟩
 have q:=eqv_exprs kP kE a ha _ r h0
 refine Eqv.bind (R:=fun s1 r1=>Rl false s1 r1∧s1.loops=r1.loops+1∧s1.labels=r1.labels) (q.mono fun s1 r1 e1 e2 h => ?_) ?_
 ·have k1:=keeps_each kP a _ s1 e1
  have k2:=keeps_each kE a r r1 e2
  exact⟨h,by rw[k1.loops,k2.loops,h1],by rw[k1.labels,k2.labels];exact h2⟩
 ·rintro s1 r1 ⟨h,l1,l2⟩
  have h3:Rl true s1 { r1 with loops:=r1.loops+1 }:=⟨⟨h.core.scopes,h.core.vars,h.core.uses,h.core.fn⟩,h.blocks,fun _=>⟨l1,l2⟩⟩
  exact(eqv_each b (fun k hk=>hb k hk) _ _ h3).bind fun s2 r2 q=>⟨⟨q.core.scopes,q.core.vars,q.core.uses,q.core.fn⟩,q.blocks,fun _=>⟨by show s2.loops - 1=r2.loops - 1;rw[(q.side rfl).1],(q.side rfl).2⟩⟩
theorem eqv_for (kP:∀k,Keeps (fP k))(kE:∀k,Keeps (exR k))(kS:∀k,Keeps (stR k))(x:Nd)(l:List α)(ha:∀k∈l.take 1,EqE fP exR k)(hb:∀k∈l.drop 1,EqS fP stR k)(s r:RS)(hr:Rl true s r) :
  Eqv (Rl true) (loopOfP fP x l s) ((eachP exR (l.take 1) r).bind fun s1=>(declP x.name x.pl (if isS x.op [99,111,110,115,116] then 2 else 1) (openP s1)).bind fun s2=>(loopP stR (l.drop 1) s2).bind fun s3 => .ok (shutP s3)):=by
 have e:Eqv Core (loopOfP fP x l s) ((eachP exR (l.take 1) r).bind fun s1=>(declP x.name x.pl (if isS x.op [99,111,110,115,116] then 2 else 1) (openP s1)).bind fun s2=>(loopP stR (l.drop 1) s2).bind fun s3 => .ok (shutP s3)) :=
  (eqv_exprs kP kE _ ha s r hr).bind fun s1 r1 h1=>(eqv_decl _ _ _ _ _ h1.open').bind fun s2 r2 h2=>(eqv_loop kP kS _ (fun k hk=>hb k hk) s2 r2 h2.rl).bind fun s3 r3 h3=>⟨h3.core.scopes,h3.core.vars,h3.core.uses,h3.core.fn⟩
 refine e.mono fun s' r' e1 e2 q => ?_
 have k1:=keeps_loopOf kP kP x l s s' e1
 have k2:=keeps_loopOf kE kS x l r r' e2
 obtain⟨h1,h2⟩:=hr.side rfl
 exact⟨q,by rw[k1.blocks,k2.blocks];exact hr.blocks,fun _=>⟨by rw[k1.loops,k2.loops,h1],by rw[k1.labels,k2.labels,h2]⟩⟩
theorem eqv_catch (nd:α→Nd){bP bR:α→RM}(tP:∀k,Tails (bP k))(tR:∀k,Tails (bR k))(x:Nd)(c:Option α)(hb:∀k,c=some k→(nd k).kind≠0→∀s r,Hd s r→Eqv Core (bP k s) (bR k r))(s r:RS)(hr:Rl true s r):Eqv (Rl true) (catchP nd bP x c s) (catchP nd bR x c r):=by
 have e:Eqv Core (catchP nd bP x c s) (catchP nd bR x c r):=by
  unfold catchP
  cases c with
  | none=>exact hr.core
  | some k =>
    simp only
    by_cases d:(nd k).kind=0
    ·rw[if_pos d,if_pos d]
     exact hr.core
    ·rw[if_neg d,if_neg d]
     exact(eqv_decl _ _ _ _ _ hr.open').bind fun s2 r2 h2=>(hb k rfl d s2 r2 h2).bind fun s3 r3 h3=>⟨h3.scopes,h3.vars,h3.uses,h3.fn⟩
 refine e.mono fun s' r' e1 e2 q => ?_
 have k1:=keeps_catch nd tP x c s s' e1
 have k2:=keeps_catch nd tR x c r r' e2
 obtain⟨h1,h2⟩:=hr.side rfl
 exact⟨q,by rw[k1.blocks,k2.blocks];exact hr.blocks,fun _=>⟨by rw[k1.loops,k2.loops,h1],by rw[k1.labels,k2.labels,h2]⟩⟩
end
end Go.Proofs.YtihmdcdifakepaaGreat.Rz
