/- XN2 -/
import Derived.Test.YtahhionlbfhinabGreatDoorB39
import Derived.Deep.Slices
import Derived.LaidMore
import Derived.Lib.LaidTab
import Derived.MakeChecks
import Derived.Lay
import Derived.ProofKit
import Derived.OpenShut
import Derived.SizedLaws
set_option linter.unusedVariables false
set_option linter.unusedSimpArgs false
set_option maxRecDepth 100000
set_option maxHeartbeats 40000000
namespace Go.Proofs.YtahhionlbfhinabGreatDoor.Hp
open Go.RowKit Go.ChangeShapes Go.WideShapes
section
variable {H:Type}{enc:TypeId×Value→H}{w:World}{base:Nat}{spare:Nat→Bool}{held:Bool}
theorem open_slp {α:Type}{t e:TypeId}{k fuel:Nat}{cs:List Value}{x:DataW H×List MemPlace}(enc':α→List Value)(good:α→Prop)
  (ht:Tryz.prog.underlying t=some (.slice e)) (hk:Tryz.prog.cellsOf e=k) (hk0:0<k) (hlen:∀y,(enc' y).length=k)
  (elem:∀n cs' x',DataW.trod enc Tryz.prog w base spare held n e cs'=some x'→∃y,cs'=enc' y∧good y)
  (h:DataW.trod enc Tryz.prog w base spare held fuel t cs=some x) :
  ∃s:Sli α,cs=[s.val]∧s.ok enc' k w∧(∀y∈s.xs,good y)∧(s.xs=[]∨∃els sp,x.1 = .slice els sp∧els.length=s.xs.length):=by
 rcases Go.Deep.open_slice ht h with⟨rfl,rfl⟩ | ⟨a,len,cap,m,n,D,Pl,rfl,hb,hl,hm,hmm,rfl,hx⟩
 ·exact⟨⟨none,0,[]⟩,rfl,⟨Nat.le_refl _,Nat.zero_le _,fun h=>absurd rfl h⟩,(fun y hy=>by cases hy),Or.inl rfl⟩
 ·have hlm:len≤m:=by rw[hmm];split <;> omega
  have hall:∀i:Fin len,∃y,good y∧∀j,j<k→w.cell? ((a.add (i.val*k)).add j)=(enc' y)[j]?:=by
   intro i
   obtain⟨cs',h1,h2⟩:=hx i.val (by omega)
   obtain⟨y,rfl,hg⟩:=elem n cs' _ h2
   rw[hk] at h1
   obtain⟨_,_,hcell⟩:=World.cells?_some h1
   exact⟨y,hg,hcell⟩
  let f:Fin len→α:=fun i=>Classical.choose (hall i)
  have hf:∀i,good (f i)∧∀j,j<k→w.cell? ((a.add (i.val*k)).add j)=(enc' (f i))[j]?:=fun i=>Classical.choose_spec (hall i)
  refine⟨⟨some a,cap,List.ofFn f⟩,by simp[Sli.val],⟨by simpa using hl,hm,fun h0 => ?_⟩,?_,Or.inr ⟨_,_,rfl,by simp⟩⟩
  ·have lpos:0<len:=by
    rcases Nat.eq_zero_or_pos len with c | c
    ·subst c
     exact absurd (by simp) h0
    ·exact c
   have h1:=(hf ⟨0,lpos⟩).2 0 hk0
   have hsp:a.spot=none:=by
    have h2:(enc' (f ⟨0,lpos⟩))[0]?=some ((enc' (f ⟨0,lpos⟩))[0]'(by rw[hlen];exact hk0)):=List.getElem?_eq_getElem _
    rw[h2] at h1
    have e1:(a.add (0*k)).add 0=a:=by simp[Addr.add]
    rw[show((⟨0,lpos⟩:Fin len).val*k)=0*k from rfl,e1] at h1
    exact World.cell?_spot h1
   obtain⟨b,off,sp⟩:=a
   simp only at hsp
   subst hsp
   refine⟨b,off,rfl,?_⟩
   intro i y hi j u hj
   simp only[List.getElem?_ofFn] at hi
   split at hi
   ·rename_i c
    obtain rfl:=Option.some.inj hi
    have jl:j<k:=by
     rcases Nat.lt_or_ge j k with d | d
     ·exact d
     ·rw[List.getElem?_eq_none (by rw[hlen];exact d)] at hj;cases hj
    have h3:=(hf ⟨i,c⟩).2 j jl
    rw[hj] at h3
    rw[←h3]
    refine congrArg w.cell? ?_
    have ea:∀(p n:Nat),(⟨b,p,none⟩:Addr).add n=⟨b,p+n,none⟩:=by
     intro p n
     unfold Addr.add
     by_cases hn:n=0
     ·subst hn;simp
     ·simp[hn]
    rw[ea,ea]
   ·cases hi
  ·intro y hy
   simp only[List.mem_ofFn] at hy
   obtain⟨i,rfl⟩:=hy
   exact(hf i).1
theorem open_popl {n:Nat}{cs:List Value}{x:DataW H×List MemPlace}(h:DataW.trod enc Tryz.prog w base spare held n 22 cs=some x) :
  ∃s:Sli OpP,cs=[s.val]∧s.ok opP 11 w∧(∀a∈s.xs,a.wf)∧(s.xs=[]∨∃els sp,x.1 = .slice els sp∧els.length=s.xs.length) :=
 open_slp opP (fun a=>a.wf) Tryz.underlying22 (show Tryz.prog.cellsOf 28=11 by kernel_rfl) (by omega) (fun _=>rfl) (fun n cs' x' h=>by
  obtain⟨a,e1,e2,_⟩:=open_pop h
  exact⟨a,e1,e2⟩) h
end
theorem pops_len {H:Type}{ts:List TypeId}{ds:List (DataW H)}(hw:(DataW.weightsEach Tryz.prog ts ds).all (·≤reachBytes)=true){j:Nat}(ht:ts[j]?=some 22){d:DataW H}(hd:ds[j]?=some d){xs:List OpP}(h:xs=[]∨∃els sp,d = .slice els sp∧els.length=xs.length):96*xs.length≤140737488355328:=by
 rcases h with h | ⟨els,sp,rfl,h⟩
 ·rw[h];exact Nat.zero_le _
 ·have h3:=sized_slice hw ht hd Tryz.underlying22
  rw[show Tryz.prog.bytesOf 28=96 by kernel_rfl] at h3
  have h4:reachBytes=140737488351232:=rfl
  rw[h4] at h3
  have h5:els.length*96≤140737488351232:=Nat.le_trans (Nat.mul_le_mul_right _ (by omega)) h3
  omega
end Go.Proofs.YtahhionlbfhinabGreatDoor.Hp
