/- ZY -/
import Derived.Test.YtihmdcdifakepaaGreatZX
import Derived.Test.YtihmdcdifakepaaGreatB31
set_option linter.unusedVariables false
set_option linter.unusedSimpArgs false
set_option maxRecDepth 100000
set_option maxHeartbeats 40000000
namespace Go.Proofs.YtihmdcdifakepaaGreat.Rv.Rx
open Go.RowKit Go.Proofs.YtihmdcdifakepaaGreat.Sc Go.Proofs.YtihmdcdifakepaaGreat.Rz
def ResD (w:World)(r:Except Rz.Er Rz.RS)(e:Ending)(w':World):Prop :=
 Below w.heap.size w w'∧match r with
  | .ok s=>∃v0 v1 v2,e = .returned (.tuple #[.agg #[v0,v1,v2],.int .i64 0,.int .i64 0])∧OwnR scpC 4 53 w.heap.size w' v0 s.scopes∧OwnR vrC 6 61 w.heap.size w' v1 s.vars∧OwnR usC 2 57 w.heap.size w' v2 s.uses
  | .error er=>e = .returned (.tuple #[.agg #[.slice none 0 0,.slice none 0 0,.slice none 0 0],.int .i64 er.1,.int .i64 er.2])
structure BxD (w:World)(nb:Nat)(x:Nd)(kv:Value):Prop where
 nd:NdB nb x kv w
 s0:w.cell? ⟨nb+1,0,none⟩=some (.slice none 0 0)
 s1:w.cell? ⟨nb+1,1,none⟩=some (.slice none 0 0)
 s2:w.cell? ⟨nb+1,2,none⟩=some (.slice none 0 0)
 f:∀j,w.frozen? ⟨nb+1,j,none⟩=false
 lt:nb+2≤w.heap.size
theorem BxD.made (w:World)(x:Nd)(kv:Value):BxD ((w.alloc (.cells #[.int .i64 x.kind,.int .i64 x.pl,.string x.name,.int .u64 x.num,.string x.op,kv] 25)).alloc (.cells #[.slice none 0 0,.slice none 0 0,.slice none 0 0] 30)) w.heap.size x kv:=by
 have h1:((w.alloc (.cells #[.int .i64 x.kind,.int .i64 x.pl,.string x.name,.int .u64 x.num,.string x.op,kv] 25)).alloc (.cells #[.slice none 0 0,.slice none 0 0,.slice none 0 0] 30)).heap[w.heap.size+1]?=some (.cells #[.slice none 0 0,.slice none 0 0,.slice none 0 0] 30 (0,0)):=by
  have:=at_new (w.alloc (.cells #[.int .i64 x.kind,.int .i64 x.pl,.string x.name,.int .u64 x.num,.string x.op,kv] 25)) (.cells #[.slice none 0 0,.slice none 0 0,.slice none 0 0] 30)
  rw[size_new] at this
  exact this
 refine⟨at_old _ _ _ _ (at_new w _),?_,?_,?_,fun j=>frozen_of_row _ _ j _ _ h1,?_⟩
 ·rw[cell_of_row _ _ 0 _ _ (0,0) h1];rfl
 ·rw[cell_of_row _ _ 1 _ _ (0,0) h1];rfl
 ·rw[cell_of_row _ _ 2 _ _ (0,0) h1];rfl
 ·rw[size_new,size_new];omega
theorem BxD.kept {w w':World}{nb:Nat}{x:Nd}{kv:Value}{S:Nat→Prop}(h:BxD w nb x kv)(hc:Chg S w w')(hs:∀b,S b→¬b=nb∧¬b=nb+1):BxD w' nb x kv:=by
 have hl:=h.lt
 have h1:w'.heap[nb+1]?=w.heap[nb+1]?:=hc.block (nb+1) (by omega) (fun q=>(hs _ q).2 rfl)
 have hcl:∀j,w'.cell? ⟨nb+1,j,none⟩=w.cell? ⟨nb+1,j,none⟩:=fun j=>by
  unfold World.cell?
  simp only[h1]
 have hfr:∀j,w'.frozen? ⟨nb+1,j,none⟩=w.frozen? ⟨nb+1,j,none⟩:=fun j=>by
  unfold World.frozen?
  simp only[h1]
 exact⟨h.nd.chg hc (fun q=>(hs _ q).1 rfl),(hcl 0).trans h.s0,(hcl 1).trans h.s1,(hcl 2).trans h.s2,fun j=>(hfr j).trans (h.f j),Nat.le_trans hl hc.size⟩
theorem rowIn_one {β:Type}{enc:β→List Value}{k:Nat}{e:TypeId}{B:Nat}{w:World}{O:Nat→Prop}{sb:Nat}{y:β}{cs:Array Value}(hc:cs.toList=enc y)(hk:(enc y).length=k)(hsb:B≤sb)(hs:w.heap[sb]?=some (.cells cs e (0,0)))(hO:O sb):RowIn enc k e B w O (.slice (some ⟨sb,0,none⟩) 1 1) [y]:=by
 refine⟨⟨by simp[hk],Or.inr ⟨sb,1,cs,rfl,hsb,hs,Nat.le_refl _,by unfold maxLen;omega,?_,?_⟩⟩,fun b q => ?_⟩
 ·rw[←Array.length_toList,hc,hk,Nat.one_mul]
 ·rw[hc,List.length_singleton,Nat.one_mul,←hk,List.take_length];simp
 ·have e:sb=b:=by simpa [Value.ownBlock] using q
  rw[←e];exact hO
theorem mem_startD {w:World}{B wb:Nat}{pl:Int}(hlo:B≤wb)(hbox:w.heap[wb]?=some (.cells #[.slice (some ⟨wb+1,0,none⟩) 1 1,.slice none 0 0,.slice none 0 0,.slice (some ⟨wb+3,0,none⟩) 1 1,.int .i64 0,.slice none 0 0,.int .i64 0,.int .i64 0,.int .i64 0] 51 (0,0)))(hs:w.heap[wb+1]?=some (.cells #[.int .i64 pl,.int .i64 (-1),.int .i64 0,.int .i64 0] 53 (0,0)))(hn:w.heap[wb+2]?=some (.cells #[] 86 (0,0)))(hbk:w.heap[wb+3]?=some (.cells #[.slice (some ⟨wb+2,0,none⟩) 0 0] 54 (0,0))) :
  RMem w B wb (fun b=>wb≤b∧b<wb+4) (openP (startP pl)) 0 0 (.slice none 0 0):=by
 have h0:=(Array.getElem?_eq_some_iff.1 hbox).1
 have h3:=(Array.getElem?_eq_some_iff.1 hbk).1
 refine⟨fun b=>if b=wb then 1 else if b=wb+1 then 2 else if b=wb+3 then 5 else if b=wb+2 then 7 else 0,⟨.slice (some ⟨wb+1,0,none⟩) 1 1,.slice none 0 0,.slice none 0 0,.slice (some ⟨wb+3,0,none⟩) 1 1,.slice none 0 0,[⟨some ⟨wb+2,0,none⟩,0,0⟩]⟩,⟨fun j => ?_,fun b q => ?_,rfl⟩,?_,rfl,fun b => ?_⟩
 ·match j with
  | 0=>trivial
  | 1=>exact⟨by simp,hbox⟩
  | 2=>exact rowIn_one (y:=(⟨pl,-1,0,0⟩:Rz.Scp)) (by simp[scpC]) rfl (by omega) hs (by simp)
  | 3=>exact⟨OwnR.nil _ _,fun b q=>by simp[Value.ownBlock] at q⟩
  | 4=>exact⟨OwnR.nil _ _,fun b q=>by simp[Value.ownBlock] at q⟩
  | 5=>exact rowIn_one (y:=(⟨some ⟨wb+2,0,none⟩,0,0⟩:SV)) (by simp[slC,SV.val]) rfl (by omega) hbk (by simp)
  | 6=>exact⟨OwnR.nil _ _,fun b q=>by simp[Value.ownBlock] at q⟩
  | 7 =>
    intro v b h1 h2
    obtain rfl:=Option.some.inj h1
    obtain rfl:=Option.some.inj h2
    refine⟨⟨by simp,Or.inr ⟨wb+2,0,#[],rfl,by omega,hn,Nat.le_refl _,Nat.zero_le _,by simp,by simp⟩⟩,fun b q => ?_⟩
    have e:wb+2=b:=by simpa [SV.val,Value.ownBlock] using q
    rw[←e];simp
  | j+8=>intro v b h1 h2;simp at h1
 ·split at q
  ·omega
  ·split at q
   ·omega
   ·split at q
    ·omega
    ·split at q
     ·omega
     ·exact absurd rfl q
 ·exact⟨by simp[startP,openP],fun b q=>by simp[startP,openP] at q;subst q;simp,fun b q=>by simp[startP,openP] at q;subst q;exact⟨by simp,by simp⟩,fun b q=>by simp[startP,openP] at q;subst q;simp,by simp[startP,openP]⟩
 ·simp only
  constructor
  ·intro q
   split
   ·simp
   ·split
    ·simp
    ·split
     ·simp
     ·split
      ·simp
      ·omega
  ·intro q
   split at q
   ·omega
   ·split at q
    ·omega
    ·split at q
     ·omega
     ·split at q
      ·omega
      ·exact absurd rfl q
end Go.Proofs.YtihmdcdifakepaaGreat.Rv.Rx
