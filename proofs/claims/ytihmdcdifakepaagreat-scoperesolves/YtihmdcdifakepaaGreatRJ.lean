/- RJ -/
import Derived.Test.YtihmdcdifakepaaGreatB32
set_option linter.unusedVariables false
set_option linter.unusedSimpArgs false
set_option maxRecDepth 100000
set_option maxHeartbeats 40000000
namespace Go.Proofs.YtihmdcdifakepaaGreat.Rz
open Go.Proofs.YtihmdcdifakepaaGreat.Sc
def lettersE (p:UInt8):Prop:=p=101∨p=69∨p=103∨p=112
def lettersS (p:UInt8):Prop:=p=115∨p=83∨p=105∨p=98∨p=66
theorem parts_expr (k:Int)(n:Nat)(h1:1≤k)(h2:k≤22)(h12:k≠12):∀q∈partsI k n,lettersE q:=by
 intro q hq
 unfold partsI at hq
 unfold lettersE
 by_cases a0:k=9
 ·rw[if_pos a0] at hq
  rw[List.mem_replicate] at hq
  rw[hq.2]
  decide
 rw[if_neg a0] at hq
 by_cases a1:k=14∨k=15
 ·rw[if_pos a1] at hq
  rw[List.mem_replicate] at hq
  rw[hq.2]
  decide
 rw[if_neg a1] at hq
 by_cases a2:k=10
 ·rw[if_pos a2] at hq
  rw[List.mem_replicate] at hq
  rw[hq.2]
  decide
 rw[if_neg a2] at hq
 rw[if_neg (show ¬(k=44∨k=47) by omega)] at hq
 rw[if_neg (show ¬(k=12∨k=33) by omega)] at hq
 by_cases a5:k=11∨k=13∨k=18∨k=19
 ·rw[if_pos a5] at hq
  simp at hq
  rw[hq]
  decide
 rw[if_neg a5] at hq
 by_cases a6:k=21
 ·rw[if_pos a6] at hq
  simp at hq
  rcases hq with hq | hq <;> (rw[hq];decide)
 rw[if_neg a6] at hq
 by_cases a7:k=17
 ·rw[if_pos a7] at hq
  simp at hq
  rw[hq]
  decide
 rw[if_neg a7] at hq
 by_cases a8:k=20
 ·rw[if_pos a8] at hq
  simp at hq
  rw[hq]
  decide
 rw[if_neg a8] at hq
 by_cases a9:k=16∨k=32∨k=42∨k=46
 ·rw[if_pos a9] at hq
  simp at hq
  rw[hq]
  decide
 rw[if_neg a9] at hq
 by_cases a10:k=22∨k=31∨k=34
 ·rw[if_pos a10] at hq
  simp at hq
  rw[hq]
  decide
 rw[if_neg a10] at hq
 rw[if_neg (show ¬(k=35) by omega)] at hq
 rw[if_neg (show ¬(k=36∨k=38) by omega)] at hq
 rw[if_neg (show ¬(k=37) by omega)] at hq
 rw[if_neg (show ¬(k=41) by omega)] at hq
 rw[if_neg (show ¬(k=43) by omega)] at hq
 cases hq
theorem main_eq (bi:ByteArray→Bool):∀n,
  (∀p t,lettersE p→Good n p t→EqE (resP bi n).1 (resR bi n).1 t) ∧
  (∀p t,lettersS p→Good n p t→EqS (resP bi n).1 (resR bi n).2.1 t) ∧
  (∀p t,(p=98∨p=66)→Good n p t→(ndR n t).kind≠0→∀s r,Hd s r→Eqv Core ((resP bi n).2 t s) ((resR bi n).2.2 t r))
 | 0=>⟨(fun p t=>nomatch (t:Empty)),(fun p t=>nomatch (t:Empty)),(fun p t=>nomatch (t:Empty))⟩
 | n+1=>by
   obtain⟨iE,iS,iB⟩:=main_eq bi n
   obtain⟨kP,tP⟩:=keeps_resP bi n
   obtain⟨kE,kS,tR⟩:=keeps_resR bi n
   refine⟨?_,?_,?_⟩
   ·intro p t hp hg s r hr
    rcases good_parts n p t hg with⟨k0,_,xs0⟩ | ⟨k0,hpart,hparts⟩
    ·simp only[resP,resR,k0,xs0]
     exact hr
    ·have hrange:1≤t.1.kind∧t.1.kind≤22:=by
      unfold isPartB isExprB at hpart
      rcases hp with rfl | rfl | rfl | rfl <;> simp at hpart <;> omega
     have hp110:p≠110:=by rcases hp with rfl | rfl | rfl | rfl <;> decide
     obtain⟨hlen,hgood⟩:=hparts.resolve_left hp110
     simp only[resP,resR]
     by_cases c3:t.1.kind=3
     ·rw[if_pos c3,if_pos c3]
      exact eqv_use bi _ _ s r hr
     rw[if_neg c3,if_neg c3]
     by_cases c17:t.1.kind=21∨t.1.kind=17
     ·rw[if_pos c17,if_neg (by omega),if_pos (by omega)]
      have hall:∀k∈t.2.xs,∃q,lettersE q∧Good n q k:=good_all hlen hgood lettersE (parts_expr _ _ hrange.1 hrange.2 (by omega))
      have hexp:∀k∈t.2.xs,EqE (resP bi n).1 (resR bi n).1 k:=fun k hk=>by
       obtain⟨q,h1,h2⟩:=hall k hk
       exact iE q k h1 h2
      exact eqv_give bi (ndR n) t.2.xs (fun a b e _=>hexp a (by rw[e];simp)) (fun k hk=>hexp k (List.mem_of_mem_drop hk)) s r hr
     rw[if_neg c17]
     by_cases c12:t.1.kind=12
     ·rw[if_pos (by omega),if_pos c12]
      refine eqv_function (ndR n) tP tR t.1 t.2.xs (fun b hb s r h => ?_) s r hr
      have hps:partsI t.1.kind t.2.xs.length=List.replicate (t.2.xs.length - 1) 110++[98]:=by rw[c12];rfl
      have hx:t.2.xs≠[]:=by intro e;rw[e] at hb;simp at hb
      have hl0:0<t.2.xs.length:=List.length_pos_iff.2 hx
      have hb1:t.2.xs[t.2.xs.length - 1]?=some b:=by rw[List.getLast?_eq_getElem?] at hb;exact hb
      have hgb:=hgood (t.2.xs.length - 1) 98 b (by rw[hps];simp) hb1
      cases n with
      | zero=>exact nomatch (b:Empty)
      | succ m =>
        refine iB 98 b (Or.inl rfl) hgb ?_ s r h
        rcases good_parts m 98 b hgb with⟨_,h1,_⟩ | ⟨h1,_,_⟩
        ·exact absurd h1 (by decide)
        ·exact h1
     rw[if_neg (by omega),if_neg c12,if_neg (by omega),if_neg (by omega),if_neg (by omega),if_neg (by omega),if_neg (by omega),if_neg (by omega),if_neg (by omega),if_neg (by omega)]
     refine eqv_each _ (fun k hk => ?_) s r hr
     obtain⟨q,h1,h2⟩:=good_all hlen hgood lettersE (parts_expr _ _ hrange.1 hrange.2 c12) k hk
     exact iE q k h1 h2
   ·intro p t hp hg s r hr
    rcases good_parts n p t hg with⟨k0,_,xs0⟩ | ⟨k0,hpart,hparts⟩
    ·simp only[resP,resR,k0,xs0]
     exact hr
    ·have hrange:31≤t.1.kind∧t.1.kind≤46:=by
      unfold isPartB isStmtB at hpart
      rcases hp with rfl | rfl | rfl | rfl | rfl <;> simp at hpart <;> omega
     have hp110:p≠110:=by rcases hp with rfl | rfl | rfl | rfl | rfl <;> decide
     obtain⟨hlen,hgood⟩:=hparts.resolve_left hp110
     have hE:∀(i:Nat) (q:UInt8) (k:Tr n),lettersE q→(partsI t.1.kind t.2.xs.length)[i]?=some q→t.2.xs[i]?=some k→EqE (resP bi n).1 (resR bi n).1 k:=fun i q k h1 h2 h3=>iE q k h1 (hgood i q k h2 h3)
     have hS:∀(i:Nat) (q:UInt8) (k:Tr n),lettersS q→(partsI t.1.kind t.2.xs.length)[i]?=some q→t.2.xs[i]?=some k→EqS (resP bi n).1 (resR bi n).2.1 k:=fun i q k h1 h2 h3=>iS q k h1 (hgood i q k h2 h3)
     have hB:∀(i:Nat) (q:UInt8) (k:Tr n),(q=98∨q=66)→(partsI t.1.kind t.2.xs.length)[i]?=some q→t.2.xs[i]?=some k→(ndR n k).kind≠0→∀s r,Hd s r→Eqv Core ((resP bi n).2 k s) ((resR bi n).2.2 k r):=fun i q k h1 h2 h3=>iB q k h1 (hgood i q k h2 h3)
     have hE1:∀k,t.2.xs=[k]→(∃q,lettersE q∧partsI t.1.kind 1=[q])→∀j∈t.2.xs,EqE (resP bi n).1 (resR bi n).1 j:=fun k hk ⟨q,h1,h2⟩ j hj=>by
      have h3:t.2.xs.length=1:=by rw[hk];rfl
      rw[hk] at hj
      rw[List.mem_singleton.1 hj]
      exact hE 0 q k h1 (by rw[h3,h2];rfl) (by rw[hk];rfl)
     by_cases c31:t.1.kind=31
     ·have hl1:t.2.xs.length=1:=by rw[←hlen,c31];rfl
      obtain⟨a,ha⟩:=List.length_eq_one_iff.1 hl1
      have hx:=hE1 a ha ⟨69,by unfold lettersE;decide,by rw[c31];rfl⟩
      simp only[resP,resR,c31]
      exact eqv_exprs kP kE _ hx s r hr
     by_cases c32:t.1.kind=32
     ·have hl1:t.2.xs.length=1:=by rw[←hlen,c32];rfl
      obtain⟨a,ha⟩:=List.length_eq_one_iff.1 hl1
      have hx:=hE1 a ha ⟨101,by unfold lettersE;decide,by rw[c32];rfl⟩
      simp only[resP,resR,c32]
      exact eqv_exprs kP kE _ hx s r hr
     by_cases c42:t.1.kind=42
     ·have hl1:t.2.xs.length=1:=by rw[←hlen,c42];rfl
      obtain⟨a,ha⟩:=List.length_eq_one_iff.1 hl1
      have hx:=hE1 a ha ⟨101,by unfold lettersE;decide,by rw[c42];rfl⟩
      simp only[resP,resR,c42]
      exact eqv_exprs kP kE _ hx s r hr
     by_cases c46:t.1.kind=46
     ·have hl1:t.2.xs.length=1:=by rw[←hlen,c46];rfl
      obtain⟨a,ha⟩:=List.length_eq_one_iff.1 hl1
      have hx:=hE1 a ha ⟨101,by unfold lettersE;decide,by rw[c46];rfl⟩
      simp only[resP,resR,c46]
      exact eqv_exprs kP kE _ hx s r hr
     by_cases c34:t.1.kind=34
     ·have hl1:t.2.xs.length=1:=by rw[←hlen,c34];rfl
      obtain⟨a,ha⟩:=List.length_eq_one_iff.1 hl1
      have hx:=hE1 a ha ⟨69,by unfold lettersE;decide,by rw[c34];rfl⟩
      simp only[resP,resR,c34]
      exact eqv_leave _ _ (fun k hk s r h=>(hx k hk).up kP kE s r h) s r hr
     by_cases c33:t.1.kind=33
     ·simp only[resP,resR,c33]
      refine eqv_function (ndR n) tP tR t.1 t.2.xs (fun b hb s r h => ?_) s r hr
      have hps:partsI t.1.kind t.2.xs.length=List.replicate (t.2.xs.length - 1) 110++[98]:=by rw[c33];rfl
      have hx:t.2.xs≠[]:=by intro e;rw[e] at hb;simp at hb
      have hl0:0<t.2.xs.length:=List.length_pos_iff.2 hx
      have hb1:t.2.xs[t.2.xs.length - 1]?=some b:=by rw[List.getLast?_eq_getElem?] at hb;exact hb
      have hgb:=hgood (t.2.xs.length - 1) 98 b (by rw[hps];simp) hb1
      cases n with
      | zero=>exact nomatch (b:Empty)
      | succ m =>
        refine iB 98 b (Or.inl rfl) hgb ?_ s r h
        rcases good_parts m 98 b hgb with⟨_,h1,_⟩ | ⟨h1,_,_⟩
        ·exact absurd h1 (by decide)
        ·exact h1
     by_cases c35:t.1.kind=35
     ·have hl:t.2.xs.length=3:=by rw[←hlen,c35];rfl
      simp only[resP,resR,c35]
      rw[each_cut (resP bi n).1 1]
      refine(eqv_exprs kP kE _ (fun k hk => ?_) s r hr).bind fun s1 r1 h1=>eqv_each _ (fun k hk => ?_) s1 r1 h1
      ·obtain⟨i,hi,e⟩:=List.getElem_of_mem hk
       rw[List.length_take] at hi
       have i0:i=0:=by omega
       subst i0
       rw[List.getElem_take] at e
       exact hE 0 101 k (by unfold lettersE;decide) (by rw[hl,c35];rfl) (by rw[←e];exact List.getElem?_eq_getElem _)
      ·obtain⟨i,hi,e⟩:=List.getElem_of_mem hk
       rw[List.length_drop] at hi
       rw[List.getElem_drop] at e
       rcases (show i=0∨i=1 by omega) with rfl | rfl
       ·exact hS 1 115 k (by unfold lettersS;decide) (by rw[hl,c35];rfl) (by rw[←e];exact List.getElem?_eq_getElem _)
       ·exact hS 2 83 k (by unfold lettersS;decide) (by rw[hl,c35];rfl) (by rw[←e];exact List.getElem?_eq_getElem _)
     by_cases c36:t.1.kind=36
     ·have hl:t.2.xs.length=2:=by rw[←hlen,c36];rfl
      simp only[resP,resR,c36]
      have hcut:t.2.xs=t.2.xs.dropLast++t.2.xs.drop (t.2.xs.length - 1):=by
       rw[List.dropLast_eq_take,List.take_append_drop]
      have q:=eqv_while kP kE kS t.2.xs.dropLast (t.2.xs.drop (t.2.xs.length - 1)) (fun k hk => ?_) (fun k hk => ?_) s r hr
      ·rw[←hcut] at q
       exact q
      ·obtain⟨i,hi,e⟩:=List.getElem_of_mem hk
       rw[List.length_dropLast] at hi
       rw[List.getElem_dropLast] at e
       rcases (show i=0 by omega) with rfl
       exact hE 0 101 k (by unfold lettersE;decide) (by rw[hl,c36];rfl) (by rw[←e];exact List.getElem?_eq_getElem _)
      ·obtain⟨i,hi,e⟩:=List.getElem_of_mem hk
       rw[List.length_drop] at hi
       rw[List.getElem_drop] at e
       have i0:i=0:=by omega
       subst i0
       refine hS 1 115 k (by unfold lettersS;decide) (by rw[hl,c36];rfl) ?_
       have e2:t.2.xs[t.2.xs.length - 1+0]?=some k:=by rw[←e];exact List.getElem?_eq_getElem _
       rw[show t.2.xs.length - 1+0=1 by omega] at e2
       exact e2
     by_cases c37:t.1.kind=37
     ·have hl:t.2.xs.length=4:=by rw[←hlen,c37];rfl
      simp only[resP,resR,c37]
      have hcut:t.2.xs=t.2.xs.dropLast++t.2.xs.drop (t.2.xs.length - 1):=by
       rw[List.dropLast_eq_take,List.take_append_drop]
      have q:=eqv_while kP kE kS t.2.xs.dropLast (t.2.xs.drop (t.2.xs.length - 1)) (fun k hk => ?_) (fun k hk => ?_) s r hr
      ·rw[←hcut] at q
       exact q
      ·obtain⟨i,hi,e⟩:=List.getElem_of_mem hk
       rw[List.length_dropLast] at hi
       rw[List.getElem_dropLast] at e
       rcases (show i=0∨i=1∨i=2 by omega) with rfl | rfl | rfl
       ·exact hE 0 69 k (by unfold lettersE;decide) (by rw[hl,c37];rfl) (by rw[←e];exact List.getElem?_eq_getElem _)
       ·exact hE 1 69 k (by unfold lettersE;decide) (by rw[hl,c37];rfl) (by rw[←e];exact List.getElem?_eq_getElem _)
       ·exact hE 2 69 k (by unfold lettersE;decide) (by rw[hl,c37];rfl) (by rw[←e];exact List.getElem?_eq_getElem _)
      ·obtain⟨i,hi,e⟩:=List.getElem_of_mem hk
       rw[List.length_drop] at hi
       rw[List.getElem_drop] at e
       have i0:i=0:=by omega
       subst i0
       refine hS 3 115 k (by unfold lettersS;decide) (by rw[hl,c37];rfl) ?_
       have e2:t.2.xs[t.2.xs.length - 1+0]?=some k:=by rw[←e];exact List.getElem?_eq_getElem _
       rw[show t.2.xs.length - 1+0=3 by omega] at e2
       exact e2
     by_cases c38:t.1.kind=38
     ·have hl:t.2.xs.length=2:=by rw[←hlen,c38];rfl
      simp only[resP,resR,c38]
      refine eqv_for kP kE kS t.1 t.2.xs (fun k hk => ?_) (fun k hk => ?_) s r hr
      ·obtain⟨i,hi,e⟩:=List.getElem_of_mem hk
       rw[List.length_take] at hi
       have i0:i=0:=by omega
       subst i0
       rw[List.getElem_take] at e
       exact hE 0 101 k (by unfold lettersE;decide) (by rw[hl,c38];rfl) (by rw[←e];exact List.getElem?_eq_getElem _)
      ·obtain⟨i,hi,e⟩:=List.getElem_of_mem hk
       rw[List.length_drop] at hi
       rw[List.getElem_drop] at e
       have i0:i=0:=by omega
       subst i0
       exact hS 1 115 k (by unfold lettersS;decide) (by rw[hl,c38];rfl) (by rw[←e];exact List.getElem?_eq_getElem _)
     by_cases c39:t.1.kind=39
     ·simp only[resP,resR,c39]
      exact eqv_jump _ s r hr
     by_cases c40:t.1.kind=40
     ·simp only[resP,resR,c40]
      exact eqv_jump _ s r hr
     by_cases c41:t.1.kind=41
     ·have hl:t.2.xs.length=1:=by rw[←hlen,c41];rfl
      simp only[resP,resR,c41]
      refine eqv_label t.1 _ t.2.xs (fun k hk => ?_) s r hr
      obtain⟨a,ha⟩:=List.length_eq_one_iff.1 hl
      rw[ha] at hk
      rw[List.mem_singleton.1 hk]
      exact hS 0 115 a (by unfold lettersS;decide) (by rw[hl,c41];rfl) (by rw[ha];rfl)
     by_cases c43:t.1.kind=43
     ·have hl:t.2.xs.length=3:=by rw[←hlen,c43];rfl
      simp only[resP,resR,c43]
      unfold tryP
      refine(eqv_each _ (fun k hk => ?_) s r hr).bind fun s1 r1 h1=>(eqv_catch (ndR n) tP tR t.1 _ (fun k hk h0 => ?_) s1 r1 h1).bind fun s2 r2 h2=>eqv_each _ (fun k hk => ?_) s2 r2 h2
      ·obtain⟨i,hi,e⟩:=List.getElem_of_mem hk
       rw[List.length_take] at hi
       have i0:i=0:=by omega
       subst i0
       rw[List.getElem_take] at e
       exact hS 0 98 k (by unfold lettersS;decide) (by rw[hl,c43];rfl) (by rw[←e];exact List.getElem?_eq_getElem _)
      ·exact hB 1 66 k (Or.inr rfl) (by rw[hl,c43];rfl) hk h0
      ·obtain⟨i,hi,e⟩:=List.getElem_of_mem hk
       rw[List.length_drop] at hi
       rw[List.getElem_drop] at e
       have i0:i=0:=by omega
       subst i0
       exact hS 2 66 k (by unfold lettersS;decide) (by rw[hl,c43];rfl) (by rw[←e];exact List.getElem?_eq_getElem _)
     by_cases c44:t.1.kind=44
     ·simp only[resP,resR,c44]
      refine eqv_block (ndR n) kP kS t.2.xs (fun k hk => ?_) s r hr
      obtain⟨q,h1,h2⟩:=good_all hlen hgood (fun q=>q=105) (by rw[c44];intro q hq;exact(List.mem_replicate.1 hq).2) k hk
      exact iS q k (by rw[h1];unfold lettersS;decide) h2
     have c45:t.1.kind=45:=by omega
     have hl:t.2.xs=[]:=List.length_eq_zero_iff.1 (by rw[←hlen,c45];rfl)
     simp only[resP,resR,c45,hl]
     exact hr
   ·intro p t hp hg hk s r h
    rcases good_parts n p t hg with⟨k0,_,_⟩ | ⟨k0,hpart,hparts⟩
    ·exact absurd k0 hk
    ·have c44:t.1.kind=44:=by
      unfold isPartB at hpart
      rcases hp with rfl | rfl <;> simpa using hpart
     have hp110:p≠110:=by rcases hp with rfl | rfl <;> decide
     obtain⟨hlen,hgood⟩:=hparts.resolve_left hp110
     simp only[resP,resR]
     refine(eqv_items (ndR n) t.2.xs (fun k hk => ?_) s r h).mono fun s' r' _ _ q=>q.core
     obtain⟨q,h1,h2⟩:=good_all hlen hgood (fun q=>q=105) (by rw[c44];intro q hq;exact(List.mem_replicate.1 hq).2) k hk
     exact iS q k (by rw[h1];unfold lettersS;decide) h2
theorem resolve_eq (bi:ByteArray→Bool)(n:Nat)(t:Tr (n+1))(hl:(partsI 47 t.2.xs.length).length=t.2.xs.length)(hg:∀(i:Nat)(q:UInt8)(k:Tr n),(partsI 47 t.2.xs.length)[i]?=some q→t.2.xs[i]?=some k→Good n q k) :
  Eqv Core (resolveP bi (n+1) t) (resolveR bi (n+1) t):=by
 obtain⟨iE,iS,iB⟩:=main_eq bi n
 show Eqv Core (blockP (ndR n) (resP bi n).1 t.2.xs (startP t.1.pl)) (itemsP (ndR n) (resR bi n).2.1 t.2.xs (openP (startP t.1.pl)))
 have h0:Rl true (startP t.1.pl) (startP t.1.pl):=⟨⟨rfl,rfl,rfl,rfl⟩,rfl,fun _=>⟨rfl,rfl⟩⟩
 have hk:∀k∈t.2.xs,EqS (resP bi n).1 (resR bi n).2.1 k:=fun k hk=>by
  obtain⟨q,h1,h2⟩:=good_all hl hg (fun q=>q=105) (by intro q hq;exact(List.mem_replicate.1 hq).2) k hk
  exact iS q k (by rw[h1];unfold lettersS;decide) h2
 have q:=eqv_items (ndR n) t.2.xs (fun k hk'=>hk k hk') _ _ h0.open'
 have e:∀(a b:Except Er RS),Eqv (Rl true) a b→Eqv Core (a.bind fun s => .ok (shutP s)) b:=fun a b h=>by
  cases a with
  | error e=>cases b with
    | error e'=>exact h
    | ok r=>exact h.elim
  | ok s=>cases b with
    | error e'=>exact h.elim
    | ok r=>exact⟨h.core.scopes,h.core.vars,h.core.uses,h.core.fn⟩
 exact e _ _ q
end Go.Proofs.YtihmdcdifakepaaGreat.Rz
