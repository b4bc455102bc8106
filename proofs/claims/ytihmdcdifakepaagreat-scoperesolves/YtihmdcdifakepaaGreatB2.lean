/- SC, SD -/
import Derived.Test.YtihmdcdifakepaaGreatB1
set_option linter.unusedVariables false
set_option linter.unusedSimpArgs false
set_option maxRecDepth 100000
set_option maxHeartbeats 40000000
namespace Go.Proofs.YtihmdcdifakepaaGreat.Sc
section
variable {α:Type}{K:Kid α}{f:UInt8→α→Bool→St→Option St}{g:Nat→α→Bool→RS→RS}
theorem fold_none (h:α→RS→RS)(hn:∀k,h k none=none)(xs:List α):foldR h xs none=none:=by
 induction xs with
 | nil=>rfl
 | cons k ks ih=>rw[foldR,hn,ih]
theorem here_some (x:Nd)(xs:List α)(gen:Bool)(a:St)(h3:x.kind≠3)(h17:x.kind≠17)(h22:x.kind≠22)(h43:x.kind≠43)(hd:declB K x xs=false):hereP K x xs gen a=some a:=by
 unfold hereP
 rw[if_neg h3,if_neg h17,if_neg h22,if_neg (fun q=>h43 q.1),if_neg (by rw[hd];simp)]
theorem here_take (x:Nd)(xs:List α)(gen:Bool)(a:St)(h3:x.kind≠3)(h17:x.kind≠17)(h22:x.kind≠22)(h43:x.kind≠43)(hd:declB K x xs=true):hereP K x xs gen a=takeD a x.pl:=by
 unfold hereP
 rw[if_neg h3,if_neg h17,if_neg h22,if_neg (fun q=>h43 q.1),if_pos hd]
theorem decl_no (x:Nd)(xs:List α)(h1:x.kind<31)(h2:x.kind≠12):declB K x xs=false:=by
 unfold declB selfB
 rw[if_neg (by omega),if_neg (by omega)]
 simp
 omega
theorem start_some (x:Nd)(xs:List α)(gen:Bool)(s:St)(h3:x.kind≠3)(h17:x.kind≠17)(h21:x.kind≠21)(h22:x.kind≠22):startR K x xs gen s=some s:=by
 unfold startR
 rw[if_neg (by omega),if_neg (by omega),if_neg h3]
theorem term_leaf (x:Nd)(xs:List α)(gen:Bool)(h1:1≤x.kind)(h8:x.kind≤8):Mt (rightP K f x xs gen) (termR K g x xs gen):=by
 refine Mt.unbound fun a b e => ?_
 have hp:partsI x.kind xs.length=[]:=by
  unfold partsI
  repeat rw[if_neg (by omega)]
 have ho:rightOpB x=true:=by
  unfold rightOpB
  repeat rw[if_neg (by omega)]
 have hs:shapeR x=(0,0,true):=by unfold shapeR;rw[if_pos ⟨h1,h8⟩]
 rw[if_neg (by omega),hs]
 cases xs with
 | cons k ks =>
   rw[right_len _ _ _ (by rw[hp];simp),if_pos (by simp)]
   trivial
 | nil =>
   rw[if_neg (by simp),right_at _ _ _ (by rw[hp];rfl) ho,hp]
   by_cases c:x.kind=3
   ·have e2:startR K x ([]:List α) gen b=useR x.pl (some b):=by unfold startR;rw[if_neg (by omega),if_neg (by omega),if_pos c]
    rw[e2]
    have e1:hereP K x ([]:List α) gen a=takeU a x.pl:=by unfold hereP;rw[if_pos c]
    rw[e1]
    have:=(Mt.use x.pl).comp Mt.id |>.eqv a b e
    simpa [kidsP,foldR] using this
   ·rw[start_some x _ gen b c (by omega) (by omega) (by omega),here_some x [] gen a c (by omega) (by omega) (by omega) (decl_no _ _ (by omega) (by omega))]
    exact e
theorem term_many (h:Ok K f g)(x:Nd)(xs:List α)(gen:Bool)(hx:x.kind=9∨x.kind=14∨x.kind=15):Mt (rightP K f x xs gen) (termR K g x xs gen):=by
 refine Mt.unbound fun a b e => ?_
 have ho:rightOpB x=true:=by
  unfold rightOpB
  repeat rw[if_neg (by omega)]
 have hf:isFnB x=false:=by unfold isFnB;simp;omega
 rw[if_neg (by omega)]
 rcases hx with c | c
 ·have hp:partsI x.kind xs.length=List.replicate xs.length 101:=by unfold partsI;rw[if_pos c]
  have hs:shapeR x=(0,-1,true):=by unfold shapeR;rw[if_neg (by omega),if_pos (by omega)]
  rw[hs,if_neg (by simp <;> omega),right_at _ _ _ (by rw[hp];simp) ho,hp,here_some x xs gen a (by omega) (by omega) (by omega) (by omega) (decl_no _ _ (by omega) (by omega)),hf]
  rw[start_some x _ gen b (by omega) (by omega) (by omega) (by omega)]
  have m:=(mt_many (f:=f) 101 (termKidR g x gen) gen (fun k=>(h.term k gen).congr (fun _=>rfl) (fun st=>by unfold termKidR;rw[if_neg (by omega),if_neg (by omega)])) xs).eqv a b e
  exact m
 ·have hs:shapeR x=(1,-1,true):=by unfold shapeR;rw[if_neg (by omega),if_neg (by omega),if_neg (by omega),if_pos c]
  have hp:partsI x.kind xs.length=List.replicate (max xs.length 1) 101:=by unfold partsI;rw[if_neg (by omega),if_pos c]
  rw[hs]
  cases xs with
  | nil=>rw[right_len _ _ _ (by rw[hp];simp),if_pos (by simp)];trivial
  | cons k ks =>
    have hq:max (k :: ks).length 1=(k :: ks).length:=by simp
    rw[hq] at hp
    rw[if_neg (by simp <;> omega),right_at _ _ _ (by rw[hp];simp) ho,hp,here_some x _ gen a (by omega) (by omega) (by omega) (by omega) (decl_no _ _ (by omega) (by omega)),hf]
    rw[start_some x _ gen b (by omega) (by omega) (by omega) (by omega)]
    have m:=(mt_many (f:=f) 101 (termKidR g x gen) gen (fun k=>(h.term k gen).congr (fun _=>rfl) (fun st=>by unfold termKidR;rw[if_neg (by omega),if_neg (by omega)])) (k :: ks)).eqv a b e
    exact m
theorem term_object (h:Ok K f g)(x:Nd)(xs:List α)(gen:Bool)(c:x.kind=10):Mt (rightP K f x xs gen) (termR K g x xs gen):=by
 refine Mt.unbound fun a b e => ?_
 have ho:rightOpB x=true:=by
  unfold rightOpB
  repeat rw[if_neg (by omega)]
 have hf:isFnB x=false:=by unfold isFnB;simp;omega
 rw[if_neg (by omega)]
 have hp:partsI x.kind xs.length=List.replicate xs.length 112:=by unfold partsI;rw[if_neg (by omega),if_neg (by omega),if_pos c]
 have hs:shapeR x=(0,-1,true):=by unfold shapeR;rw[if_neg (by omega),if_pos (by omega)]
 rw[hs,if_neg (by simp <;> omega),right_at _ _ _ (by rw[hp];simp) ho,hp,here_some x xs gen a (by omega) (by omega) (by omega) (by omega) (decl_no _ _ (by omega) (by omega)),hf]
 rw[start_some x _ gen b (by omega) (by omega) (by omega) (by omega)]
 exact(mt_many (f:=f) 112 (termKidR g x gen) gen (fun k=>(h.prop k gen).congr (fun _=>rfl) (fun st=>by unfold termKidR;rw[if_pos c])) xs).eqv a b e
theorem term_few (h:Ok K f g)(x:Nd)(xs:List α)(gen:Bool)(m:Nat)(ok:Bool)(hne:x.kind≠12∧x.kind≠17∧x.kind≠22∧x.kind≠21∧x.kind≠3∧x.kind≠43∧x.kind≠10∧x.kind≤22)
  (hp:partsI x.kind xs.length=List.replicate m 101) (hs:shapeR x=((m:Int),(m:Int),ok)) (ho:rightOpB x=ok):Mt (rightP K f x xs gen) (termR K g x xs gen):=by
 refine Mt.unbound fun a b e => ?_
 have hf:isFnB x=false:=by unfold isFnB;simp;omega
 rw[if_neg hne.1,hs]
 by_cases hl:xs.length=m
 ·cases ok with
  | false=>rw[right_op _ _ _ ho,if_pos (Or.inl rfl)];trivial
  | true =>
    rw[if_neg (by simp <;> omega),right_at _ _ _ (by rw[hp];simp[hl]) ho,hp,here_some x xs gen a (by omega) (by omega) (by omega) (by omega) (decl_no _ _ (by omega) (by omega)),hf]
    rw[start_some x _ gen b (by omega) (by omega) (by omega) (by omega),←hl]
    exact(mt_many (f:=f) 101 (termKidR g x gen) gen (fun k=>(h.term k gen).congr (fun _=>rfl) (fun st=>by unfold termKidR;rw[if_neg (by omega),if_neg (by omega)])) xs).eqv a b e
 ·rw[right_len _ _ _ (by rw[hp];simp;omega),if_pos (by right;simp;omega)]
  trivial
theorem term_update (h:Ok K f g)(x:Nd)(xs:List α)(gen:Bool)(c:x.kind=17):Mt (rightP K f x xs gen) (termR K g x xs gen):=by
 refine Mt.unbound fun a b e => ?_
 have hf:isFnB x=false:=by unfold isFnB;simp;omega
 have hp:partsI x.kind xs.length=[103]:=by unfold partsI;simp[c]
 have hs:shapeR x=(1,1,oneB x.op updateL):=by unfold shapeR;simp[c]
 have hr:rightOpB x=oneB x.op updateL:=by unfold rightOpB;simp[c]
 rw[if_neg (by omega),hs]
 rcases xs with _ | ⟨k,_ | ⟨k2,ks⟩⟩
 ·rw[right_len _ _ _ (by rw[hp];simp),if_pos (by simp)];trivial
 ·cases ho:oneB x.op updateL with
  | false=>rw[right_op _ _ _ (hr.trans ho),if_pos (Or.inl rfl)];trivial
  | true =>
    rw[if_neg (by simp),right_at _ _ _ (by rw[hp];simp) (hr.trans ho),hp,hf]
    have e1:hereP K x [k] gen a=if (isS x.name preS || isS x.name postS)=true then some a else none:=by unfold hereP;rw[if_neg (by omega),if_pos c]
    rw[e1]
    cases q:(isS x.name preS || isS x.name postS) with
    | false =>
      simp at q
      have e2:startR K x [k] gen b=none:=by unfold startR;rw[if_pos (Or.inl ⟨c,q.1,q.2⟩)]
      rw[e2]
      simp[foldR,termKidR,c,(h.term k gen).nil,Eqv]
    | true =>
      have q2:¬(isS x.name preS=false∧isS x.name postS=false):=by
       intro z;rw[z.1,z.2] at q;simp at q
      have e2:startR K x [k] gen b=if K.kd k≠3∧K.kd k≠13 then none else some b:=by
       unfold startR
       rw[if_neg (by rintro(z | z);exact q2 z.2;omega),if_neg (show ¬x.kind=3 by omega)]
       by_cases z:K.kd k≠3∧K.kd k≠13
       ·rw[if_pos z,if_pos ⟨Or.inl c,z⟩]
       ·rw[if_neg z,if_neg (fun y=>z y.2)]
      rw[e2]
      have m:=((h.given k gen).comp Mt.id).eqv a b e
      by_cases z:K.kd k≠3∧K.kd k≠13
      ·simp only[if_pos z] at m ⊢
       simp[foldR,termKidR,c,(h.term k gen).nil]
       simpa [kidsP] using m
      ·simp only[if_neg z] at m ⊢
       simp[foldR,termKidR,c]
       simpa [kidsP] using m
 ·rw[right_len _ _ _ (by rw[hp];simp),if_pos (by right;simp;omega)];trivial
theorem term_assign (h:Ok K f g)(x:Nd)(xs:List α)(gen:Bool)(c:x.kind=21):Mt (rightP K f x xs gen) (termR K g x xs gen):=by
 refine Mt.unbound fun a b e => ?_
 have hf:isFnB x=false:=by unfold isFnB;simp;omega
 have hp:partsI x.kind xs.length=[103,101]:=by unfold partsI;simp[c]
 have hs:shapeR x=(2,2,oneB x.op assignL):=by unfold shapeR;simp[c]
 have hr:rightOpB x=oneB x.op assignL:=by unfold rightOpB;simp[c]
 rw[if_neg (by omega),hs]
 rcases xs with _ | ⟨k,_ | ⟨k2,_ | ⟨k3,ks⟩⟩⟩
 ·rw[right_len _ _ _ (by rw[hp];simp),if_pos (by simp)];trivial
 ·rw[right_len _ _ _ (by rw[hp];simp),if_pos (by simp)];trivial
 ·cases ho:oneB x.op assignL with
  | false=>rw[right_op _ _ _ (hr.trans ho),if_pos (Or.inl rfl)];trivial
  | true =>
    rw[if_neg (by simp),right_at _ _ _ (by rw[hp];simp) (hr.trans ho),hp,hf]
    rw[here_some x _ gen a (by omega) (by omega) (by omega) (by omega) (decl_no _ _ (by omega) (by omega))]
    have e2:startR K x [k,k2] gen b=if K.kd k≠3∧K.kd k≠13 then none else some b:=by
     unfold startR
     rw[if_neg (by omega),if_neg (show ¬x.kind=3 by omega)]
     by_cases z:K.kd k≠3∧K.kd k≠13
     ·rw[if_pos z,if_pos ⟨Or.inr c,z⟩]
     ·rw[if_neg z,if_neg (fun y=>z y.2)]
    rw[e2]
    have m:=((h.given k gen).comp ((h.term k2 gen).comp Mt.id)).eqv a b e
    by_cases z:K.kd k≠3∧K.kd k≠13
    ·simp only[if_pos z] at m ⊢
     simp[foldR,termKidR,c,(h.term k gen).nil,(h.term k2 gen).nil]
     rw[(h.term k2 gen).nil] at m
     simpa [kidsP] using m
    ·simp only[if_neg z] at m ⊢
     simp[foldR,termKidR,c]
     simpa [kidsP] using m
 ·rw[right_len _ _ _ (by rw[hp];simp),if_pos (by right;simp;omega)];trivial
theorem term_yield (h:Ok K f g)(x:Nd)(xs:List α)(gen:Bool)(c:x.kind=22):Mt (rightP K f x xs gen) (termR K g x xs gen):=by
 refine Mt.unbound fun a b e => ?_
 have hf:isFnB x=false:=by unfold isFnB;simp;omega
 have hp:partsI x.kind xs.length=[69]:=by unfold partsI;simp[c]
 have hs:shapeR x=(1,1,true):=by unfold shapeR;simp[c]
 have hr:rightOpB x=true:=by unfold rightOpB;simp[c]
 rw[if_neg (by omega),hs]
 rcases xs with _ | ⟨k,_ | ⟨k2,ks⟩⟩
 ·rw[right_len _ _ _ (by rw[hp];simp),if_pos (by simp)];trivial
 ·rw[if_neg (by simp),right_at _ _ _ (by rw[hp];simp) hr,hp,hf]
  have e1:hereP K x [k] gen a=if gen=true then some a else none:=by unfold hereP;rw[if_neg (by omega),if_neg (by omega),if_pos c]
  rw[e1]
  cases gen with
  | false =>
    have e2:startR K x [k] false b=none:=by unfold startR;rw[if_pos (Or.inr ⟨c,rfl⟩)]
    rw[e2]
    simp[foldR,termKidR,c,(h.perh k false).nil,Eqv]
  | true =>
    have e2:startR K x [k] true b=some b:=by unfold startR;rw[if_neg (by rintro(z | z);exact absurd z.1 (by omega);exact absurd z.2 (by simp)),if_neg (by omega),if_neg (by omega)]
    rw[e2]
    have m:=((h.perh k true).comp Mt.id).eqv a b e
    simp[foldR,termKidR,c]
    simpa [kidsP] using m
 ·rw[right_len _ _ _ (by rw[hp];simp),if_pos (by right;simp;omega)];trivial
theorem right_cond (x:Nd)(xs:List α)(gen:Bool)(H:St→Option St)(hh:∀a,hereP K x xs gen a=H a)(a:St) :
  rightP K f x xs gen a=(H a).bind (fun st=>if (partsI x.kind xs.length).length≠xs.length then none else if rightOpB x=false then none else kidsP f (if isFnB x=true then isS x.op [42] else gen) (partsI x.kind xs.length) xs st):=by
 unfold rightP
 rw[hh]
 by_cases c:(partsI x.kind xs.length).length≠xs.length
 ·simp only[if_pos c];cases H a <;> rfl
 ·simp only[if_neg c]
  by_cases d:rightOpB x=false
  ·simp only[if_pos d];cases H a <;> rfl
  ·simp only[if_neg d]
theorem term_fn (h:Ok K f g)(x:Nd)(xs:List α)(gen:Bool)(c:x.kind=12):Mt (rightP K f x xs gen) (termR K g x xs gen):=by
 cases q:isS x.name [] with
 | true =>
   have m:=Mt.id.comp (mt_funct h x xs (Or.inl c) gen)
   refine Mt.unbound fun a b e => ?_
   rw[if_pos c,q,if_neg (by simp),right_cond x xs gen some (fun a=>here_some x xs gen a (by omega) (by omega) (by omega) (by omega) (by unfold declB selfB;rw[if_neg (by omega),if_neg (by omega)];simp[q]))]
   exact m.eqv a b e
 | false =>
   have m:=(Mt.dec x.pl).comp (mt_funct h x xs (Or.inl c) gen)
   refine Mt.unbound fun a b e => ?_
   rw[if_pos c,q,if_pos rfl,right_cond x xs gen (fun a=>takeD a x.pl) (fun a=>here_take x xs gen a (by omega) (by omega) (by omega) (by omega) (by unfold declB selfB;rw[if_neg (by omega),if_neg (by omega)];simp[q,c]))]
   exact m.eqv a b e
theorem mt_term (h:Ok K f g)(x:Nd)(xs:List α)(gen:Bool)(hx:isExprB x.kind=true):Mt (rightP K f x xs gen) (termR K g x xs gen):=by
 unfold isExprB at hx
 simp at hx
 obtain⟨⟨h1,h2⟩,h3⟩:=hx
 have:(1≤x.kind∧x.kind≤8)∨(x.kind=9∨x.kind=14∨x.kind=15)∨x.kind=10∨x.kind=12∨x.kind=13∨x.kind=16∨x.kind=17∨x.kind=18∨x.kind=19∨x.kind=20∨x.kind=21∨x.kind=22:=by omega
 rcases this with c | c | c | c | c | c | c | c | c | c | c | c
 ·exact term_leaf x xs gen c.1 c.2
 ·exact term_many h x xs gen c
 ·exact term_object h x xs gen c
 ·exact term_fn h x xs gen c
 ·exact term_few h x xs gen 2 true (by omega) (by unfold partsI;simp[c] <;> rfl) (by unfold shapeR;simp[c]) (by unfold rightOpB;simp[c])
 ·exact term_few h x xs gen 1 _ (by omega) (by unfold partsI;simp[c] <;> rfl) (by unfold shapeR;simp[c] <;> rfl) (by unfold rightOpB;simp[c])
 ·exact term_update h x xs gen c
 ·exact term_few h x xs gen 2 _ (by omega) (by unfold partsI;simp[c] <;> rfl) (by unfold shapeR;simp[c] <;> rfl) (by unfold rightOpB;simp[c] <;> exact oneB_perm _)
 ·exact term_few h x xs gen 2 _ (by omega) (by unfold partsI;simp[c] <;> rfl) (by unfold shapeR;simp[c] <;> rfl) (by unfold rightOpB;simp[c])
 ·exact term_few h x xs gen 3 true (by omega) (by unfold partsI;simp[c] <;> rfl) (by unfold shapeR;simp[c]) (by unfold rightOpB;simp[c])
 ·exact term_assign h x xs gen c
 ·exact term_yield h x xs gen c
theorem term_not (x:Nd)(xs:List α)(gen:Bool)(hx:isExprB x.kind=false)(st:RS):termR K g x xs gen st=none:=by
 unfold isExprB at hx
 simp at hx
 cases st with
 | none=>rfl
 | some b =>
   show(if _ then _ else _)=_
   have hs:shapeR x=(1,0,true):=by
    unfold shapeR
    repeat rw[if_neg (by intro q;omega)]
   rw[if_neg (by intro q;omega),hs,if_pos (by right;simp;omega)]
end
section
variable {α:Type}{K:Kid α}{f:UInt8→α→Bool→St→Option St}{g:Nat→α→Bool→RS→RS}
theorem block_many (h:Ok K f g)(x:Nd)(xs:List α)(gen:Bool)(c:x.kind=44∨x.kind=47):Mt (rightP K f x xs gen) (bodyR g xs gen):=by
 have ho:rightOpB x=true:=by
  unfold rightOpB
  repeat rw[if_neg (by omega)]
 have hf:isFnB x=false:=by unfold isFnB;simp;omega
 have hp:partsI x.kind xs.length=List.replicate xs.length 105:=by unfold partsI;rw[if_neg (by omega),if_neg (by omega),if_neg (by omega),if_pos c]
 refine(mt_many (f:=f) 105 (fun k st=>g 3 k gen st) gen (fun k=>h.item k gen) xs).congr (fun a => ?_) (fun st=>rfl)
 rw[right_at _ _ _ (by rw[hp];simp) ho,hp,here_some x xs gen a (by omega) (by omega) (by omega) (by omega) (by unfold declB selfB;rw[if_neg (by omega),if_neg (by omega)];simp;omega),hf]
 rfl
theorem few_at (x:Nd)(xs:List α)(gen:Bool)(ps:List UInt8)(a:St)(hn:34≤x.kind∧x.kind≤46∧x.kind≠38∧x.kind≠43)(hp:partsI x.kind xs.length=ps) :
  rightP K f x xs gen a=if ps.length≠xs.length then none else kidsP f gen ps xs a:=by
 have ho:rightOpB x=true:=by
  unfold rightOpB
  repeat rw[if_neg (by omega)]
 have hf:isFnB x=false:=by unfold isFnB;simp;omega
 by_cases c:ps.length≠xs.length
 ·rw[if_pos c,right_len _ _ _ (by rw[hp];exact c)]
 ·rw[if_neg c,right_at _ _ _ (by rw[hp];simpa using c) ho,hp,here_some x xs gen a (by omega) (by omega) (by omega) (by omega) (by unfold declB selfB;rw[if_neg (by omega),if_neg (by omega)];simp;omega),hf]
  rfl
theorem kid_or (tag:Nat)(xs:List α)(i:Nat)(k:α)(hk:xs[i]?=some k)(gen:Bool)(st:RS) :
  orR K g tag xs i gen st=(if K.kd k≠0 then g tag k gen st else if 0<K.nk k then none else st):=by
 have e:kd0 K xs i=K.kd k:=by unfold kd0;rw[hk];rfl
 unfold orR kidR emptyK
 rw[e,hk]
theorem mt_single (h:Ok K f g)(x:Nd)(xs:List α)(gen:Bool)(hx:isStmtB x.kind=true):Mt (rightP K f x xs gen) (singleR K g x xs gen):=by
 unfold isStmtB at hx
 simp at hx
 obtain⟨h1,h2⟩:=hx
 by_cases c44:x.kind=44
 ·refine(block_many h x xs gen (Or.inl c44)).bound (fun b => ?_)
  rw[if_pos c44]
 refine Mt.unbound fun a b e => ?_
 rw[if_neg c44]
 have:x.kind=34∨x.kind=35∨x.kind=36∨x.kind=37∨x.kind=38∨(x.kind=39∨x.kind=40∨x.kind=45)∨x.kind=41∨(x.kind=42∨x.kind=46)∨x.kind=43:=by omega
 rcases this with c | c | c | c | c | c | c | c | c
 ·rw[few_at x xs gen [69] a (by omega) (by unfold partsI;simp[c])]
  have hk:kidsR x.kind=1:=by unfold kidsR;simp[c]
  rw[hk]
  rcases xs with _ | ⟨k,_ | ⟨k2,ks⟩⟩
  ·simp[Eqv]
  ·rw[if_neg (by simp),if_neg (by simp),if_pos c]
   exact((h.perh k gen).comp Mt.id).eqv a b e
  ·rw[if_pos (by simp),if_pos (by simp;omega)]
   trivial
 ·rw[few_at x xs gen [101,115,83] a (by omega) (by unfold partsI;simp[c])]
  have hk:kidsR x.kind=3:=by unfold kidsR;simp[c]
  rw[hk]
  rcases xs with _ | ⟨k,_ | ⟨k2,_ | ⟨k3,_ | ⟨k4,ks⟩⟩⟩⟩
  ·simp[Eqv]
  ·simp[Eqv]
  ·simp[Eqv]
  ·rw[if_neg (by simp),if_neg (by simp)]
   simp only[c,Int.reduceEq,if_false,if_true,or_self]
   rw[kid_or 5 _ 2 k3 rfl]
   exact((h.term k gen).comp ((h.sing k2 gen).comp ((h.singE k3 gen).comp Mt.id))).eqv a b e
  ·rw[if_pos (by simp),if_pos (by simp;omega)]
   trivial
 ·rw[few_at x xs gen [101,115] a (by omega) (by unfold partsI;simp[c])]
  have hk:kidsR x.kind=2:=by unfold kidsR;simp[c]
  rw[hk]
  rcases xs with _ | ⟨k,_ | ⟨k2,_ | ⟨k3,ks⟩⟩⟩
  ·simp[Eqv]
  ·simp[Eqv]
  ·rw[if_neg (by simp),if_neg (by simp)]
   simp only[c,Int.reduceEq,if_false,if_true,or_self]
   exact((h.term k gen).comp ((h.sing k2 gen).comp Mt.id)).eqv a b e
  ·rw[if_pos (by simp),if_pos (by simp;omega)]
   trivial
 ·rw[few_at x xs gen [69,69,69,115] a (by omega) (by unfold partsI;simp[c])]
  have hk:kidsR x.kind=4:=by unfold kidsR;simp[c]
  rw[hk]
  rcases xs with _ | ⟨k,_ | ⟨k2,_ | ⟨k3,_ | ⟨k4,_ | ⟨k5,ks⟩⟩⟩⟩⟩
  ·simp[Eqv]
  ·simp[Eqv]
  ·simp[Eqv]
  ·simp[Eqv]
  ·rw[if_neg (by simp),if_neg (by simp)]
   simp only[c,Int.reduceEq,if_false,if_true,or_self]
   exact((h.perh k gen).comp ((h.perh k2 gen).comp ((h.perh k3 gen).comp ((h.sing k4 gen).comp Mt.id)))).eqv a b e
  ·rw[if_pos (by simp),if_pos (by simp;omega)]
   trivial
 ·have hp:partsI x.kind xs.length=[101,115]:=by unfold partsI;simp[c]
  have hk:kidsR x.kind=2:=by unfold kidsR;simp[c]
  have hr:rightOpB x=oneB x.op ofL:=by unfold rightOpB;simp[c]
  have hf:isFnB x=false:=by unfold isFnB;simp;omega
  rw[hk]
  rcases xs with _ | ⟨k,_ | ⟨k2,_ | ⟨k3,ks⟩⟩⟩
  ·rw[right_len _ _ _ (by rw[hp];simp)];simp[Eqv]
  ·rw[right_len _ _ _ (by rw[hp];simp)];simp[Eqv]
  ·rw[if_neg (by simp)]
   simp only[c,Int.reduceEq,if_false,if_true,or_self]
   have ho:oneB x.op ofL=(isS x.op [108,101,116] || isS x.op [99,111,110,115,116]):=by
    unfold oneB ofL isS
    simp[List.contains,List.elem]
    cases (x.op.toList == [108,101,116]) <;> cases (x.op.toList == [99,111,110,115,116]) <;> rfl
   cases q:oneB x.op ofL with
   | false =>
     rw[right_op _ _ _ (hr.trans q)]
     rw[ho] at q
     simp at q
     rw[if_pos q]
     show Eqv none (g 5 k2 gen (g 0 k gen none))
     rw[(h.term k gen).nil,(h.sing k2 gen).nil]
     trivial
   | true =>
     rw[right_at _ _ _ (by rw[hp];simp) (hr.trans q),hp,hf,here_take x _ gen a (by omega) (by omega) (by omega) (by omega) (by unfold declB;rw[if_pos (by omega)])]
     rw[ho] at q
     have z:¬(isS x.op [108,101,116]=false∧isS x.op [99,111,110,115,116]=false):=by rintro⟨z1,z2⟩;rw[z1,z2] at q;simp at q
     rw[if_neg z]
     exact((Mt.dec x.pl).comp ((h.term k gen).comp ((h.sing k2 gen).comp Mt.id))).eqv a b e
  ·rw[right_len _ _ _ (by rw[hp];simp),if_pos (by simp;omega)]
   trivial
 ·rw[few_at x xs gen [] a (by omega) (by unfold partsI;rcases c with c | c | c <;> simp[c])]
  have hk:kidsR x.kind=0:=by unfold kidsR;rcases c with c | c | c <;> simp[c]
  rw[hk]
  cases xs with
  | nil =>
    rw[if_neg (by simp),if_neg (by simp)]
    rw[if_neg (by omega),if_neg (by omega),if_neg (by omega),if_neg (by omega),if_neg (by omega),if_neg (by omega),if_neg (by omega),if_neg (by omega)]
    exact e
  | cons k ks =>
    rw[if_pos (by simp),if_pos (by simp;omega)]
    trivial
 ·rw[few_at x xs gen [115] a (by omega) (by unfold partsI;simp[c])]
  have hk:kidsR x.kind=1:=by unfold kidsR;simp[c]
  rw[hk]
  rcases xs with _ | ⟨k,_ | ⟨k2,ks⟩⟩
  ·simp[Eqv]
  ·rw[if_neg (by simp),if_neg (by simp)]
   simp only[c,Int.reduceEq,if_false,if_true,or_self]
   exact((h.sing k gen).comp Mt.id).eqv a b e
  ·rw[if_pos (by simp),if_pos (by simp;omega)]
   trivial
 ·rw[few_at x xs gen [101] a (by omega) (by unfold partsI;rcases c with c | c <;> simp[c])]
  have hk:kidsR x.kind=1:=by unfold kidsR;rcases c with c | c <;> simp[c]
  rw[hk]
  rcases xs with _ | ⟨k,_ | ⟨k2,ks⟩⟩
  ·simp[Eqv]
  ·rw[if_neg (by simp),if_neg (by simp),if_neg (by omega),if_pos c]
   exact((h.term k gen).comp Mt.id).eqv a b e
  ·rw[if_pos (by simp),if_pos (by simp;omega)]
   trivial
 ·have hp:partsI x.kind xs.length=[98,66,66]:=by unfold partsI;simp[c]
  have hk:kidsR x.kind=3:=by unfold kidsR;simp[c]
  have hr:rightOpB x=true:=by unfold rightOpB;simp[c]
  have hf:isFnB x=false:=by unfold isFnB;simp;omega
  rw[hk]
  rcases xs with _ | ⟨k,_ | ⟨k2,_ | ⟨k3,_ | ⟨k4,ks⟩⟩⟩⟩
  ·rw[right_len _ _ _ (by rw[hp];simp)];simp[Eqv]
  ·rw[right_len _ _ _ (by rw[hp];simp)];simp[Eqv]
  ·rw[right_len _ _ _ (by rw[hp];simp)];simp[Eqv]
  ·rw[if_neg (by simp)]
   simp only[c,Int.reduceEq,if_false,if_true,or_self]
   have d1:kd0 K [k,k2,k3] 1=K.kd k2:=rfl
   have d2:kd0 K [k,k2,k3] 2=K.kd k3:=rfl
   rw[right_at _ _ _ (by rw[hp];simp) hr,hp,hf,kid_or 6 _ 2 k3 rfl,d1,d2]
   have e1:hereP K x [k,k2,k3] gen a=if K.kd k2=0∧K.kd k3=0 then none else if K.kd k2≠0 then takeD a x.pl else some a:=by
    unfold hereP declB
    rw[d1,d2]
    simp[c]
   rw[e1]
   by_cases z:K.kd k2=0∧K.kd k3=0
   ·rw[if_pos z,if_pos z]
    trivial
   ·rw[if_neg z,if_neg z]
    by_cases y:K.kd k2≠0
    ·rw[if_pos y,if_pos y]
     have m2:=h.bracE k2 gen
     simp only[if_pos y] at m2
     have m:=(((h.brac k gen).swap (h.nice 98 k gen) x.pl).comp (m2.comp ((h.bracE k3 gen).comp Mt.id))).eqv a b e
     have q:∀o:Option St,(o.bind (f 98 k gen)).bind (fun a=>(f 66 k2 gen a).bind fun a=>(f 66 k3 gen a).bind some)=o.bind (kidsP f gen [98,66,66] [k,k2,k3]):=by
      intro o
      cases o <;> rfl
     rw[q] at m
     exact m
    ·rw[if_neg y,if_neg y]
     have m2:=h.bracE k2 gen
     simp only[if_neg y] at m2
     have m:=((h.brac k gen).comp (m2.comp ((h.bracE k3 gen).comp Mt.id))).eqv a b e
     exact m
  ·rw[right_len _ _ _ (by rw[hp];simp),if_pos (by simp;omega)]
   trivial
theorem single_not (x:Nd)(xs:List α)(gen:Bool)(hx:isStmtB x.kind=false)(st:RS):singleR K g x xs gen st=none:=by
 unfold isStmtB at hx
 simp at hx
 cases st with
 | none=>rfl
 | some b =>
   show(if _ then _ else _)=_
   have hk:kidsR x.kind = -1:=by
    unfold kidsR
    repeat rw[if_neg (by intro q;omega)]
   rw[if_neg (by intro q;omega),hk,if_pos (by simp)]
theorem item_single (x:Nd)(xs:List α)(gen:Bool)(hx:¬(31≤x.kind∧x.kind≤33)):itemR K g x xs gen=singleR K g x xs gen:=by
 funext st
 unfold itemR
 rw[if_pos (by omega)]
theorem mt_item (h:Ok K f g)(x:Nd)(xs:List α)(gen:Bool)(hx:31≤x.kind∧x.kind≤33):Mt (rightP K f x xs gen) (itemR K g x xs gen):=by
 have:x.kind=33∨x.kind=31∨x.kind=32:=by omega
 rcases this with c | c | c
 ·refine((Mt.dec x.pl).comp (mt_funct h x xs (Or.inr c) gen)).congr (fun a => ?_) (fun st => ?_)
  ·exact right_cond x xs gen (fun a=>takeD a x.pl) (fun a=>here_take x xs gen a (by omega) (by omega) (by omega) (by omega) (by unfold declB;rw[if_pos (by omega)])) a
  ·unfold itemR
   rw[if_neg (by omega),if_pos c]
 all_goals
  have hr:rightOpB x=true:=by unfold rightOpB;simp[c]
  have hf:isFnB x=false:=by unfold isFnB;simp;omega
  have hh:∀a,hereP K x xs gen a=takeD a x.pl:=fun a=>here_take x xs gen a (by omega) (by omega) (by omega) (by omega) (by unfold declB;rw[if_pos (by omega)])
  rcases xs with _ | ⟨k,_ | ⟨k2,ks⟩⟩
  ·refine Mt.none.congr (fun a => ?_) (fun st => ?_)
   ·rw[right_len _ _ _ (by unfold partsI;simp[c])]
   ·unfold itemR;simp[c]
  ·first
    | refine((Mt.dec x.pl).comp ((h.perh k gen).comp Mt.id)).congr (fun a => ?_) (fun st => ?_)
      ·rw[right_at _ _ _ (by unfold partsI;simp[c]) hr,hh,hf,show partsI x.kind [k].length=[69] by unfold partsI;simp[c]];rfl
      ·unfold itemR;simp[c,kidR]
    | refine((Mt.dec x.pl).comp ((h.term k gen).comp Mt.id)).congr (fun a => ?_) (fun st => ?_)
      ·rw[right_at _ _ _ (by unfold partsI;simp[c]) hr,hh,hf,show partsI x.kind [k].length=[101] by unfold partsI;simp[c]];rfl
      ·unfold itemR;simp[c,kidR]
  ·refine Mt.none.congr (fun a => ?_) (fun st => ?_)
   ·rw[right_len _ _ _ (by unfold partsI;simp[c])]
   ·unfold itemR;simp[c]
theorem mt_prop (h:Ok K f g)(x:Nd)(xs:List α)(gen:Bool)(c:x.kind=11):Mt (rightP K f x xs gen) (propR g x xs gen):=by
 have hp:partsI x.kind xs.length=[101,101]:=by unfold partsI;simp[c]
 have hr:rightOpB x=(isS x.op [105,110,105,116] || isS x.op [103,101,116] || isS x.op [115,101,116]):=by
  unfold rightOpB oneB propL isS
  simp[c,List.contains,List.elem]
  cases (x.op.toList == [105,110,105,116]) <;> cases (x.op.toList == [103,101,116]) <;> cases (x.op.toList == [115,101,116]) <;> rfl
 have hf:isFnB x=false:=by unfold isFnB;simp;omega
 have hh:∀a,hereP K x xs gen a=some a:=fun a=>here_some x xs gen a (by omega) (by omega) (by omega) (by omega) (decl_no _ _ (by omega) (by omega))
 by_cases q:isS x.op [105,110,105,116]=false∧isS x.op [103,101,116]=false∧isS x.op [115,101,116]=false
 ·refine Mt.none.congr (fun a => ?_) (fun st => ?_)
  ·rw[right_op _ _ _ (by rw[hr,q.1,q.2.1,q.2.2];rfl)]
  ·unfold propR;rw[if_pos (Or.inr (Or.inr q))]
 ·have hr':rightOpB x=true:=by
   rw[hr]
   cases z1:isS x.op [105,110,105,116] <;> cases z2:isS x.op [103,101,116] <;> cases z3:isS x.op [115,101,116] <;> simp_all
  rcases xs with _ | ⟨k,_ | ⟨k2,_ | ⟨k3,ks⟩⟩⟩
  ·refine Mt.none.congr (fun a=>right_len _ _ _ (by rw[hp];simp) a) (fun st=>by unfold propR;simp)
  ·refine Mt.none.congr (fun a=>right_len _ _ _ (by rw[hp];simp) a) (fun st=>by unfold propR;simp)
  ·refine((h.term k gen).comp ((h.term k2 gen).comp Mt.id)).congr (fun a => ?_) (fun st => ?_)
   ·rw[right_at _ _ _ (by rw[hp];simp) hr',hh,hf,hp];rfl
   ·unfold propR
    rw[if_neg (by rintro(z | z | z);exact z c;exact z rfl;exact q z)]
    rfl
  ·refine Mt.none.congr (fun a=>right_len _ _ _ (by rw[hp];simp) a) (fun st=>by unfold propR;simp)
end
theorem ok_all (n:Nat):Ok (kidT n) (partP n) (semR n):=by
 induction n with
 | zero=>constructor <;> (intro a b;first | exact nomatch (b:Empty) | exact nomatch (a:Empty))
 | succ n ih =>
   have term:∀(k:Tr (n+1)) gen,Mt (partP (n+1) 101 k gen) (semR (n+1) 0 k gen):=by
    rintro⟨x,s⟩ gen
    show Mt (fun st=>if x.kind=0 then _ else _) (termR (kidT n) (semR n) x s.xs gen)
    by_cases c:isExprB x.kind=true
    ·refine(mt_term ih x s.xs gen c).congr (fun a => ?_) (fun _=>rfl)
     have h0:x.kind≠0:=by unfold isExprB at c;simp at c;omega
     rw[if_neg h0,if_neg (by unfold isPartB;simp[c]),if_neg (by decide)]
    ·simp only[Bool.not_eq_true] at c
     refine Mt.none.congr (fun a => ?_) (fun st=>term_not x s.xs gen c st)
     by_cases h0:x.kind=0
     ·rw[if_pos h0,if_neg (by simp[mayLackB])]
     ·rw[if_neg h0,if_pos (by unfold isPartB;simp[c])]
   have sing:∀(k:Tr (n+1)) gen,Mt (partP (n+1) 115 k gen) (semR (n+1) 5 k gen):=by
    rintro⟨x,s⟩ gen
    show Mt (fun st=>if x.kind=0 then _ else _) (singleR (kidT n) (semR n) x s.xs gen)
    by_cases c:isStmtB x.kind=true
    ·refine(mt_single ih x s.xs gen c).congr (fun a => ?_) (fun _=>rfl)
     have h0:x.kind≠0:=by unfold isStmtB at c;simp at c;omega
     rw[if_neg h0,if_neg (by unfold isPartB;simp[c]),if_neg (by decide)]
    ·simp only[Bool.not_eq_true] at c
     refine Mt.none.congr (fun a => ?_) (fun st=>single_not x s.xs gen c st)
     by_cases h0:x.kind=0
     ·rw[if_pos h0,if_neg (by simp[mayLackB])]
     ·rw[if_neg h0,if_pos (by unfold isPartB;simp[c])]
   have brac:∀(k:Tr (n+1)) gen,Mt (partP (n+1) 98 k gen) (semR (n+1) 6 k gen):=by
    rintro⟨x,s⟩ gen
    show Mt (fun st=>if x.kind=0 then _ else _) (bracesR (semR n) x s.xs gen)
    by_cases c:x.kind=44
    ·refine(block_many ih x s.xs gen (Or.inl c)).congr (fun a => ?_) (fun st=>by unfold bracesR;rw[if_neg (by omega)])
     rw[if_neg (by omega),if_neg (by unfold isPartB;simp[c]),if_neg (by decide)]
    ·refine Mt.none.congr (fun a => ?_) (fun st=>by unfold bracesR;rw[if_pos c])
     by_cases h0:x.kind=0
     ·rw[if_pos h0,if_neg (by simp[mayLackB])]
     ·rw[if_neg h0,if_pos (by unfold isPartB;simp[c])]
   refine⟨fun p k gen=>nice_part (n+1) p k gen,term,?_,?_,?_,sing,brac,?_,?_,?_,?_,?_⟩
   ·rintro⟨x,s⟩ gen
    by_cases h0:x.kind=0
    ·refine⟨?_,fun a b e => ?_⟩
     ·show perhapsR (kidT n) (semR n) x s.xs gen none=none
      unfold perhapsR emptyR
      rw[if_neg (by omega)]
      split <;> rfl
     ·show Eqv (if x.kind=0 then _ else _) (perhapsR (kidT n) (semR n) x s.xs gen (some b))
      unfold perhapsR emptyR
      rw[if_pos h0,if_neg (show ¬x.kind≠0 by omega)]
      by_cases l:s.xs.length=0
      ·rw[if_pos ⟨by simp[mayLackB],l⟩,if_neg (by omega)];exact e
      ·rw[if_neg (fun q=>l q.2),if_pos (by omega)];trivial
    ·refine(term (x,s) gen).congr (fun a => ?_) (fun st => ?_)
     ·show(if x.kind=0 then _ else _)=(if x.kind=0 then _ else _)
      rw[if_neg h0,if_neg h0]
      rfl
     ·show perhapsR (kidT n) (semR n) x s.xs gen st=_
      unfold perhapsR
      rw[if_pos h0]
      rfl
   ·rintro⟨x,s⟩ gen
    show Mt (fun st=>if x.kind=0 then _ else _) (propR (semR n) x s.xs gen)
    by_cases c:x.kind=11
    ·refine(mt_prop ih x s.xs gen c).congr (fun a => ?_) (fun _=>rfl)
     rw[if_neg (by omega),if_neg (by unfold isPartB;simp[c]),if_neg (by decide)]
    ·refine Mt.none.congr (fun a => ?_) (fun st=>by unfold propR;rw[if_pos (Or.inl c)])
     by_cases h0:x.kind=0
     ·rw[if_pos h0,if_neg (by simp[mayLackB])]
     ·rw[if_neg h0,if_pos (by unfold isPartB;simp[c])]
   ·rintro⟨x,s⟩ gen
    by_cases c:31≤x.kind∧x.kind≤33
    ·refine(mt_item ih x s.xs gen c).congr (fun a => ?_) (fun _=>rfl)
     show(if x.kind=0 then _ else _)=_
     rw[if_neg (by omega),if_neg (by unfold isPartB;simp;intro _;omega),if_neg (by decide)]
    ·refine(sing (x,s) gen).congr (fun a => ?_) (fun st => ?_)
     ·show(if x.kind=0 then _ else _)=(if x.kind=0 then _ else _)
      have e1:isPartB 105 x.kind=isPartB 115 x.kind:=by
       have q1:(x.kind == 31)=false:=by simp;omega
       have q2:(x.kind == 32)=false:=by simp;omega
       have q3:(x.kind == 33)=false:=by simp;omega
       unfold isPartB
       rw[q1,q2,q3]
       simp
      have e2:mayLackB 105=mayLackB 115:=by decide
      rw[e1,e2]
      rfl
     ·show itemR (kidT n) (semR n) x s.xs gen st=_
      rw[item_single x s.xs gen c]
      rfl
   ·rintro⟨x,s⟩ gen
    by_cases h0:x.kind=0
    ·refine⟨?_,fun a b e => ?_⟩
     ·show(if x.kind≠0 then _ else _)=_
      rw[if_neg (by omega)]
      split <;> rfl
     ·show Eqv (if x.kind=0 then _ else _) (if x.kind≠0 then _ else if 0<s.xs.length then _ else _)
      rw[if_pos h0,if_neg (show ¬x.kind≠0 by omega)]
      by_cases l:s.xs.length=0
      ·rw[if_pos ⟨by simp[mayLackB],l⟩,if_neg (by omega)];exact e
      ·rw[if_neg (fun q=>l q.2),if_pos (by omega)];trivial
    ·refine(sing (x,s) gen).congr (fun a => ?_) (fun st => ?_)
     ·show(if x.kind=0 then _ else _)=(if x.kind=0 then _ else _)
      rw[if_neg h0,if_neg h0]
      rfl
     ·show(if x.kind≠0 then _ else _)=_
      rw[if_pos h0]
   ·rintro⟨x,s⟩ gen
    by_cases h0:x.kind=0
    ·refine⟨?_,fun a b e => ?_⟩
     ·show(if x.kind≠0 then _ else _)=_
      rw[if_neg (by omega)]
      split <;> rfl
     ·show Eqv (if x.kind=0 then _ else _) (if x.kind≠0 then _ else if 0<s.xs.length then _ else _)
      rw[if_pos h0,if_neg (show ¬x.kind≠0 by omega)]
      by_cases l:s.xs.length=0
      ·rw[if_pos ⟨by simp[mayLackB],l⟩,if_neg (by omega)];exact e
      ·rw[if_neg (fun q=>l q.2),if_pos (by omega)];trivial
    ·refine(brac (x,s) gen).congr (fun a => ?_) (fun st => ?_)
     ·show(if x.kind=0 then _ else _)=(if x.kind=0 then _ else _)
      rw[if_neg h0,if_neg h0]
      rfl
     ·show(if x.kind≠0 then _ else _)=_
      rw[if_pos h0]
   ·rintro⟨x,s⟩ gen
    by_cases c:x.kind≠3∧x.kind≠13
    ·refine Mt.none.congr (fun a => ?_) (fun st => ?_)
     ·show(if x.kind=0 then _ else _)=_
      by_cases h0:x.kind=0
      ·rw[if_pos h0,if_neg (by simp[mayLackB])]
      ·rw[if_neg h0,if_pos (by unfold isPartB;simp[c.1,c.2])]
     ·show(if x.kind≠3∧x.kind≠13 then _ else _)=_
      rw[if_pos c]
    ·refine(term (x,s) gen).congr (fun a => ?_) (fun st => ?_)
     ·show(if x.kind=0 then _ else _)=(if x.kind=0 then _ else _)
      have k:x.kind=3∨x.kind=13:=by omega
      have k0:¬x.kind=0:=by omega
      have k1:¬isPartB 103 x.kind=false:=by unfold isPartB;rcases k with k | k <;> simp[k]
      have k2:¬isPartB 101 x.kind=false:=by unfold isPartB isExprB;rcases k with k | k <;> simp[k]
      simp only[if_neg k0,if_neg k1,if_neg k2]
      rfl
     ·show(if x.kind≠3∧x.kind≠13 then _ else _)=_
      rw[if_neg c]
   ·rintro⟨x,s⟩ gen
    refine⟨?_,fun a b e => ?_⟩
    ·show paramR (kidT (n+1)) _ none=none
     unfold paramR
     split <;> rfl
    ·show Eqv (if x.kind=0 then _ else _) (if x.kind≠3∨0<s.xs.length then none else decR x.pl (some b))
     by_cases c:x.kind=3
     ·rw[if_neg (by omega),if_neg (by unfold isPartB;simp[c]),if_pos rfl]
      by_cases l:s.xs.length=0
      ·rw[if_pos l,if_neg (by omega)]
       exact takeD_resp e x.pl
      ·rw[if_neg l,if_pos (by omega)]
       trivial
     ·rw[if_pos (Or.inl c)]
      by_cases h0:x.kind=0
      ·rw[if_pos h0,if_neg (by simp[mayLackB])];trivial
      ·rw[if_neg h0,if_pos (by unfold isPartB;simp[c])];trivial
   ·rintro⟨x,s⟩ gen
    refine(brac (x,s) gen).congr (fun a=>rfl) (fun st => ?_)
    show(if x.kind≠44 then none else bodyR (semR n) s.xs gen st)=bracesR (semR n) x s.xs gen st
    unfold bracesR
    rfl
theorem root_same (n:Nat)(t:Tr n):rootP n t=rootR n t:=by
 cases n with
 | zero=>exact nomatch (t:Empty)
 | succ n =>
   obtain⟨x,s⟩:=t
   show(_ && _ && _)=(if _ then _ else _)
   have e1:=holds_count (n+1) ((x,s):Nd×Sli (Tr n)) 131072 300
   rw[e1]
   by_cases c:x.kind=47
   ·by_cases d:countT (n+1) 300 ((x,s):Nd×Sli (Tr n)) 131072<0
    ·rw[if_pos (Or.inr d),show decide (0≤countT (n+1) 300 ((x,s):Nd×Sli (Tr n)) ((131072:Nat):Int))=false by simp;omega]
     simp
    ·rw[if_neg (by rintro(q | q);exact q c;exact d q),show decide (0≤countT (n+1) 300 ((x,s):Nd×Sli (Tr n)) ((131072:Nat):Int))=true by simp;omega,c]
     have m:=(block_many (ok_all n) x s.xs false (Or.inr c)).eqv ([],[]) ([],[]) (Eqs.refl _)
     rw[←m.some_iff]
     rfl
   ·rw[if_pos (Or.inl c),show(x.kind == 47)=false by simpa using c]
    rfl
end Go.Proofs.YtihmdcdifakepaaGreat.Sc
