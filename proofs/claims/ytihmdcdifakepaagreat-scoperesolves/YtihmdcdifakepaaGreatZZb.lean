/- ZZb -/
import Derived.Test.YtihmdcdifakepaaGreatZYb
import Derived.Test.YtihmdcdifakepaaGreatZZ
import Derived.Test.YtihmdcdifakepaaGreatNQ
set_option linter.unusedVariables false
set_option linter.unusedSimpArgs false
set_option maxRecDepth 100000
set_option maxHeartbeats 40000000
namespace Go.Proofs.YtihmdcdifakepaaGreat.Rv.Rx
open Go.RowKit Go.Proofs.YtihmdcdifakepaaGreat.Sc Go.Proofs.YtihmdcdifakepaaGreat.Rz
theorem root_parts {n:Nat}{x:Nd}{s:Sli (Tr n)}(h:rootP (n+1) ((x,s):Nd×Sli (Tr n))=true):(partsI 47 s.xs.length).length=s.xs.length∧(∀(i:Nat)(q:UInt8)(k:Tr n),(partsI 47 s.xs.length)[i]?=some q→s.xs[i]?=some k→Rz.Good n q k)∧FitD (n+1) ((x,s):Nd×Sli (Tr n)):=by
 have h':(x.kind == 47 && (holdsT (n+1) 300 ((x,s):Nd×Sli (Tr n)) 131072).1 && (rightP (kidT n) (partP n) x s.xs false ([],[])).isSome)=true:=h
 simp only[Bool.and_eq_true] at h'
 obtain⟨⟨h1,_⟩,h3⟩:=h'
 have hk:x.kind=47:=by simpa using h1
 obtain⟨st',h3⟩:=Option.isSome_iff_exists.1 h3
 unfold rightP at h3
 split at h3
 ·cases h3
 ·rename_i e1
  split at h3
  ·cases h3
  ·obtain⟨s1,_,h2⟩:=Option.bind_eq_some_iff.1 h3
   have hl:(partsI x.kind s.xs.length).length=s.xs.length:=by simpa using e1
   rw[hk] at hl h2
   have hg:∀(i:Nat) (q:UInt8) (k:Tr n),(partsI 47 s.xs.length)[i]?=some q→s.xs[i]?=some k→Rz.Good n q k:=fun i q k hq hi=>by
    obtain⟨a,b,hab⟩:=kids_good _ _ _ _ _ _ h2 i q k hq hi
    exact⟨_,a,b,hab⟩
   refine⟨hl,hg,⟨fun q=>by omega,fun q=>by omega,fun q=>by omega,fun q=>by omega,fun k hk2 => ?_⟩⟩
   obtain⟨i,hi⟩:=List.getElem?_of_mem hk2
   have hil:i<(partsI 47 s.xs.length).length:=by rw[hl];exact(List.getElem?_eq_some_iff.1 hi).1
   exact fitD_good n _ k (hg i _ k (List.getElem?_eq_getElem hil) hi)
theorem res_few {n:Nat}{x:Nd}{sl:Sli (Tr n)}{s:Rz.RS}(hsz:szT (n+1) ((x,sl):Nd×Sli (Tr n))≤131072)(hR:resolveP bi (n+1) ((x,sl):Nd×Sli (Tr n)) = .ok s):s.scopes.length≤2000000∧s.vars.length≤2000000∧s.uses.length≤2000000:=by
 have hcr:cr s≤1+8*(sl.xs.map (szT n)).sum:=by
  have:=cr_block (ndR n) (szT n) (cr_res bi n).1 sl.xs (startP x.pl) s hR
  have e1:cr (startP x.pl)=1:=rfl
  omega
 have hsum:szT (n+1) ((x,sl):Nd×Sli (Tr n))=1+(sl.xs.map (szT n)).sum:=rfl
 have hc2:cr s≤1048577:=by omega
 unfold cr at hc2
 exact⟨by omega,by omega,by omega⟩
theorem pro_nil {w w':World}{er:Rz.Er}{e:Ending}(hb:Below w.heap.size w w')(he:e = .returned (.tuple #[.agg #[.slice none 0 0,.slice none 0 0,.slice none 0 0],.int .i64 er.1,.int .i64 er.2])):PrO [] [] [] er.1 er.2 w e w' :=
 ⟨hb,_,_,_,he,OwnR.nil _ _,OwnR.nil _ _,OwnR.nil _ _⟩
theorem resolves_walk (n:Nat)(t:Tr n)(w:World)(hok:okT n w t):Calls Tryz.prog 3 #[valT n t] w fun e w'=>e = .returned (.bool true)∧Below w.heap.size w w':=by
 cases hr:rootP n t with
 | false =>
   cases n with
   | zero=>exact nomatch (t:Empty)
   | succ n =>
     obtain⟨x,sl⟩:=t
     refine resolves_pair w x _ _ _ [] [] [] x.pl 70 (by simp) (by simp) (by simp) (fun w1 h1 => ?_) (fun w1 h1 => ?_)
     ·refine(resolve_wrong w1 n x sl (okT_kept hok (Sc.cells_below h1)) hr).mono ?_
      rintro e w' ⟨hb,he⟩
      exact pro_nil (er:=(x.pl,70)) hb he
     ·refine(rresolve_wrong w1 n x sl (okT_kept hok (Sc.cells_below h1)) hr).mono ?_
      rintro e w' ⟨hb,he⟩
      exact pro_nil (er:=(x.pl,70)) hb he
 | true =>
   obtain⟨u,hv,_,hok2,hr2,hsz⟩:=cut_root w n t hok hr
   rw[←hv]
   obtain⟨x,sl⟩:=u
   obtain⟨hl,hg,hft⟩:=root_parts hr2
   have hq:=resolve_eq bi 299 ((x,sl):Nd×Sli (Tr 299)) hl hg
   have hP:=fun (w1:World) (h1:Below w.heap.size w w1)=>resolve_right w1 299 x sl (okT_kept hok2 (Sc.cells_below h1)) hr2 hsz (by omega)
   have hD:=fun (w1:World) (h1:Below w.heap.size w w1)=>rresolve_right w1 299 x sl (okT_kept hok2 (Sc.cells_below h1)) hr2 hft hsz (by omega)
   cases hR:resolveP bi 300 ((x,sl):Nd×Sli (Tr 299)) with
   | error er =>
     cases hR2:resolveR bi 300 ((x,sl):Nd×Sli (Tr 299)) with
     | ok s=>rw[hR,hR2] at hq;exact hq.elim
     | error er2 =>
       rw[hR,hR2] at hq
       have hq:er=er2:=hq
       subst hq
       refine resolves_pair w x _ _ _ [] [] [] er.1 er.2 (by simp) (by simp) (by simp) (fun w1 h1 => ?_) (fun w1 h1 => ?_)
       ·have k:=hP w1 h1
        rw[hR] at k
        refine k.mono ?_
        rintro e w' ⟨hb,he⟩
        exact pro_nil hb he
       ·have k:=hD w1 h1
        rw[hR2] at k
        refine k.mono ?_
        rintro e w' ⟨hb,he⟩
        exact pro_nil hb he
   | ok s =>
     cases hR2:resolveR bi 300 ((x,sl):Nd×Sli (Tr 299)) with
     | error er=>rw[hR,hR2] at hq;exact hq.elim
     | ok s2 =>
       rw[hR,hR2] at hq
       have hq:Core s s2:=hq
       obtain⟨m0,m1,m2⟩:=res_few hsz hR
       refine resolves_pair w x _ _ _ s.scopes s.vars s.uses 0 0 m0 m1 m2 (fun w1 h1 => ?_) (fun w1 h1 => ?_)
       ·have k:=hP w1 h1
        rw[hR] at k
        refine k.mono ?_
        rintro e w' ⟨hb,v0,v1,v2,he,r0,r1,r2,_⟩
        exact⟨hb,v0,v1,v2,he,r0,r1,r2⟩
       ·have k:=hD w1 h1
        rw[hR2] at k
        refine k.mono ?_
        rintro e w' ⟨hb,v0,v1,v2,he,r0,r1,r2⟩
        exact⟨hb,v0,v1,v2,he,by rw[hq.scopes];exact r0,by rw[hq.vars];exact r1,by rw[hq.uses];exact r2⟩
end Go.Proofs.YtihmdcdifakepaaGreat.Rv.Rx
