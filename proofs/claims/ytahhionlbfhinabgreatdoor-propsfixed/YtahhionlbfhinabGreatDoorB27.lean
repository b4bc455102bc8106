/- UL, UM, UN, UZ, KD -/
import Derived.Test.YtahhionlbfhinabGreatDoorB26
import Derived.Test.YtahhionlbfhinabGreatDoorB20
import Derived.Test.YtahhionlbfhinabGreatDoorLL
import Derived.Test.YtahhionlbfhinabGreatDoorB24
import Derived.Test.YtahhionlbfhinabGreatDoorB1
import Derived.Test.YtahhionlbfhinabGreatDoorB16
set_option linter.unusedVariables false
set_option linter.unusedSimpArgs false
set_option maxRecDepth 100000
set_option maxHeartbeats 40000000
namespace Go.Proofs.YtahhionlbfhinabGreatDoor.Hp
open Go.RowKit
section
variable {w W W' w' w1:World}{B b:Nat}{tg:Nat→Nat}{S S':List So}{vo vt:SV}{qs:List QV}{i:Nat}{x x':So}{q:QV}
theorem soO_of {o:Int}(h:obS S o=some i)(hi:S[i]?=some x):soO S o=some x:=by unfold soO;rw[h];exact hi
theorem onS_self {o:Int}{f:So→So}(h:obS S o=some i)(hi:S[i]?=some x)(hf:f x=x):onS S o f=S:=by
 rw[onS_at h hi,hf]
 have hil:=(List.getElem?_eq_some_iff.1 hi).1
 have hx:S[i]=x:=(List.getElem?_eq_some_iff.1 hi).2
 rw[←hx]
 exact List.set_getElem_self hil
theorem obS_at {o:Int}(h:obS S o=some i)(o0:0≤o)(o1:o<18446744073709551616):∃x,S[i]?=some x∧o=objW (i:Int):=by
 obtain⟨a,b⟩:=obS_some o0 o1 h
 exact⟨_,List.getElem?_eq_getElem a,b⟩
theorem rput_full (h:StAt w B tg S vo qs)(vt:SV)(hnl:∀x∈S,x.nm.length≤1999999999999)(o:Int)(o0:0≤o)(o1:o<18446744073709551616)(k:ByteArray)(d:De) :
  Calls Tryz.prog 71 #[stV vo vt,.int .u64 o,.string k,deV d] w fun e w'=>e = .returned (stV vo vt)∧SWent w B tg (putG S o k d) vo w':=by
 unfold putG
 cases hq:obS S o with
 | none=>rw[onS_no hq];exact rput_miss h vt k d o o0 o1 hq
 | some i =>
   obtain⟨x,hi,rfl⟩:=obS_at hq o0 o1
   rw[onS_at hq hi]
   exact rput_any h vt hi k (hnl x (List.mem_of_getElem? hi)) d
theorem rshut_full (h:StAt w B tg S vo qs)(vt:SV)(o:Int)(o0:0≤o)(o1:o<18446744073709551616) :
  Calls Tryz.prog 39 #[stV vo vt,.int .u64 o] w fun e w'=>e = .returned (stV vo vt)∧SWent w B tg (shutG S o) vo w':=by
 unfold shutG
 cases hq:obS S o with
 | none=>rw[onS_no hq];exact rshut_miss h vt o o0 o1 hq
 | some i =>
   obtain⟨x,hi,rfl⟩:=obS_at hq o0 o1
   rw[onS_at hq hi]
   exact rshut_hit h vt hi
theorem rsetLen_full (h:StAt w B tg S vo qs)(vt:SV)(o:Int)(o0:0≤o)(o1:o<18446744073709551616)(n:Int) :
  Calls Tryz.prog 69 #[stV vo vt,.int .u64 o,.int .i64 n] w fun e w'=>e = .returned (.tuple #[stV vo vt,.bool (lenG S o n).2])∧SWent w B tg (lenG S o n).1 vo w':=by
 unfold lenG
 cases hq:obS S o with
 | none=>rw[if_pos (Or.inl rfl)];exact rsetLen_miss h vt n o o0 o1 hq
 | some i =>
   obtain⟨x,hi,rfl⟩:=obS_at hq o0 o1
   by_cases c:n<0
   ·rw[if_pos (Or.inr (Or.inl c))]
    exact rsetLen_low h vt hi n c
   by_cases c':4096<n
   ·rw[if_pos (Or.inr (Or.inr c'))]
    exact rsetLen_high h vt hi n c'
   obtain⟨m,rfl⟩:∃m:Nat,n=(m:Int):=⟨n.toNat,by omega⟩
   rw[if_neg (by rintro(r | r | r);· cases r
                 ·exact c r
                 ·exact c' r)]
   simp only
   rw[onS_at hq hi,Int.toNat_natCast]
   exact rsetLen_hit h vt hi m (by omega)
theorem rsetElem_full (h:StAt w B tg S vo qs)(vt:SV)(hel:∀x∈S,x.el.length≤4096)(o:Int)(o0:0≤o)(o1:o<18446744073709551616)(n v:Int) :
  Calls Tryz.prog 70 #[stV vo vt,.int .u64 o,.int .i64 n,.int .u64 v] w fun e w'=>e = .returned (.tuple #[stV vo vt,.bool (elemG S o n v).2])∧SWent w B tg (elemG S o n v).1 vo w':=by
 unfold elemG
 by_cases c:n<0
 ·rw[if_pos (Or.inr (Or.inl c))]
  exact rsetElem_low h vt n v o c
 by_cases c':4096≤n
 ·rw[if_pos (Or.inr (Or.inr c'))]
  exact rsetElem_high h vt n v o c'
 cases hq:obS S o with
 | none=>rw[if_pos (Or.inl rfl)];exact rsetElem_miss h vt n v (by omega) (by omega) o o0 o1 hq
 | some i =>
   obtain⟨x,hi,rfl⟩:=obS_at hq o0 o1
   obtain⟨m,rfl⟩:∃m:Nat,n=(m:Int):=⟨n.toNat,by omega⟩
   rw[if_neg (by rintro(r | r | r);· cases r
                 ·exact c r
                 ·exact c' r)]
   simp only
   rw[onS_at hq hi,Int.toNat_natCast]
   exact rsetElem_hit h vt hi m (by omega) (hel x (List.mem_of_getElem? hi)) v
theorem rdrop_full (h:StAt w B tg S vo qs)(vt:SV)(hnl:∀x∈S,x.nm.length≤1999999999999)(o:Int)(o0:0≤o)(o1:o<18446744073709551616)(k:ByteArray) :
  Calls Tryz.prog 74 #[stV vo vt,.int .u64 o,.string k] w fun e w'=>e = .returned (.tuple #[stV vo vt,.bool (dropG S o k).2])∧SWent w B tg (dropG S o k).1 vo w':=by
 unfold dropG
 cases hq:obS S o with
 | none =>
   have e:soO S o=none:=by unfold soO;rw[hq];rfl
   simp only
   rw[onS_no hq,e]
   exact rdrop_miss h vt k o o0 o1 hq
 | some i =>
   obtain⟨x,hi,rfl⟩:=obS_at hq o0 o1
   simp only
   rw[soO_of hq hi,Option.bind_some]
   cases hp:plS x.nm k with
   | none =>
     rw[onS_self hq hi (by unfold delS;rw[hp])]
     exact rdrop_none h vt hi k hp
   | some m =>
     rw[onS_at hq hi]
     have e:delS x k={ x with nm:=x.nm.eraseIdx m,ds:=x.ds.eraseIdx m }:=by unfold delS;rw[hp]
     rw[e]
     exact rdrop_hit h vt hi k m hp (hnl x (List.mem_of_getElem? hi))
theorem rproto_full (h:StAt w B tg S vo qs)(vt:SV)(hpr:∀x∈S,0≤x.proto∧x.proto<18446744073709551616)(o:Int)(o0:0≤o)(o1:o<18446744073709551616)(p:Int)(p0:0≤p)(p1:p<18446744073709551616) :
  Calls Tryz.prog 77 #[stV vo vt,.int .u64 o,.int .u64 p] w fun e w'=>e = .returned (stV vo vt)∧SWent w B tg (protoG S o p) vo w':=by
 unfold protoG
 cases hq:obS S o with
 | none =>
   rw[onS_no hq,ite_self]
   exact rrepro_miss h vt p o o0 o1 hq
 | some i =>
   obtain⟨x,hi,rfl⟩:=obS_at hq o0 o1
   rw[onS_at hq hi]
   by_cases c:p=nulW
   ·have e:(p == nulW)=true:=by simpa using c
    have hnb:(p != 18445336698825998337)=false:=by simpa [nulW] using c
    refine(rrepro_null h vt hpr hi p p0 p1 hnb).mono ?_
    rintro e' w' ⟨rfl,q⟩
    refine⟨rfl,?_⟩
    rw[e]
    simpa using q
   ·have e:(p == nulW)=false:=by simpa using c
    have hnb:(p != 18445336698825998337)=true:=by simpa [nulW] using c
    cases hp:obS S p with
    | none =>
      rw[if_pos (Or.inl (by rw[e];rfl))]
      exact rrepro_nop h vt hi p p0 p1 hp hnb
    | some m =>
      obtain⟨hm,hpe⟩:=obS_some p0 p1 hp
      refine(rrepro_obj h vt hpr hi p p0 p1 hnb hm hpe).mono ?_
      rintro e' w' ⟨rfl,q⟩
      refine⟨rfl,?_⟩
      rw[e]
      simpa using q
theorem rmake_full (h:StAt w B tg S vo qs)(hB:B≤w.heap.size)(vt:SV)(kind p:Int)(p0:0≤p)(p1:p<18446744073709551616) :
  Calls Tryz.prog 29 #[stV vo vt,.int .i64 kind,.int .u64 p] w fun e w'=>∃vo',e = .returned (.tuple #[stV vo' vt,.int .u64 (if noS S kind p=true then undW else objW (S.length:Int)),.bool (!noS S kind p)])∧SWent w B tg (makeG S kind p) vo' w':=by
 unfold makeG
 cases hn:noS S kind p with
 | true =>
   rw[if_pos rfl,if_pos rfl]
   have key:Calls Tryz.prog 29 #[stV vo vt,.int .i64 kind,.int .u64 p] w fun e w'=>e = .returned (.tuple #[stV vo vt,.int .u64 18445336698825998336,.bool false])∧SWent w B tg S vo w':=by
    by_cases a:kind<0
    ·exact rmake_low h vt kind p a
    by_cases a':6<kind
    ·exact rmake_high h vt kind p a'
    by_cases c:p=nulW
    ·subst c
     unfold noS at hn
     rw[decide_eq_false a,decide_eq_false a'] at hn
     simp only[beq_self_eq_true,Bool.true_or,Bool.not_true,Bool.false_or,decide_eq_true_eq] at hn
     exact rmake_fullN h vt kind (by omega) (by omega) hn
    ·have hnb:(p != 18445336698825998337)=true:=by simpa [nulW] using c
     cases hp:obS S p with
     | none=>exact rmake_miss h vt kind (by omega) (by omega) p p0 p1 hp hnb
     | some m =>
       obtain⟨hm,rfl⟩:=obS_some p0 p1 hp
       unfold noS at hn
       rw[decide_eq_false a,decide_eq_false a',hp] at hn
       simp only[Option.isSome_some,Bool.or_true,Bool.not_true,Bool.false_or,decide_eq_true_eq] at hn
       exact rmake_fullO h vt kind (by omega) (by omega) hn hm
   refine key.mono ?_
   rintro e w' ⟨rfl,q⟩
   exact⟨vo,rfl,q⟩
 | false =>
   rw[if_neg (by simp),if_neg (by simp)]
   unfold noS at hn
   simp only[Bool.or_eq_false_iff,decide_eq_false_iff_not,Bool.not_eq_false'] at hn
   obtain⟨⟨⟨a,b⟩,c⟩,d⟩:=hn
   by_cases e:p=nulW
   ·subst e
    exact rmake_null h hB vt kind (by omega) (by omega) (by omega)
   ·have e':(p == nulW)=false:=by simpa using e
    rw[e',Bool.false_or] at c
    obtain⟨m,hp⟩:=Option.isSome_iff_exists.1 c
    obtain⟨hm,rfl⟩:=obS_some p0 p1 hp
    exact rmake_at h hB vt kind (by omega) (by omega) (by omega) hm
end
structure Two (w0 w:World)(X:Nat→Prop)(hb:Nat)(tgH tgS:Nat→Nat)(H:He)(M:HV)(S:List So)(vo vt:SV)(qs:List QV)(ts:List ByteArray):Prop where
 hp:HeapAt w w0.heap.size hb tgH H M
 st:StAt w w0.heap.size tgS S vo qs
 tx:OwnR strC 1 9 w0.heap.size w vt.val ts
 ap:∀b,tgH b≠0→tgS b=0
 at':∀b,vt.val.ownBlock=some b→tgH b=0∧tgS b=0
 xs:∀b,X b→tgH b=0∧tgS b=0∧¬vt.val.ownBlock=some b∧b<w.heap.size
 bel:Below w0.heap.size w0 w
def TwoE (w0 w:World)(X:Nat→Prop)(hb:Nat)(H:He)(S:List So)(vo vt:SV)(ts:List ByteArray):Prop:=∃tgH tgS M qs,Two w0 w X hb tgH tgS H M S vo vt qs ts
structure TwoK (w0 w w':World)(X:Nat→Prop)(hb:Nat)(H:He)(S:List So)(vo vt:SV)(ts:List ByteArray):Prop where
 two:TwoE w0 w' X hb H S vo vt ts
 kp:∀b,X b→w'.heap[b]?=w.heap[b]?
section
variable {w0 w w':World}{X Y:Nat→Prop}{hb:Nat}{tgH tgS:Nat→Nat}{H H':He}{M:HV}{S S':List So}{vo vo' vt vt':SV}{qs:List QV}{ts ts':List ByteArray}
theorem TwoE.bel (h:TwoE w0 w X hb H S vo vt ts):Below w0.heap.size w0 w:=by obtain⟨_,_,_,_,h⟩:=h;exact h.bel
theorem TwoE.wf (h:TwoE w0 w X hb H S vo vt ts):H.wf:=by obtain⟨_,_,_,_,h⟩:=h;exact h.hp.wf
theorem TwoE.lt (h:TwoE w0 w X hb H S vo vt ts){b:Nat}(hx:X b):b<w.heap.size:=by obtain⟨_,_,_,_,h⟩:=h;exact(h.xs b hx).2.2.2
theorem TwoE.mono (h:TwoE w0 w X hb H S vo vt ts)(hs:∀b,Y b→X b):TwoE w0 w Y hb H S vo vt ts:=by
 obtain⟨tgH,tgS,M,qs,h⟩:=h
 exact⟨tgH,tgS,M,qs,h.hp,h.st,h.tx,h.ap,h.at',fun b q=>h.xs b (hs b q),h.bel⟩
theorem TwoE.box (h:TwoE w0 w X hb H S vo vt ts)(hB:Below w.heap.size w w'):TwoE w0 w' (fun b=>X b∨(w.heap.size≤b∧b<w'.heap.size)) hb H S vo vt ts:=by
 obtain⟨tgH,tgS,M,qs,h⟩:=h
 refine⟨tgH,tgS,M,qs,h.hp.below hB,h.st.below hB,h.tx.kept (S:=fun _=>False) (Chg.of_below hB) (fun _ _ q=>q),h.ap,h.at',fun b q => ?_,h.bel.trans (hB.mono h.bel.size)⟩
 rcases q with q | q
 ·obtain⟨a,b,c,d⟩:=h.xs b q
  exact⟨a,b,c,Nat.lt_of_lt_of_le d hB.size⟩
 ·refine⟨?_,?_,fun e => ?_,q.2⟩
  ·rcases Nat.eq_zero_or_pos (tgH b) with e | e
   ·exact e
   ·have:=(h.hp.lt b (by omega)).2;omega
  ·rcases Nat.eq_zero_or_pos (tgS b) with e | e
   ·exact e
   ·have:=(h.st.lt b (by omega)).2;omega
  ·have:=(h.tx.lt b e).2;omega
theorem TwoE.below (h:TwoE w0 w X hb H S vo vt ts)(hB:Below w.heap.size w w'):TwoE w0 w' X hb H S vo vt ts:=(h.box hB).mono (fun b q=>Or.inl q)
theorem TwoE.set (h:TwoE w0 w X hb H S vo vt ts){b:Nat}(hx:X b)(hb0:w0.heap.size≤b)(j:Nat)(v:Value):TwoE w0 (w.setCell ⟨b,j,none⟩ v) X hb H S vo vt ts:=by
 obtain⟨tgH,tgS,M,qs,h⟩:=h
 have hc:Chg (fun c=>c=b) w (w.setCell ⟨b,j,none⟩ v):=Chg.set (S:=fun c=>c=b) w ⟨b,j,none⟩ v rfl
 obtain⟨x1,x2,x3,x4⟩:=h.xs b hx
 refine⟨tgH,tgS,M,qs,h.hp.kept hc (fun c q r=>q (by rw[r];exact x1)),h.st.kept hc (fun c q r=>q (by rw[r];exact x2)),h.tx.kept hc (fun c q r=>x3 (by rw[←show c=b from r];exact q)),h.ap,h.at',fun c q => ?_,h.bel.setCell hb0 _⟩
 obtain⟨a,b,c,d⟩:=h.xs c q
 exact⟨a,b,c,by simpa using d⟩
theorem Two.heap (h:Two w0 w X hb tgH tgS H M S vo vt qs ts)(hw:WentH w w0.heap.size hb tgH H' w'):TwoK w0 w w' X hb H' S vo vt ts:=by
 obtain⟨M',tg',k1,k2,k3⟩:=hw
 have key:∀b,b<w.heap.size→tgH b=0→tg' b=0:=fun b hl e=>by
  rcases Nat.eq_zero_or_pos (tg' b) with r | r
  ·exact r
  ·rcases k3 b (by omega) with c | c
   ·exact absurd e c
   ·omega
 refine⟨⟨tg',tgS,M',qs,k1,h.st.kept k2 (fun b q r=>q (h.ap b r)),h.tx.kept k2 (fun b q r=>r (h.at' b q).1),fun b q => ?_,fun b q=>⟨key b (h.tx.lt b q).2 (h.at' b q).1,(h.at' b q).2⟩,fun b q => ?_,k2.below h.bel h.bel.size (fun b q=>(h.hp.lt b q).1)⟩,fun b q=>k2.block b (h.xs b q).2.2.2 (fun r=>r (h.xs b q).1)⟩
 ·rcases k3 b q with c | c
  ·exact h.ap b c
  ·rcases Nat.eq_zero_or_pos (tgS b) with e | e
   ·exact e
   ·have:=(h.st.lt b (by omega)).2
    omega
 ·obtain⟨a,b',c,d⟩:=h.xs b q
  exact⟨key b d a,b',c,Nat.lt_of_lt_of_le d k2.size⟩
theorem Two.store (h:Two w0 w X hb tgH tgS H M S vo vt qs ts)(hw:SWent w w0.heap.size tgS S' vo' w'):TwoK w0 w w' X hb H S' vo' vt ts:=by
 obtain⟨tg',qs',k1,k2,k3⟩:=hw
 have key:∀b,b<w.heap.size→tgS b=0→tg' b=0:=fun b hl e=>by
  rcases Nat.eq_zero_or_pos (tg' b) with r | r
  ·exact r
  ·rcases k3 b (by omega) with c | c
   ·exact absurd e c
   ·omega
 refine⟨⟨tgH,tg',M,qs',h.hp.kept k2 (fun b q r=>r (h.ap b q)),k1,h.tx.kept k2 (fun b q r=>r (h.at' b q).2),fun b q => ?_,fun b q=>⟨(h.at' b q).1,key b (h.tx.lt b q).2 (h.at' b q).2⟩,fun b q => ?_,k2.below h.bel h.bel.size (fun b q=>(h.st.lt b q).1)⟩,fun b q=>k2.block b (h.xs b q).2.2.2 (fun r=>r (h.xs b q).2.1)⟩
 ·exact key b (h.hp.lt b q).2 (h.ap b q)
 ·obtain⟨a,b',c,d⟩:=h.xs b q
  exact⟨a,key b d b',c,Nat.lt_of_lt_of_le d k2.size⟩
theorem TwoE.same (h:TwoE w0 w X hb H S vo vt ts)(hB:Below w.heap.size w w'):TwoK w0 w w' X hb H S vo vt ts:=⟨h.below hB,fun b q=>hB.block b (h.lt q)⟩
theorem make_e (h:TwoE w0 w X hb H S vo vt ts)(kind p:Int)(p0:0≤p)(p1:p<18446744073709551616) :
  Calls Tryz.prog 18 #[.pointer (some ⟨hb,0,none⟩),.int .i64 kind,.int .u64 p] w fun e w'=>e = .returned (.tuple #[.int .u64 (if mkNo H kind p=true then undW else objW (H.obs.length:Int)),.bool (!mkNo H kind p)])∧TwoK w0 w w' X hb (makeF H kind p) S vo vt ts:=by
 obtain⟨tgH,tgS,M,qs,h⟩:=h
 refine(make_full h.hp kind p p0 p1).mono ?_
 rintro e w' ⟨rfl,q⟩
 exact⟨rfl,h.heap q⟩
theorem close_e (h:TwoE w0 w X hb H S vo vt ts)(o:Int)(o0:0≤o)(o1:o<18446744073709551616) :
  Calls Tryz.prog 38 #[.pointer (some ⟨hb,0,none⟩),.int .u64 o] w fun e w'=>e = .returned (.tuple #[])∧TwoK w0 w w' X hb (closeH H o) S vo vt ts:=by
 obtain⟨tgH,tgS,M,qs,h⟩:=h
 refine(close_any h.hp o o0 o1).mono ?_
 rintro e w' ⟨rfl,q⟩
 exact⟨rfl,h.heap ⟨_,q⟩⟩
theorem rmake_e (h:TwoE w0 w X hb H S vo vt ts)(kind p:Int)(p0:0≤p)(p1:p<18446744073709551616) :
  Calls Tryz.prog 29 #[stV vo vt,.int .i64 kind,.int .u64 p] w fun e w'=>∃vo',e = .returned (.tuple #[stV vo' vt,.int .u64 (if noS S kind p=true then undW else objW (S.length:Int)),.bool (!noS S kind p)])∧TwoK w0 w w' X hb H (makeG S kind p) vo' vt ts:=by
 obtain⟨tgH,tgS,M,qs,h⟩:=h
 refine(rmake_full h.st h.bel.size vt kind p p0 p1).mono ?_
 rintro e w' ⟨vo',rfl,q⟩
 exact⟨vo',rfl,h.store q⟩
theorem rshut_e (h:TwoE w0 w X hb H S vo vt ts)(o:Int)(o0:0≤o)(o1:o<18446744073709551616) :
  Calls Tryz.prog 39 #[stV vo vt,.int .u64 o] w fun e w'=>e = .returned (stV vo vt)∧TwoK w0 w w' X hb H (shutG S o) vo vt ts:=by
 obtain⟨tgH,tgS,M,qs,h⟩:=h
 refine(rshut_full h.st vt o o0 o1).mono ?_
 rintro e w' ⟨rfl,q⟩
 exact⟨rfl,h.store q⟩
end
theorem kinds (k:Int):k=0∨k=1∨k=2∨k=3∨k=4∨k=5∨k=6∨k=7∨k=8∨k=9∨k=10∨(∀j:Int,0≤j→j≤10→¬k=j):=by
 by_cases c:0≤k∧k≤10
 ·omega
 ·exact Or.inr (Or.inr (Or.inr (Or.inr (Or.inr (Or.inr (Or.inr (Or.inr (Or.inr (Or.inr (Or.inr (fun j a b e=>c ⟨by omega,by omega⟩)))))))))))
structure Ord (H:He)(S:List So)(ts:List ByteArray)(n:Nat):Prop where
 rel:RelG H S ts
 inv:H.inv (n:Int)
 kd:∀x∈S,∀d∈x.ds,keptI d.fl=d.fl
 cl:H.C.length≤65536*n
section
variable {H H':He}{S:List So}{ts:List ByteArray}{n:Nat}
end
end Go.Proofs.YtahhionlbfhinabGreatDoor.Hp
namespace Go.Proofs.YtahhionlbfhinabGreatDoor.Hp
open Go.RowKit Go.ChangeShapes Go.WideShapes
theorem some_bulk {H:Type}(d:DataW H):1≤Rows.uptoBulk d:=by
 cases d with
 | lit l=>cases l <;> simp[Rows.uptoBulk]
 | _=>simp[Rows.uptoBulk]
theorem mem_bulk {H:Type}{d:DataW H}:∀ {l:List (DataW H)},d∈l→Rows.uptoBulk d≤Rows.uptoBulkAll l
 | x :: l,h=>by
   simp only[Rows.uptoBulkAll]
   rcases List.mem_cons.1 h with rfl | h
   ·omega
   ·have:=mem_bulk h
    omega
theorem all_bulk {H:Type}(c:Nat):∀l:List (DataW H),(∀d∈l,c≤Rows.uptoBulk d)→c*l.length≤Rows.uptoBulkAll l
 | [],_=>by simp
 | x :: l,h=>by
   have h1:=h x (by simp)
   have h2:=all_bulk c l (fun d hd=>h d (by simp[hd]))
   simp only[Rows.uptoBulkAll,List.length_cons,Nat.mul_add,Nat.mul_one]
   omega
section
variable {H:Type}{enc:TypeId×Value→H}{w:World}{base:Nat}{spare:Nat→Bool}{held:Bool}
theorem open_slx {α:Type}{t e:TypeId}{k c fuel:Nat}{cs:List Value}{x:DataW H×List MemPlace}(enc':α→List Value)(good:α→DataW H→Prop)
  (ht:Tryz.prog.underlying t=some (.slice e)) (hk:Tryz.prog.cellsOf e=k) (hk0:0<k) (hlen:∀y,(enc' y).length=k)
  (elem:∀n cs' x',DataW.trod enc Tryz.prog w base spare held n e cs'=some x'→∃y,cs'=enc' y∧good y x'.1) (hc:∀y d,good y d→c≤Rows.uptoBulk d)
  (h:DataW.trod enc Tryz.prog w base spare held fuel t cs=some x) :
  ∃s:Sli α,cs=[s.val]∧s.ok enc' k w∧(∀y∈s.xs,∃d,good y d∧Rows.uptoBulk d≤Rows.uptoBulk x.1)∧c*s.xs.length≤Rows.uptoBulk x.1:=by
 rcases Go.Deep.open_slice ht h with⟨rfl,rfl⟩ | ⟨a,len,cap,m,n,D,Pl,rfl,hb,hl,hm,hmm,rfl,hx⟩
 ·exact⟨⟨none,0,[]⟩,rfl,⟨Nat.le_refl _,Nat.zero_le _,fun h=>absurd rfl h⟩,(fun y hy=>by cases hy),by simp⟩
 ·have hlm:len≤m:=by rw[hmm];split <;> omega
  have hall:∀i:Fin len,∃y,good y (D i.val)∧∀j,j<k→w.cell? ((a.add (i.val*k)).add j)=(enc' y)[j]?:=by
   intro i
   obtain⟨cs',h1,h2⟩:=hx i.val (by omega)
   obtain⟨y,rfl,hg⟩:=elem n cs' _ h2
   rw[hk] at h1
   obtain⟨_,_,hcell⟩:=World.cells?_some h1
   exact⟨y,hg,hcell⟩
  let f:Fin len→α:=fun i=>Classical.choose (hall i)
  have hf:∀i,good (f i) (D i.val)∧∀j,j<k→w.cell? ((a.add (i.val*k)).add j)=(enc' (f i))[j]?:=fun i=>Classical.choose_spec (hall i)
  have hbk:Rows.uptoBulk (DataW.slice ((List.range len).map D) ((List.range (m - len)).map fun j=>D (len+j)))=Rows.uptoBulkAll ((List.range len).map D)+Rows.uptoBulkAll ((List.range (m - len)).map fun j=>D (len+j))+1:=by simp only[Rows.uptoBulk]
  refine⟨⟨some a,cap,List.ofFn f⟩,by simp[Sli.val],⟨by simpa using hl,hm,fun h0 => ?_⟩,?_,?_⟩
  ·have lpos:0<len:=by
    rcases Nat.eq_zero_or_pos len with c | c
    ·subst c
     exact absurd (by simp) h0
    ·exact c
   have h1:=(hf ⟨0,lpos⟩).2 0 hk0
   have hsp:a.spot=none:=by
    have h2:(enc' (f ⟨0,lpos⟩))[0]?=some ((enc' (f ⟨0,lpos⟩))[0]'(by rw[hlen];exact hk0)):=List.getElem?_eq_getElem _
    rw[h2] at h1
    have e1:(a.add (0*k)).add 0=a:=by simp[Addr.add]
    rw[show((⟨0,lpos⟩:Fin len).val*k)=0*k from rfl,e1] at h1
    exact World.cell?_spot h1
   obtain⟨b,off,sp⟩:=a
   simp only at hsp
   subst hsp
   refine⟨b,off,rfl,?_⟩
   intro i y hi j u hj
   simp only[List.getElem?_ofFn] at hi
   split at hi
   ·rename_i c
    obtain rfl:=Option.some.inj hi
    have jl:j<k:=by
     rcases Nat.lt_or_ge j k with d | d
     ·exact d
     ·rw[List.getElem?_eq_none (by rw[hlen];exact d)] at hj;cases hj
    have h3:=(hf ⟨i,c⟩).2 j jl
    rw[hj] at h3
    rw[←h3]
    refine congrArg w.cell? ?_
    have ea:∀(p n:Nat),(⟨b,p,none⟩:Addr).add n=⟨b,p+n,none⟩:=by
     intro p n
     unfold Addr.add
     by_cases hn:n=0
     ·subst hn;simp
     ·simp[hn]
    rw[ea,ea]
   ·cases hi
  ·intro y hy
   simp only[List.mem_ofFn] at hy
   obtain⟨i,rfl⟩:=hy
   refine⟨D i.val,(hf i).1,?_⟩
   have:=mem_bulk (d:=D i.val) (l:=(List.range len).map D) (List.mem_map.2 ⟨i.val,List.mem_range.2 i.2,rfl⟩)
   show _≤Rows.uptoBulk (DataW.slice _ _)
   rw[hbk]
   omega
  ·have:=all_bulk c ((List.range len).map D) (fun d hd=>by
    obtain⟨i,hi,rfl⟩:=List.mem_map.1 hd
    exact hc _ _ (hf ⟨i,List.mem_range.1 hi⟩).1)
   show _≤Rows.uptoBulk (DataW.slice _ _)
   rw[hbk]
   simp only[List.length_map,List.length_range] at this
   simp only[List.length_ofFn]
   omega
end
end Go.Proofs.YtahhionlbfhinabGreatDoor.Hp
namespace Go.Proofs.YtahhionlbfhinabGreatDoor.Hp
open Go.RowKit
structure Ws where
 has:Int
 va:Int
 ge:Int
 se:Int
 fl:Int
def btB (h:Int)(b:Nat):Bool:=decide (h / (2 ^ b:Nat) % 2=1)
theorem nat_and_pow (x b:Nat):x &&& 2 ^ b=if x.testBit b=true then 2 ^ b else 0:=by
 apply Nat.eq_of_testBit_eq
 intro i
 rw[Nat.testBit_and,Nat.testBit_two_pow]
 by_cases c:b=i
 ·subst c
  cases h:x.testBit b
  ·simp
  ·simp
 ·rw[decide_eq_false c]
  cases h:x.testBit b
  ·simp
  ·simp[c]
theorem and_pow (n:Int)(b:Nat)(hb:b<63):bits .and .i64 n (2 ^ b:Nat)=if btB n b=true then ((2 ^ b:Nat):Int) else 0:=by
 have hp:2 ^ b<2 ^ 63:=Nat.pow_lt_pow_right (by omega) hb
 have h0:(BitVec.ofInt 64 ((2 ^ b:Nat):Int)).toNat=2 ^ b:=by
  have e:((2 ^ b:Nat):Int) % ((2 ^ 64:Nat):Int)=((2 ^ b:Nat):Int):=Int.emod_eq_of_lt (Int.natCast_nonneg _) (by exact_mod_cast Nat.lt_trans hp (by decide))
  rw[BitVec.toNat_ofInt,e,Int.toNat_natCast]
 have key:(BitVec.ofInt 64 n &&& BitVec.ofInt 64 ((2 ^ b:Nat):Int)).toNat=if btB n b=true then 2 ^ b else 0:=by
  rw[BitVec.toNat_and,h0,BitVec.toNat_ofInt,nat_and_pow]
  have e:((n % ((2 ^ 64:Nat):Int)).toNat).testBit b=btB n b:=by
   unfold btB
   rw[Nat.testBit_eq_decide_div_mod_eq]
   apply decide_eq_decide.2
   have hd:n / ((2 ^ b:Nat):Int) % 2=((n % ((2 ^ 64:Nat):Int)).toNat / 2 ^ b % 2:Nat):=by
    have hb2:(2 ^ 64:Nat)=2 ^ b*(2*2 ^ (63 - b)):=by
     rw[←Nat.mul_assoc,←Nat.pow_succ,←Nat.pow_add]
     congr 1
     omega
    have hm:n % ((2 ^ 64:Nat):Int)=n - ((2 ^ 64:Nat):Int)*(n / ((2 ^ 64:Nat):Int)):=Int.emod_def _ _
    have hnn:0≤n % ((2 ^ 64:Nat):Int):=Int.emod_nonneg _ (by decide)
    have hpos:(0:Int)<((2 ^ b:Nat):Int):=by exact_mod_cast Nat.pow_pos (by omega)
    have h1:(((n % ((2 ^ 64:Nat):Int)).toNat / 2 ^ b % 2:Nat):Int)=(n % ((2 ^ 64:Nat):Int)) / ((2 ^ b:Nat):Int) % 2:=by
     rw[Int.natCast_emod,Int.natCast_ediv,Int.toNat_of_nonneg hnn]
     rfl
    rw[h1,hm]
    generalize n / ((2 ^ 64:Nat):Int)=q
    rw[hb2,Int.natCast_mul,Int.natCast_mul,Int.mul_assoc,Int.mul_assoc]
    rw[Int.sub_eq_add_neg,←Int.mul_neg,Int.add_mul_ediv_left _ _ (by omega)]
    have:(((2:Nat):Int)*((((2 ^ (63 - b):Nat):Int))*q))=2*((((2 ^ (63 - b):Nat):Int))*q):=rfl
    rw[this]
    generalize (((2 ^ (63 - b):Nat):Int))*q=z
    generalize n / ((2 ^ b:Nat):Int)=y
    omega
   rw[hd]
   exact_mod_cast Iff.rfl
  rw[e]
 show IntKind.i64.wrap ((BitVec.ofInt 64 n &&& BitVec.ofInt 64 ((2 ^ b:Nat):Int)).toNat:Nat)=_
 rw[key,IntKind.wrap_i64]
 split
 ·omega
 ·rfl
end Go.Proofs.YtahhionlbfhinabGreatDoor.Hp
