/- YK, XE, XF, XG -/
import Derived.Test.YtahhionlbfhinaaGreatDoorB36
import Derived.Test.YtahhionlbfhinaaGreatDoorB29
import Derived.Test.YtahhionlbfhinaaGreatDoorB34
import Derived.Test.YtahhionlbfhinaaGreatDoorYM
import Derived.Test.YtahhionlbfhinaaGreatDoorB35
import Derived.Test.YtahhionlbfhinaaGreatDoorXA
import Derived.Test.YtahhionlbfhinaaGreatDoorB37
import Derived.Test.YtahhionlbfhinaaGreatDoorXD
import Derived.Test.YtahhionlbfhinaaGreatDoorB33
import Derived.Test.YtahhionlbfhinaaGreatDoorB17
set_option linter.unusedVariables false
set_option linter.unusedSimpArgs false
set_option maxRecDepth 100000
set_option maxHeartbeats 40000000
namespace Go.Proofs.YtahhionlbfhinaaGreatDoor.Hp
open Go.RowKit
structure OpP where
 kd:Int
 o:Int
 p:Int
 k:ByteArray
 u:Ws
 v:Int
 n:Int
def pH (H:He)(a:OpP):He :=
 if a.kd=0 then makeF H a.n a.p else if a.kd=1 then (defP H a.o a.k a.u).2 else if a.kd=2 then (delP H a.o a.k).2
 else if a.kd=3 then (asgP H a.o a.k a.v H.obs.length).2.2 else if a.kd=4 then (spP H a.o a.p).2 else if a.kd=8 then closeH H a.o else H
def pS (S:List So)(a:OpP):List So :=
 if a.kd=0 then makeG S a.n a.p else if a.kd=1 then (dfG S a.o a.k a.u).1 else if a.kd=2 then (delG' S a.o a.k).1
 else if a.kd=3 then (asgG S a.o a.k a.v).2.2 else if a.kd=4 then (spG S a.o a.p).1 else if a.kd=8 then shutG S a.o else S
def upH (H:He)(o:Int):Int:=((obO H o).map Ob.proto).getD nulW
def upN (H:He):Nat→Int→Int
 | 0,o=>o
 | n+1,o=>upN H n (upH H o)
section
variable {H H':He}{S S':List So}{ts:List ByteArray}{o o2:Int}{k k2:ByteArray}{i:Nat}{ob:Ob}{x y:So}{d:De}{n:Nat}
theorem OrP.step (h:OrP H S ts n)(hm:H.most≤256)(a:OpP):OrP (pH H a) (pS S a) ts (n+1):=by
 unfold pH pS
 split
 ·exact h.make hm _ _
 ·split
  ·exact(h.define hm _ _ _).1
  ·split
   ·exact(h.delete _ _).1
   ·split
    ·exact(h.assign hm _ _ _).1
    ·split
     ·exact(h.setProto hm _ _).1
     ·split
      ·exact h.close _
      ·exact h.mono (by omega)
theorem obO_nul (H:He):obO H nulW=none:=by
 have:obI H nulW=none:=by
  unfold obI
  rw[if_neg]
  rintro⟨a,_⟩
  have:isT nulW 65530=false:=by decide
  rw[this] at a
  cases a
 unfold obO
 rw[this]
 rfl
theorem upN_nul (H:He):∀n,upN H n nulW=nulW
 | 0=>rfl
 | n+1=>by
   have:upH H nulW=nulW:=by unfold upH;rw[obO_nul];rfl
   unfold upN
   rw[this]
   exact upN_nul H n
theorem up_ends:∀(N M:Nat)(o:Int),EndsH H N o→N<M→upN H M o=nulW
 | N,0,o,_,hm=>by omega
 | 0,M+1,o,he,_=>by
   have he:obO H o=none:=he
   have:upH H o=nulW:=by unfold upH;rw[he];rfl
   unfold upN
   rw[this]
   exact upN_nul H M
 | N+1,M+1,o,he,hm=>by
   unfold upN
   cases hq:obO H o with
   | none =>
     have:upH H o=nulW:=by unfold upH;rw[hq];rfl
     rw[this]
     exact upN_nul H M
   | some ob =>
     obtain⟨g',e,h2⟩:=ends_step he hq
     obtain rfl:N=g':=by omega
     have:upH H o=ob.proto:=by unfold upH;rw[hq];rfl
     rw[this]
     exact up_ends N M ob.proto h2 (by omega)
theorem OrP.rings (h:OrP H S ts n)(o:Int):upN H (S.length+1) o=nulW :=
 up_ends H.obs.length (S.length+1) o (h.inv.acy o) (by rw[h.rel.len];omega)
end
section
variable {w0 w w':World}{X:Nat→Prop}{hb:Nat}{H H':He}{S S':List So}{vo vo' vt vt':SV}{ts:List ByteArray}{n:Nat}
theorem OrP.gdH (h:OrP H S ts n):H.gd (n:Int):=⟨h.inv.neat,h.inv.hms,h.inv.nx⟩
theorem OrP.nm (h:OrP H S ts n)(hn:n≤1999999999999):∀x∈S,x.nm.length≤1999999999999:=by
 intro x hx
 obtain⟨i,hi⟩:=List.mem_iff_getElem?.1 hx
 have hil:i<H.obs.length:=by rw[h.rel.len];exact(List.getElem?_eq_some_iff.1 hi).1
 have e1:H.obs[i]?=some H.obs[i]:=List.getElem?_eq_getElem hil
 have hb:=h.rel.ob i _ _ e1 hi
 have hm:=List.mem_of_getElem? e1
 have h1:=(h.inv.neat _ hm).pl
 have h2:=h.inv.nx _ hm
 rw[hb.nm,List.length_map]
 omega
theorem OrP.key (h:OrP H S ts n){x:So}(hx:x∈S):∃ob∈H.obs,RelB ob x:=by
 obtain⟨i,hi⟩:=List.mem_iff_getElem?.1 hx
 have hil:i<H.obs.length:=by rw[h.rel.len];exact(List.getElem?_eq_some_iff.1 hi).1
 have e1:H.obs[i]?=some H.obs[i]:=List.getElem?_eq_getElem hil
 exact⟨_,List.mem_of_getElem? e1,h.rel.ob i _ _ e1 hi⟩
theorem OrP.pr (h:OrP H S ts n)(hw:H.wf):∀x∈S,0≤x.proto∧x.proto<18446744073709551616:=fun x hx=>by
 obtain⟨ob,h1,h2⟩:=h.key hx
 rw[←h2.pr]
 exact(hw.ob ob h1).pr
theorem OrP.els (h:OrP H S ts n)(hw:H.wf):∀x∈S,x.el.length≤4096:=fun x hx=>by
 obtain⟨ob,h1,h2⟩:=h.key hx
 rw[←h2.el]
 exact(hw.ob ob h1).el
theorem pown_e (h:TwoE w0 w X hb H S vo vt ts)(hO:OrP H S ts n)(o:Int)(o0:0≤o)(o1:o<18446744073709551616)(k:ByteArray)(hk:k.size≤maxLen) :
  Calls Tryz.prog 18 #[.pointer (some ⟨hb,0,none⟩),.int .u64 o,.string k] w fun e w'=>e = .returned (.tuple #[deV ((ownH H o k).getD zDe),.bool (ownH H o k).isSome])∧Below w.heap.size w w':=by
 have h':=h
 have hwf:=h.wf
 obtain⟨tgH,tgS,M,qs,h⟩:=h
 refine(own_at h.hp hO.inv.neat o o0 o1 k hk).mono ?_
 rintro e w' ⟨rfl,q⟩
 exact⟨rfl,q⟩
theorem plook_e (h:TwoE w0 w X hb H S vo vt ts)(hO:OrP H S ts n)(o:Int)(o0:0≤o)(o1:o<18446744073709551616)(k:ByteArray)(hk:k.size≤maxLen) :
  Calls Tryz.prog 33 #[.pointer (some ⟨hb,0,none⟩),.int .u64 o,.string k] w fun e w'=>e = .returned (.tuple #[.int .u64 (((lookF H k H.obs.length o).map Prod.fst).getD undW),deV (((lookF H k H.obs.length o).map Prod.snd).getD zDe),.bool (lookF H k H.obs.length o).isSome])∧Below w.heap.size w w':=by
 have h':=h
 have hwf:=h.wf
 obtain⟨tgH,tgS,M,qs,h⟩:=h
 refine(lookup_at h.hp hO.inv.neat o o0 o1 k hk _ (hO.inv.acy o)).mono ?_
 rintro e w' ⟨rfl,q⟩
 exact⟨rfl,q⟩
theorem pdefine_e (h:TwoE w0 w X hb H S vo vt ts)(hO:OrP H S ts n)(hF:FpAt w)(hn:n≤1999999999999)(o:Int)(o0:0≤o)(o1:o<18446744073709551616)(k:ByteArray)(hk:k.size≤maxLen)(u:Ws)(hu:u.ok) :
  Calls Tryz.prog 16 #[.pointer (some ⟨hb,0,none⟩),.int .u64 o,.string k,wsV u] w fun e w'=>e = .returned (.bool (defP H o k u).1)∧TwoK w0 w w' X hb (defP H o k u).2 S vo vt ts:=by
 have h':=h
 have hwf:=h.wf
 obtain⟨tgH,tgS,M,qs,h⟩:=h
 refine(define_at h.hp hF hO.gdH (by omega) o o0 o1 k hk u hu).mono ?_
 rintro e w' ⟨rfl,q⟩
 exact⟨rfl,h.heap q⟩
theorem pdelete_e (h:TwoE w0 w X hb H S vo vt ts)(hO:OrP H S ts n)(o:Int)(o0:0≤o)(o1:o<18446744073709551616)(k:ByteArray)(hk:k.size≤maxLen) :
  Calls Tryz.prog 34 #[.pointer (some ⟨hb,0,none⟩),.int .u64 o,.string k] w fun e w'=>e = .returned (.bool (delP H o k).1)∧TwoK w0 w w' X hb (delP H o k).2 S vo vt ts:=by
 have h':=h
 have hwf:=h.wf
 obtain⟨tgH,tgS,M,qs,h⟩:=h
 refine(pdelete_at h.hp hO.inv.neat o o0 o1 k hk).mono ?_
 rintro e w' ⟨rfl,q⟩
 exact⟨rfl,h.heap q⟩
theorem passign_e (h:TwoE w0 w X hb H S vo vt ts)(hO:OrP H S ts n)(hF:FpAt w)(hn:n≤1999999999999)(o:Int)(o0:0≤o)(o1:o<18446744073709551616)(k:ByteArray)(hk:k.size≤maxLen)(v:Int)(hv:0≤v∧v<18446744073709551616) :
  Calls Tryz.prog 31 #[.pointer (some ⟨hb,0,none⟩),.int .u64 o,.string k,.int .u64 v] w fun e w'=>e = .returned (.tuple #[.int .u64 (asgP H o k v H.obs.length).1,.int .i64 (asgP H o k v H.obs.length).2.1])∧TwoK w0 w w' X hb (asgP H o k v H.obs.length).2.2 S vo vt ts:=by
 have h':=h
 have hwf:=h.wf
 obtain⟨tgH,tgS,M,qs,h⟩:=h
 refine(assign_at h.hp hF hO.gdH (by omega) o o0 o1 k hk v hv _ (hO.inv.acy o)).mono ?_
 rintro e w' ⟨rfl,q⟩
 exact⟨rfl,h.heap q⟩
theorem psetProto_e (h:TwoE w0 w X hb H S vo vt ts)(hO:OrP H S ts n)(o:Int)(o0:0≤o)(o1:o<18446744073709551616)(p:Int)(p0:0≤p)(p1:p<18446744073709551616) :
  Calls Tryz.prog 37 #[.pointer (some ⟨hb,0,none⟩),.int .u64 o,.int .u64 p] w fun e w'=>e = .returned (.bool (spP H o p).1)∧TwoK w0 w w' X hb (spP H o p).2 S vo vt ts:=by
 have h':=h
 have hwf:=h.wf
 obtain⟨tgH,tgS,M,qs,h⟩:=h
 refine(psetProto_at h.hp hO.inv.acy hO.inv.abv o p o0 o1 p0 p1).mono ?_
 rintro e w' ⟨rfl,q⟩
 exact⟨rfl,h.heap q⟩
theorem rown_e (h:TwoE w0 w X hb H S vo vt ts){H1:He}(hO:OrP H1 S ts n)(hwf:H1.wf)(o:Int)(o0:0≤o)(o1:o<18446744073709551616)(k:ByteArray)(hk:k.size≤maxLen) :
  Calls Tryz.prog 19 #[stV vo vt,.int .u64 o,.string k] w fun e w'=>e = .returned (.tuple #[deV (((soO S o).bind (fun x=>ownS x k)).getD zDe),.bool ((soO S o).bind (fun x=>ownS x k)).isSome])∧Below w.heap.size w w':=by
 have h':=h
 obtain⟨tgH,tgS,M,qs,h⟩:=h
 refine(rown_o h.st vt o o0 o1 k hk).mono ?_
 rintro e w' ⟨rfl,q⟩
 exact⟨rfl,q⟩
theorem rlook_e (h:TwoE w0 w X hb H S vo vt ts){H1:He}(hO:OrP H1 S ts n)(hwf:H1.wf)(o:Int)(o0:0≤o)(o1:o<18446744073709551616)(k:ByteArray)(hk:k.size≤maxLen) :
  Calls Tryz.prog 39 #[stV vo vt,.int .u64 o,.string k] w fun e w'=>e = .returned (.tuple #[.int .u64 (((lookS S k (S.length+1) o).map Prod.fst).getD undW),deV (((lookS S k (S.length+1) o).map Prod.snd).getD zDe),.bool (lookS S k (S.length+1) o).isSome])∧Below w.heap.size w w':=by
 have h':=h
 obtain⟨tgH,tgS,M,qs,h⟩:=h
 refine(rlookup_any h.st vt (hO.pr hwf) o o0 o1 k hk).mono ?_
 rintro e w' ⟨rfl,q⟩
 exact⟨rfl,q⟩
theorem rdefine_e (h:TwoE w0 w X hb H S vo vt ts){H1:He}(hO:OrP H1 S ts n)(hwf:H1.wf)(hn:n≤1999999999999)(o:Int)(o0:0≤o)(o1:o<18446744073709551616)(k:ByteArray)(hk:k.size≤maxLen)(u:Ws)(hu:u.ok) :
  Calls Tryz.prog 17 #[stV vo vt,.int .u64 o,.string k,wsV u] w fun e w'=>e = .returned (.tuple #[stV vo vt,.bool (dfG S o k u).2])∧TwoK w0 w w' X hb H (dfG S o k u).1 vo vt ts:=by
 have h':=h
 obtain⟨tgH,tgS,M,qs,h⟩:=h
 refine(rdefine_full h.st vt (hO.nm hn) (hO.els hwf) o o0 o1 k hk u hu).mono ?_
 rintro e w' ⟨rfl,q⟩
 exact⟨rfl,h.store q⟩
theorem rdelete_e (h:TwoE w0 w X hb H S vo vt ts){H1:He}(hO:OrP H1 S ts n)(hwf:H1.wf)(hn:n≤1999999999999)(o:Int)(o0:0≤o)(o1:o<18446744073709551616)(k:ByteArray)(hk:k.size≤maxLen) :
  Calls Tryz.prog 35 #[stV vo vt,.int .u64 o,.string k] w fun e w'=>e = .returned (.tuple #[stV vo vt,.bool (delG' S o k).2])∧TwoK w0 w w' X hb H (delG' S o k).1 vo vt ts:=by
 have h':=h
 obtain⟨tgH,tgS,M,qs,h⟩:=h
 refine(rdelete_full h.st vt (hO.nm hn) (hO.els hwf) o o0 o1 k hk).mono ?_
 rintro e w' ⟨rfl,q⟩
 exact⟨rfl,h.store q⟩
theorem rassign_e (h:TwoE w0 w X hb H S vo vt ts){H1:He}(hO:OrP H1 S ts n)(hwf:H1.wf)(hn:n≤1999999999999)(o:Int)(o0:0≤o)(o1:o<18446744073709551616)(k:ByteArray)(hk:k.size≤maxLen)(v:Int)(hv:0≤v∧v<18446744073709551616) :
  Calls Tryz.prog 36 #[stV vo vt,.int .u64 o,.string k,.int .u64 v] w fun e w'=>e = .returned (.tuple #[stV vo vt,.int .u64 (asgG S o k v).1,.int .i64 (asgG S o k v).2.1])∧TwoK w0 w w' X hb H (asgG S o k v).2.2 vo vt ts:=by
 have h':=h
 obtain⟨tgH,tgS,M,qs,h⟩:=h
 refine(rassign_of h.st vt (hO.pr hwf) o o0 o1 k hk v hv (fun W tg' qs' st u hu=>rdefine_full st vt (hO.nm hn) (hO.els hwf) o o0 o1 k hk u hu)).mono ?_
 rintro e w' ⟨rfl,q⟩
 exact⟨rfl,h.store q⟩
theorem rsetProto_e (h:TwoE w0 w X hb H S vo vt ts){H1:He}(hO:OrP H1 S ts n)(hwf:H1.wf)(o:Int)(o0:0≤o)(o1:o<18446744073709551616)(p:Int)(p0:0≤p)(p1:p<18446744073709551616) :
  Calls Tryz.prog 38 #[stV vo vt,.int .u64 o,.int .u64 p] w fun e w'=>e = .returned (.tuple #[stV vo vt,.bool (spG S o p).2])∧TwoK w0 w w' X hb H (spG S o p).1 vo vt ts:=by
 have h':=h
 obtain⟨tgH,tgS,M,qs,h⟩:=h
 refine(rsetProto_full h.st vt (hO.pr hwf) o o0 o1 p p0 p1).mono ?_
 rintro e w' ⟨rfl,q⟩
 exact⟨rfl,h.store q⟩
theorem pkeys_e (h : TwoE w0 w X hb H S vo vt ts) (hO : OrP H S ts n) (hT : Lib.TabIs Tryz.prog w "internal/strconv.uint64pow10" .u64 Lib.pow10Tab) (o : Int) (o0 : 0 ≤ o) (o1 : o < 18446744073709551616) :
  Calls Tryz.prog 88 #[.pointer (some ⟨hb,0,none⟩),.int .u64 o] w fun e w'=>∃s:SV,e = .returned s.val∧OwnR strC 1 9 w.heap.size w' s.val (keysP H o)∧Below w.heap.size w w':=by
 obtain⟨tgH,tgS,M,qs,h⟩:=h
 exact pkeys_at h.hp hO.inv.neat hT o o0 o1
theorem rkeys_e (h:TwoE w0 w X hb H S vo vt ts)(hO:OrP H S ts n)(hn:n≤1999999999999)(o:Int)(o0:0≤o)(o1:o<18446744073709551616) :
  Calls Tryz.prog 89 #[stV vo vt,.int .u64 o] w fun e w'=>∃s:SV,e = .returned s.val∧OwnR strC 1 9 w.heap.size w' s.val (keysG S o)∧Below w.heap.size w w':=by
 have hwf:=h.wf
 obtain⟨tgH,tgS,M,qs,h⟩:=h
 unfold keysG
 cases hs:soO S o with
 | none =>
   refine(rkeys_miss h.st vt o o0 o1 hs).mono ?_
   rintro e w' ⟨rfl,q⟩
   exact⟨.nil,rfl,OwnR.nil _ _,q⟩
 | some x =>
   have hxm:x∈S:=by
    unfold soO at hs
    cases e:obS S o with
    | none=>rw[e] at hs;cases hs
    | some i=>rw[e] at hs;exact List.mem_of_getElem? hs
   exact rkeys_hit h.st vt o o0 o1 hs (hO.nm hn x hxm) (hO.els hwf x hxm)
end
def XbP (w:World)(X:Nat→Prop)(b:Nat):Prop:=X b∨(w.heap.size≤b∧b<w.heap.size+3)
structure OnP (w0 w W:World)(X:Nat→Prop)(hb:Nat)(H:He)(S:List So)(vo vt:SV)(ts:List ByteArray)(vS tS:SV)(cs:Array Value)(vR tR:SV):Prop where
 two:TwoE w0 W (XbP w X) hb H S vo vt ts
 kp:∀b,X b→W.heap[b]?=w.heap[b]?
 xl:∀b,X b→b<w.heap.size
 lo:w0.heap.size≤w.heap.size
 s:BxS W w.heap.size vS tS
 o:W.heap[w.heap.size+1]?=some (.cells cs 37 (0,0))
 r:BxS W (w.heap.size+1+1) vR tR
section
variable {w0 w W W':World}{X:Nat→Prop}{hb:Nat}{H H':He}{S S':List So}{vo vo' vt vt':SV}{ts ts':List ByteArray}{vS tS vR tR:SV}{cs:Array Value}
theorem OnP.start (h:TwoE w0 w X hb H S vo vt ts)(cs:Array Value):OnP w0 w (((w.alloc (.cells #[vo.val,vt.val] 28)).alloc (.cells cs 37)).alloc (.cells #[.slice none 0 0,.slice none 0 0] 28)) X hb H S vo vt ts vo vt cs .nil .nil:=by
 have z1:=size_new w (.cells #[vo.val,vt.val] 28)
 have z2:=size_new (w.alloc (.cells #[vo.val,vt.val] 28)) (.cells cs 37)
 have z3:=size_new ((w.alloc (.cells #[vo.val,vt.val] 28)).alloc (.cells cs 37)) (.cells #[.slice none 0 0,.slice none 0 0] 28)
 have hB:Below w.heap.size w (((w.alloc (.cells #[vo.val,vt.val] 28)).alloc (.cells cs 37)).alloc (.cells #[.slice none 0 0,.slice none 0 0] 28)):=below_new (B2 w _ _) (by rw[z2,z1];omega) _
 refine⟨(h.box hB).mono (fun b q=>q.imp id (fun q=>⟨q.1,by rw[z3,z2,z1];exact q.2⟩)),fun b q=>hB.block b (h.lt q),fun b q=>h.lt q,h.bel.size,?_,?_,?_⟩
 ·exact at_old _ _ _ _ (at_old _ _ _ _ (at_new _ _))
 ·exact at_old _ _ _ _ (at_two _ _ _)
 ·have:=at_new ((w.alloc (.cells #[vo.val,vt.val] 28)).alloc (.cells cs 37)) (.cells #[.slice none 0 0,.slice none 0 0] 28)
  rw[z2,z1] at this
  exact this
theorem OnP.call (h:OnP w0 w W X hb H S vo vt ts vS tS cs vR tR)(k:TwoK w0 W W' (XbP w X) hb H' S' vo' vt' ts'):OnP w0 w W' X hb H' S' vo' vt' ts' vS tS cs vR tR:=by
 have e:∀j,j<3→W'.heap[w.heap.size+j]?=W.heap[w.heap.size+j]?:=fun j hj=>k.kp _ (Or.inr ⟨by omega,by omega⟩)
 refine⟨k.two,fun b q=>(k.kp b (Or.inl q)).trans (h.kp b q),h.xl,h.lo,?_,?_,?_⟩
 ·exact(e 0 (by omega)).trans h.s
 ·exact(e 1 (by omega)).trans h.o
 ·exact(e 2 (by omega)).trans h.r
theorem OnP.same (h:OnP w0 w W X hb H S vo vt ts vS tS cs vR tR)(hB:Below W.heap.size W W'):OnP w0 w W' X hb H S vo vt ts vS tS cs vR tR:=h.call (h.two.same hB)
theorem OnP.xne (h:OnP w0 w W X hb H S vo vt ts vS tS cs vR tR){b k:Nat}(q:X b)(hk:w.heap.size≤k):b≠k:=by have:=h.xl b q;omega
theorem OnP.set2 (h:OnP w0 w W X hb H S vo vt ts vS tS cs vR tR)(va ta:SV):OnP w0 w ((W.setCell ⟨w.heap.size+1+1,0,none⟩ va.val).setCell ⟨w.heap.size+1+1,1,none⟩ ta.val) X hb H S vo vt ts vS tS cs va ta:=by
 have z0:=heap_setCell_same _ (w.heap.size+1+1) 0 _ _ va.val h.r
 have z1:=heap_setCell_same _ (w.heap.size+1+1) 1 _ _ ta.val z0
 have hc:Chg (fun b=>b=w.heap.size+1+1) W ((W.setCell ⟨w.heap.size+1+1,0,none⟩ va.val).setCell ⟨w.heap.size+1+1,1,none⟩ ta.val) :=
  (Chg.set (S:=fun b=>b=w.heap.size+1+1) W ⟨w.heap.size+1+1,0,none⟩ va.val rfl).trans (Chg.set (S:=fun b=>b=w.heap.size+1+1) _ ⟨w.heap.size+1+1,1,none⟩ ta.val rfl) (fun _ _ e=>e)
 have hl:=h.lo
 refine⟨(h.two.set (b:=w.heap.size+1+1) (Or.inr ⟨by omega,by omega⟩) (by omega) 0 _).set (b:=w.heap.size+1+1) (Or.inr ⟨by omega,by omega⟩) (by omega) 1 _,fun b q => ?_,h.xl,h.lo,h.s.kept hc (by omega),?_,z1⟩
 ·have hbl:b<W.heap.size:=h.two.lt (Or.inl q)
  rw[hc.block b hbl (h.xne q (by omega))]
  exact h.kp b q
 ·rw[hc.block _ (Array.getElem?_eq_some_iff.1 h.o).1 (by omega)]
  exact h.o
theorem OnP.fin (h:OnP w0 w W X hb H S vo vt ts vS tS cs vR tR):TwoK w0 w W X hb H S vo vt ts:=⟨h.two.mono (fun b q=>Or.inl q),h.kp⟩
theorem OnP.oc (h:OnP w0 w W X hb H S vo vt ts vS tS cs vR tR)(j:Nat){v:Value}(hj:cs[j]?=some v):W.cell? ⟨w.heap.size+1,j,none⟩=some v:=by
 rw[cell_of_row W _ j cs _ (0,0) h.o]
 exact hj
end
def OpP.cells (a:OpP):Array Value:=#[.int .i64 a.kd,.int .u64 a.o,.int .u64 a.p,.string a.k,.int .i64 a.u.has,.int .u64 a.u.va,.int .u64 a.u.ge,.int .u64 a.u.se,.int .i64 a.u.fl,.int .u64 a.v,.int .i64 a.n]
def OpP.val (a:OpP):Value := .agg a.cells
structure OpP.wf (a:OpP):Prop where
 o0:0≤a.o
 o1:a.o<18446744073709551616
 p0:0≤a.p
 p1:a.p<18446744073709551616
 kl:a.k.size≤maxLen
 u:a.u.ok
 v:0≤a.v∧a.v<18446744073709551616
structure TbAt (w:World):Prop where
 fp:FpAt w
 pw : Lib.TabIs Tryz.prog w "internal/strconv.uint64pow10" .u64 Lib.pow10Tab
theorem TbAt.below {w w':World}(h:TbAt w)(hb:Below w.heap.size w w'):TbAt w':=⟨h.fp.below hb,(Lib.tabBelow_of_tabIs h.pw) w' hb⟩
theorem kindsP (k:Int):k=0∨k=1∨k=2∨k=3∨k=4∨k=5∨k=6∨k=8∨(∀j:Int,(j=0∨j=1∨j=2∨j=3∨j=4∨j=5∨j=6∨j=8)→¬k=j):=by
 by_cases c:k=0∨k=1∨k=2∨k=3∨k=4∨k=5∨k=6∨k=8
 ·omega
 ·exact Or.inr (Or.inr (Or.inr (Or.inr (Or.inr (Or.inr (Or.inr (Or.inr (fun j hj e=>c (by omega)))))))))
section
variable {H:He}{S:List So}{a:OpP}
theorem pH_0 (h:a.kd=0):pH H a=makeF H a.n a.p:=by unfold pH;rw[h];rfl
theorem pS_0 (h:a.kd=0):pS S a=makeG S a.n a.p:=by unfold pS;rw[h];rfl
theorem pH_1 (h:a.kd=1):pH H a=(defP H a.o a.k a.u).2:=by unfold pH;rw[h];rfl
theorem pS_1 (h:a.kd=1):pS S a=(dfG S a.o a.k a.u).1:=by unfold pS;rw[h];rfl
theorem pH_2 (h:a.kd=2):pH H a=(delP H a.o a.k).2:=by unfold pH;rw[h];rfl
theorem pS_2 (h:a.kd=2):pS S a=(delG' S a.o a.k).1:=by unfold pS;rw[h];rfl
theorem pH_3 (h:a.kd=3):pH H a=(asgP H a.o a.k a.v H.obs.length).2.2:=by unfold pH;rw[h];rfl
theorem pS_3 (h:a.kd=3):pS S a=(asgG S a.o a.k a.v).2.2:=by unfold pS;rw[h];rfl
theorem pH_4 (h:a.kd=4):pH H a=(spP H a.o a.p).2:=by unfold pH;rw[h];rfl
theorem pS_4 (h:a.kd=4):pS S a=(spG S a.o a.p).1:=by unfold pS;rw[h];rfl
theorem pH_5 (h:a.kd=5):pH H a=H:=by unfold pH;rw[h];rfl
theorem pS_5 (h:a.kd=5):pS S a=S:=by unfold pS;rw[h];rfl
theorem pH_6 (h:a.kd=6):pH H a=H:=by unfold pH;rw[h];rfl
theorem pS_6 (h:a.kd=6):pS S a=S:=by unfold pS;rw[h];rfl
theorem pH_8 (h:a.kd=8):pH H a=closeH H a.o:=by unfold pH;rw[h];rfl
theorem pS_8 (h:a.kd=8):pS S a=shutG S a.o:=by unfold pS;rw[h];rfl
theorem pH_no (h:∀j:Int,(j=0∨j=1∨j=2∨j=3∨j=4∨j=5∨j=6∨j=8)→¬a.kd=j):pH H a=H:=by
 unfold pH
 rw[if_neg (h 0 (by omega)),if_neg (h 1 (by omega)),if_neg (h 2 (by omega)),if_neg (h 3 (by omega)),if_neg (h 4 (by omega)),if_neg (h 8 (by omega))]
theorem pS_no (h:∀j:Int,(j=0∨j=1∨j=2∨j=3∨j=4∨j=5∨j=6∨j=8)→¬a.kd=j):pS S a=S:=by
 unfold pS
 rw[if_neg (h 0 (by omega)),if_neg (h 1 (by omega)),if_neg (h 2 (by omega)),if_neg (h 3 (by omega)),if_neg (h 4 (by omega)),if_neg (h 8 (by omega))]
end
end Go.Proofs.YtahhionlbfhinaaGreatDoor.Hp
