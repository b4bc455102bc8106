/- XA -/
import Derived.Test.YtahhionlbfhinabGreatDoorB32
import Derived.Test.YtahhionlbfhinabGreatDoorB29
import Derived.Test.YtahhionlbfhinabGreatDoorB27
import Derived.Test.YtahhionlbfhinabGreatDoorB15
import Derived.Test.YtahhionlbfhinabGreatDoorB34
import Derived.Deep.CutRange
import Derived.Deep.CutBlock
set_option linter.unusedVariables false
set_option linter.unusedSimpArgs false
set_option maxRecDepth 100000
set_option maxHeartbeats 40000000
namespace Go.Proofs.YtahhionlbfhinabGreatDoor.Hp
open Go.RowKit
section
variable {w W W':World}{B:Nat}{tg:Nat→Nat}{S:List So}{vo vt:SV}{qs:List QV}{u:Ws}{i:Nat}{x:So}
theorem DfS.no2 (h0:StAt w B tg S vo qs)(h:DfS w W B tg S vo vt qs u):((W.setCell ⟨w.heap.size+2,0,none⟩ vo.val).setCell ⟨w.heap.size+2,1,none⟩ vt.val).heap[w.heap.size+2]?=some (.cells #[vo.val,vt.val] 33 (0,0))∧SWent w B tg S vo ((W.setCell ⟨w.heap.size+2,0,none⟩ vo.val).setCell ⟨w.heap.size+2,1,none⟩ vt.val):=by
 have z0:=heap_setCell_same _ (w.heap.size+2) 0 _ _ vo.val h.br
 have z1:=heap_setCell_same _ (w.heap.size+2) 1 _ _ vt.val z0
 exact⟨z1,SWent.same h0 ((h.bel.setCell (by simp) _).setCell (by simp) _)⟩
theorem wish_len (hx:x.kind=1)(u:Ws)(hu:u.ok)(hno:rnoB u=false){od:De}(h:ownS x lenS=some od):0≤(rWishD od u).va∧(rWishD od u).va<18446744073709551616:=by
 have e:od=⟨intW (x.el.length:Int),undW,1⟩:=by
  unfold ownS at h
  rw[if_pos hx,if_pos rfl] at h
  exact(Option.some.inj h).symm
 have hok:od.ok:=by
  rw[e]
  exact⟨by show(0:Int)≤1;omega,by show(1:Int)≤15;omega,Or.inl (by show(1:Int)<8;omega)⟩
 have hw:=wish_same od u hok hno
 rw[←hw]
 exact wish_va od u hu (by rw[e];exact intW_rng _)
theorem rdefine_full (h:StAt w B tg S vo qs)(vt:SV)(hnl:∀x∈S,x.nm.length≤1999999999999)(hel:∀x∈S,x.el.length≤4096)(o:Int)(o0:0≤o)(o1:o<18446744073709551616)(k:ByteArray)(hk:k.size≤maxLen)(u:Ws)(hu:u.ok) :
  Calls Tryz.prog 30 #[stV vo vt,.int .u64 o,.string k,wsV u] w fun e w'=>e = .returned (.tuple #[stV vo vt,.bool (dfG S o k u).2])∧SWent w B tg (dfG S o k u).1 vo w':=by
 obtain⟨wb,hwb⟩:∃wb,wb=wDf w vo vt u:=⟨_,rfl⟩
 have h0:=DfS.new h vt u
 rw[←hwb] at h0
 have HD0:Hid (DfS w wb B tg S vo vt qs u):=h0
 have HNO:Hid (∀ {W:World},DfS w W B tg S vo vt qs u→((W.setCell ⟨w.heap.size+2,0,none⟩ vo.val).setCell ⟨w.heap.size+2,1,none⟩ vt.val).heap[w.heap.size+2]?=some (.cells #[vo.val,vt.val] 33 (0,0))∧SWent w B tg S vo ((W.setCell ⟨w.heap.size+2,0,none⟩ vo.val).setCell ⟨w.heap.size+2,1,none⟩ vt.val)):=fun {W} a=>DfS.no2 h a
 have HYE:Hid (∀ {W W':World} {S':List So},DfS w W B tg S vo vt qs u→SWent W B tg S' vo W'→BxS W' (w.heap.size+2) .nil .nil∧((W'.setCell ⟨w.heap.size+2,0,none⟩ vo.val).setCell ⟨w.heap.size+2,1,none⟩ vt.val).heap[w.heap.size+2]?=some (.cells #[vo.val,vt.val] 33 (0,0))∧SWent w B tg S' vo ((W'.setCell ⟨w.heap.size+2,0,none⟩ vo.val).setCell ⟨w.heap.size+2,1,none⟩ vt.val)):=fun {W W' S'} a b=>DfS.yes h a b
 have HTG:Hid (∀b,tg b≠0→b<w.heap.size):=fun b r=>(h.lt b r).2
 have kh16:=fun W=>has_any W u 16
 have kh32:=fun W=>has_any W u 32
 have kh1:=fun W=>has_any W u 1
 have kh2:=fun W=>has_any W u 2
 have kat:=fun (W:World) (a:DfS w W B tg S vo vt qs u)=>rat_o a.st vt o o0 o1
 obtain⟨b0,b1⟩:=h0.bs.ce
 obtain⟨y0,y1,y2,y3,y4⟩:=h0.bw.ce
 cases hs:soO S o with
 | none =>
   have e0:obS S o=none:=soO_none hs o0 o1
   have hai:atI S o = -1:=by unfold atI;rw[e0]
   have eR:dfG S o k u=(S,false):=by unfold dfG;rw[hs]
   rw[eR]
   have ka:=kat wb h0
   rw[hai] at ka
   obtain⟨va,vl,vc⟩:=vo
   obtain⟨ta,tl,tc⟩:=vt
   unfold wDf at hwb
   unfold stV at *
   rw[show(SV.mk va vl vc).val = .slice va vl vc from rfl,show(SV.mk ta tl tc).val = .slice ta tl tc from rfl] at *
   unfold wsV at *
   clear h h0 hnl hel hs e0 hai eR HYE HTG kat kh16 kh32 kh1 kh2
   go_enter Tryz.func30,Tryz.ntmps30
   go_upto_region 1 with fail
   rw[←hwb]
   clear hwb
   go_wp2_with fail
   refine ka.mono ?_
   rintro e wc1 ⟨rfl,hBc⟩
   have HD1:=(show Hid _ from HD0.out.below hBc)
   obtain⟨b0,b1⟩:=HD1.out.bs.ce
   obtain⟨y0,y1,y2,y3,y4⟩:=HD1.out.bw.ce
   rw[show(SV.mk va vl vc).val = .slice va vl vc from rfl] at b0
   rw[show(SV.mk ta tl tc).val = .slice ta tl tc from rfl] at b1
   clear hBc ka
   obtain⟨z1,z2⟩:=HNO.out HD1.out
   have HZ:=(show Hid _ from And.intro z1 z2)
   obtain⟨r0,r1⟩:=HD1.out.br.ce
   obtain⟨rf0,rf1⟩:=HD1.out.br.fz
   clear z1 z2 HNO
   go_wp2_with fail
   refine bodyPost_ret (res2 rfl _ _ (w.heap.size+2) 33 _ (0,0) _ rfl HZ.out.1 Tryz.underlying33 rfl (by kernel_rfl)) rfl ?_
   exact⟨rfl,HZ.out.2⟩
 | some x =>
   have hxm:x∈S:=by
    unfold soO at hs
    cases e:obS S o with
    | none=>rw[e] at hs;cases hs
    | some i=>rw[e] at hs;exact List.mem_of_getElem? hs
   have hai:¬(atI S o<0):=by
    unfold atI
    cases e:obS S o with
    | none=>unfold soO at hs;rw[e] at hs;cases hs
    | some i=>show ¬((i:Int)<0);omega
   obtain⟨ow,how⟩:∃ow,ow=ownS x k:=⟨_,rfl⟩
   obtain⟨tb,htb⟩:∃tb,tb=ow.isSome:=⟨_,rfl⟩
   obtain⟨dz,hdz⟩:∃dz,dz=ow.getD zDe:=⟨_,rfl⟩
   obtain⟨op,hop⟩:∃op,op = !x.shut:=⟨_,rfl⟩
   obtain⟨ar,har⟩:∃ar,ar=(x.kind == 1):=⟨_,rfl⟩
   obtain⟨od,hod⟩:∃od,od=ow.getD newE:=⟨_,rfl⟩
   obtain⟨nd,hnd⟩:∃nd,nd=rWishD od u:=⟨_,rfl⟩
   obtain⟨mb,hmb⟩:∃mb,mb=rmayD od nd:=⟨_,rfl⟩
   have HOD:Hid ((tb=true→od=dz)∧(tb=false→dz=zDe∧od=newE)):=by
    rw[htb,hdz,hod]
    cases ow with
    | none=>exact⟨fun e=>(by cases e),fun _=>⟨rfl,rfl⟩⟩
    | some d=>exact⟨fun _=>rfl,fun e=>(by cases e)⟩
   have HOW:Hid (∀ {W:World},DfS w W B tg S vo vt qs u→Calls Tryz.prog 36 #[stV vo vt,.int .u64 o,.string k] W fun e w'=>e = .returned (.tuple #[deV dz,.bool tb])∧Below W.heap.size W w'):=fun {W} a=>by
    have:=rown_o a.st vt o o0 o1 k hk
    rw[hs,Option.bind_some,←how,←hdz,←htb] at this
    exact this
   have HOP:Hid (∀ {W:World},DfS w W B tg S vo vt qs u→Calls Tryz.prog 65 #[stV vo vt,.int .u64 o] W fun e w'=>e = .returned (.bool op)∧Below W.heap.size W w'):=fun {W} a=>by
    have:=ropen_o a.st vt o o0 o1
    rw[hs,Option.map_some,Option.getD_some,←hop] at this
    exact this
   have HAR:Hid (∀ {W:World},DfS w W B tg S vo vt qs u→Calls Tryz.prog 12 #[stV vo vt,.int .u64 o] W fun e w'=>e = .returned (.bool ar)∧Below W.heap.size W w'):=fun {W} a=>by
    have:=rarray_o a.st vt o o0 o1
    rw[hs,Option.map_some,Option.getD_some,←har] at this
    exact this
   have HPU:Hid (∀ {W:World},DfS w W B tg S vo vt qs u→Calls Tryz.prog 71 #[stV vo vt,.int .u64 o,.string k,deV nd] W fun e w'=>e = .returned (stV vo vt)∧SWent W B tg (putG S o k nd) vo w'):=fun {W} a=>rput_full a.st vt hnl o o0 o1 k nd
   have HSL:Hid (∀ {W:World} (n:Int),DfS w W B tg S vo vt qs u→Calls Tryz.prog 69 #[stV vo vt,.int .u64 o,.int .i64 n] W fun e w'=>e = .returned (.tuple #[stV vo vt,.bool (lenG S o n).2])∧SWent W B tg (lenG S o n).1 vo w'):=fun {W} n a=>rsetLen_full a.st vt o o0 o1 n
   have HSE:Hid (∀ {W:World} (n v:Int),DfS w W B tg S vo vt qs u→Calls Tryz.prog 70 #[stV vo vt,.int .u64 o,.int .i64 n,.int .u64 v] W fun e w'=>e = .returned (.tuple #[stV vo vt,.bool (elemG S o n v).2])∧SWent W B tg (elemG S o n v).1 vo w'):=fun {W} n v a=>rsetElem_full a.st vt hel o o0 o1 n v
   have kwi:∀W,Calls Tryz.prog 66 #[deV od,wsV u] W fun e w'=>e = .returned (deV nd)∧Below W.heap.size W w':=fun W=>by rw[hnd];exact rwished_any W od u
   have kma:∀W,Calls Tryz.prog 67 #[deV od,deV nd] W fun e w'=>e = .returned (.bool mb)∧Below W.heap.size W w':=fun W=>by rw[hmb];exact rmay_any W od nd
   have kx:=fun W=>rindex_any k W hk
   have HIT:Hid (rnoB u=false→(tb && !mb)=false→(tb=false→op=true)→ar=true→k=lenS→∀W,Calls Tryz.prog 20 #[.int .u64 nd.va,.int .u64 65529] W fun e w'=>e = .returned (.tuple #[.int .u32 (payN nd.va 65529),.bool (isT nd.va 65529)])∧Below W.heap.size W w'):=fun c1 c2 c3 c4 c5 W=>by
    have hk1:x.kind=1:=by rw[har] at c4;simpa using c4
    have ho:∃d,ownS x lenS=some d:=by unfold ownS;rw[if_pos hk1,if_pos rfl];exact⟨_,rfl⟩
    obtain⟨d,hd⟩:=ho
    have e1:od=d:=by rw[hod,how,c5,hd];rfl
    have:=wish_len hk1 u hu c1 hd
    rw[←e1,←hnd] at this
    exact isTagI_any nd.va this.1 this.2 W
   have HR:Hid ((rnoB u=true→dfG S o k u=(S,false))∧(rnoB u=false→tb=false→op=false→dfG S o k u=(S,false))∧(rnoB u=false→(tb && !mb)=true→dfG S o k u=(S,false))∧(rnoB u=false→(tb && !mb)=false→(tb=false→op=true)→dfG S o k u=if ar=true then (if k=lenS then (if isT nd.va 65529=true∧nd.fl=1 then lenG S o (payZ nd.va) else (S,false)) else match rxI k with
    | some n=>if nd.fl=7 then elemG S o (n:Int) nd.va else (S,false)
    | none=>(putG S o k nd,true)) else (putG S o k nd,true))):=by
    have e1:(ar=true)=(x.kind=1):=by rw[har];simp
    unfold dfG
    rw[hs]
    simp only
    rw[←how]
    refine⟨fun c=>by rw[if_pos c],fun c c1 c2 => ?_,fun c c1 => ?_,fun c c1 c2 => ?_⟩
    ·rw[if_neg (by rw[c];simp)]
     rw[htb] at c1
     cases ow with
     | some d=>cases c1
     | none =>
       simp only
       rw[if_pos (by rw[hop] at c2;simpa using c2)]
    ·rw[if_neg (by rw[c];simp)]
     simp only[Bool.and_eq_true,Bool.not_eq_true'] at c1
     rw[htb] at c1
     cases ow with
     | none=>cases c1.1
     | some d =>
       simp only
       have e2:od=d:=hod
       rw[e2] at hnd hmb
       rw[←hnd,←hmb,if_neg (by rw[c1.2];simp)]
    ·rw[if_neg (by rw[c];simp)]
     simp only[e1]
     cases ow with
     | none =>
       simp only
       have e2:od=newE:=hod
       rw[e2] at hnd
       have c3:=c2 htb
       rw[if_neg (by rw[hop] at c3;simpa using c3),←hnd]
       rfl
     | some d =>
       simp only
       have e2:od=d:=hod
       rw[e2] at hnd hmb
       have e3:tb=true:=htb
       rw[e3] at c1
       rw[←hnd,←hmb,if_pos (by simpa using c1)]
       rfl
   generalize hRR:dfG S o k u=R at *
   generalize hAI:atI S o=ai at *
   obtain⟨va,vl,vc⟩:=vo
   obtain⟨ta,tl,tc⟩:=vt
   unfold wDf at hwb
   unfold stV at *
   rw[show(SV.mk va vl vc).val = .slice va vl vc from rfl,show(SV.mk ta tl tc).val = .slice ta tl tc from rfl] at *
   unfold wsV at *
   unfold deV at HOW HPU kwi kma
   clear h h0 hnl hel hs hxm how htb hdz hop har hod hnd hmb hRR hAI
   go_enter Tryz.func30,Tryz.ntmps30
   go_upto_region 1 with fail
   rw[←hwb]
   clear hwb
   go_cut [37] from 18 to 37 (fun c wx=>c = .bool (rnoB u)∧Hid (DfS w wx B tg S ⟨va,vl,vc⟩ ⟨ta,tl,tc⟩ qs u))
   case first =>
    have ka:=kat wb HD0.out
    clear HNO HYE HTG HOD HOW HOP HAR HPU HSL HSE kwi kma kx HIT HR kat
    cases a16:hasU u 16 with
    | true =>
      rw[a16] at kh16
      cases a1:hasU u 1 with
      | true =>
        rw[a1] at kh1
        have hno:rnoB u=true:=by unfold rnoB;simp[a16,a1]
        go_wp2_with fail
        refine ka.mono ?_
        rintro e wc1 ⟨rfl,hBc⟩
        have HD1:=(show Hid _ from HD0.out.below hBc)
        clear hBc ka b0 b1 y0 y1 y2 y3 y4
        obtain⟨b0,b1⟩:=HD1.out.bs.ce
        obtain⟨y0,y1,y2,y3,y4⟩:=HD1.out.bw.ce
        rw[show(SV.mk va vl vc).val = .slice va vl vc from rfl] at b0
        rw[show(SV.mk ta tl tc).val = .slice ta tl tc from rfl] at b1
        go_wp2_with fail
        refine(kh16 _).mono ?_
        rintro e wd0 ⟨rfl,hBc⟩
        have HE0:=(show Hid _ from HD1.out.below hBc)
        clear hBc HD1 b0 b1 y0 y1 y2 y3 y4
        obtain⟨b0,b1⟩:=HE0.out.bs.ce
        obtain⟨y0,y1,y2,y3,y4⟩:=HE0.out.bw.ce
        rw[show(SV.mk va vl vc).val = .slice va vl vc from rfl] at b0
        rw[show(SV.mk ta tl tc).val = .slice ta tl tc from rfl] at b1
        go_wp2_with fail
        refine(kh1 _).mono ?_
        rintro e wd1 ⟨rfl,hBc⟩
        have HE1:=(show Hid _ from HE0.out.below hBc)
        clear hBc HE0 b0 b1 y0 y1 y2 y3 y4
        obtain⟨b0,b1⟩:=HE1.out.bs.ce
        obtain⟨y0,y1,y2,y3,y4⟩:=HE1.out.bw.ce
        rw[show(SV.mk va vl vc).val = .slice va vl vc from rfl] at b0
        rw[show(SV.mk ta tl tc).val = .slice ta tl tc from rfl] at b1
        go_wp2_with fail
        go_meet
        exact⟨by first | (rw[hno];done) | rw[hno,decide_eq_false (show ¬(ai<0) by omega)],HE1⟩
      | false =>
        rw[a1] at kh1
        cases a2:hasU u 2 with
        | true =>
          rw[a2] at kh2
          have hno:rnoB u=true:=by unfold rnoB;simp[a16,a1,a2]
          go_wp2_with fail
          refine ka.mono ?_
          rintro e wc1 ⟨rfl,hBc⟩
          have HD1:=(show Hid _ from HD0.out.below hBc)
          clear hBc ka b0 b1 y0 y1 y2 y3 y4
          obtain⟨b0,b1⟩:=HD1.out.bs.ce
          obtain⟨y0,y1,y2,y3,y4⟩:=HD1.out.bw.ce
          rw[show(SV.mk va vl vc).val = .slice va vl vc from rfl] at b0
          rw[show(SV.mk ta tl tc).val = .slice ta tl tc from rfl] at b1
          go_wp2_with fail
          refine(kh16 _).mono ?_
          rintro e wd0 ⟨rfl,hBc⟩
          have HE0:=(show Hid _ from HD1.out.below hBc)
          clear hBc HD1 b0 b1 y0 y1 y2 y3 y4
          obtain⟨b0,b1⟩:=HE0.out.bs.ce
          obtain⟨y0,y1,y2,y3,y4⟩:=HE0.out.bw.ce
          rw[show(SV.mk va vl vc).val = .slice va vl vc from rfl] at b0
          rw[show(SV.mk ta tl tc).val = .slice ta tl tc from rfl] at b1
          go_wp2_with fail
          refine(kh1 _).mono ?_
          rintro e wd1 ⟨rfl,hBc⟩
          have HE1:=(show Hid _ from HE0.out.below hBc)
          clear hBc HE0 b0 b1 y0 y1 y2 y3 y4
          obtain⟨b0,b1⟩:=HE1.out.bs.ce
          obtain⟨y0,y1,y2,y3,y4⟩:=HE1.out.bw.ce
          rw[show(SV.mk va vl vc).val = .slice va vl vc from rfl] at b0
          rw[show(SV.mk ta tl tc).val = .slice ta tl tc from rfl] at b1
          go_wp2_with fail
          refine(kh2 _).mono ?_
          rintro e wd2 ⟨rfl,hBc⟩
          have HE2:=(show Hid _ from HE1.out.below hBc)
          clear hBc HE1 b0 b1 y0 y1 y2 y3 y4
          obtain⟨b0,b1⟩:=HE2.out.bs.ce
          obtain⟨y0,y1,y2,y3,y4⟩:=HE2.out.bw.ce
          rw[show(SV.mk va vl vc).val = .slice va vl vc from rfl] at b0
          rw[show(SV.mk ta tl tc).val = .slice ta tl tc from rfl] at b1
          go_wp2_with fail
          go_meet
          exact⟨by first | (rw[hno];done) | rw[hno,decide_eq_false (show ¬(ai<0) by omega)],HE2⟩
        | false =>
          rw[a2] at kh2
          have hno:rnoB u=false:=by unfold rnoB;simp[a1,a2]
          go_wp2_with fail
          refine ka.mono ?_
          rintro e wc1 ⟨rfl,hBc⟩
          have HD1:=(show Hid _ from HD0.out.below hBc)
          clear hBc ka b0 b1 y0 y1 y2 y3 y4
          obtain⟨b0,b1⟩:=HD1.out.bs.ce
          obtain⟨y0,y1,y2,y3,y4⟩:=HD1.out.bw.ce
          rw[show(SV.mk va vl vc).val = .slice va vl vc from rfl] at b0
          rw[show(SV.mk ta tl tc).val = .slice ta tl tc from rfl] at b1
          go_wp2_with fail
          refine(kh16 _).mono ?_
          rintro e wd0 ⟨rfl,hBc⟩
          have HE0:=(show Hid _ from HD1.out.below hBc)
          clear hBc HD1 b0 b1 y0 y1 y2 y3 y4
          obtain⟨b0,b1⟩:=HE0.out.bs.ce
          obtain⟨y0,y1,y2,y3,y4⟩:=HE0.out.bw.ce
          rw[show(SV.mk va vl vc).val = .slice va vl vc from rfl] at b0
          rw[show(SV.mk ta tl tc).val = .slice ta tl tc from rfl] at b1
          go_wp2_with fail
          refine(kh1 _).mono ?_
          rintro e wd1 ⟨rfl,hBc⟩
          have HE1:=(show Hid _ from HE0.out.below hBc)
          clear hBc HE0 b0 b1 y0 y1 y2 y3 y4
          obtain⟨b0,b1⟩:=HE1.out.bs.ce
          obtain⟨y0,y1,y2,y3,y4⟩:=HE1.out.bw.ce
          rw[show(SV.mk va vl vc).val = .slice va vl vc from rfl] at b0
          rw[show(SV.mk ta tl tc).val = .slice ta tl tc from rfl] at b1
          go_wp2_with fail
          refine(kh2 _).mono ?_
          rintro e wd2 ⟨rfl,hBc⟩
          have HE2:=(show Hid _ from HE1.out.below hBc)
          clear hBc HE1 b0 b1 y0 y1 y2 y3 y4
          obtain⟨b0,b1⟩:=HE2.out.bs.ce
          obtain⟨y0,y1,y2,y3,y4⟩:=HE2.out.bw.ce
          rw[show(SV.mk va vl vc).val = .slice va vl vc from rfl] at b0
          rw[show(SV.mk ta tl tc).val = .slice ta tl tc from rfl] at b1
          go_wp2_with fail
          go_meet
          exact⟨by first | (rw[hno];done) | rw[hno,decide_eq_false (show ¬(ai<0) by omega)],HE2⟩
    | false =>
      rw[a16] at kh16
      cases a32:hasU u 32 with
      | true =>
        rw[a32] at kh32
        cases a1:hasU u 1 with
        | true =>
          rw[a1] at kh1
          have hno:rnoB u=true:=by unfold rnoB;simp[a16,a32,a1]
          go_wp2_with fail
          refine ka.mono ?_
          rintro e wc1 ⟨rfl,hBc⟩
          have HD1:=(show Hid _ from HD0.out.below hBc)
          clear hBc ka b0 b1 y0 y1 y2 y3 y4
          obtain⟨b0,b1⟩:=HD1.out.bs.ce
          obtain⟨y0,y1,y2,y3,y4⟩:=HD1.out.bw.ce
          rw[show(SV.mk va vl vc).val = .slice va vl vc from rfl] at b0
          rw[show(SV.mk ta tl tc).val = .slice ta tl tc from rfl] at b1
          go_wp2_with fail
          refine(kh16 _).mono ?_
          rintro e wd0 ⟨rfl,hBc⟩
          have HE0:=(show Hid _ from HD1.out.below hBc)
          clear hBc HD1 b0 b1 y0 y1 y2 y3 y4
          obtain⟨b0,b1⟩:=HE0.out.bs.ce
          obtain⟨y0,y1,y2,y3,y4⟩:=HE0.out.bw.ce
          rw[show(SV.mk va vl vc).val = .slice va vl vc from rfl] at b0
          rw[show(SV.mk ta tl tc).val = .slice ta tl tc from rfl] at b1
          go_wp2_with fail
          refine(kh32 _).mono ?_
          rintro e wd1 ⟨rfl,hBc⟩
          have HE1:=(show Hid _ from HE0.out.below hBc)
          clear hBc HE0 b0 b1 y0 y1 y2 y3 y4
          obtain⟨b0,b1⟩:=HE1.out.bs.ce
          obtain⟨y0,y1,y2,y3,y4⟩:=HE1.out.bw.ce
          rw[show(SV.mk va vl vc).val = .slice va vl vc from rfl] at b0
          rw[show(SV.mk ta tl tc).val = .slice ta tl tc from rfl] at b1
          go_wp2_with fail
          refine(kh1 _).mono ?_
          rintro e wd2 ⟨rfl,hBc⟩
          have HE2:=(show Hid _ from HE1.out.below hBc)
          clear hBc HE1 b0 b1 y0 y1 y2 y3 y4
          obtain⟨b0,b1⟩:=HE2.out.bs.ce
          obtain⟨y0,y1,y2,y3,y4⟩:=HE2.out.bw.ce
          rw[show(SV.mk va vl vc).val = .slice va vl vc from rfl] at b0
          rw[show(SV.mk ta tl tc).val = .slice ta tl tc from rfl] at b1
          go_wp2_with fail
          go_meet
          exact⟨by first | (rw[hno];done) | rw[hno,decide_eq_false (show ¬(ai<0) by omega)],HE2⟩
        | false =>
          rw[a1] at kh1
          cases a2:hasU u 2 with
          | true =>
            rw[a2] at kh2
            have hno:rnoB u=true:=by unfold rnoB;simp[a16,a32,a1,a2]
            go_wp2_with fail
            refine ka.mono ?_
            rintro e wc1 ⟨rfl,hBc⟩
            have HD1:=(show Hid _ from HD0.out.below hBc)
            clear hBc ka b0 b1 y0 y1 y2 y3 y4
            obtain⟨b0,b1⟩:=HD1.out.bs.ce
            obtain⟨y0,y1,y2,y3,y4⟩:=HD1.out.bw.ce
            rw[show(SV.mk va vl vc).val = .slice va vl vc from rfl] at b0
            rw[show(SV.mk ta tl tc).val = .slice ta tl tc from rfl] at b1
            go_wp2_with fail
            refine(kh16 _).mono ?_
            rintro e wd0 ⟨rfl,hBc⟩
            have HE0:=(show Hid _ from HD1.out.below hBc)
            clear hBc HD1 b0 b1 y0 y1 y2 y3 y4
            obtain⟨b0,b1⟩:=HE0.out.bs.ce
            obtain⟨y0,y1,y2,y3,y4⟩:=HE0.out.bw.ce
            rw[show(SV.mk va vl vc).val = .slice va vl vc from rfl] at b0
            rw[show(SV.mk ta tl tc).val = .slice ta tl tc from rfl] at b1
            go_wp2_with fail
            refine(kh32 _).mono ?_
            rintro e wd1 ⟨rfl,hBc⟩
            have HE1:=(show Hid _ from HE0.out.below hBc)
            clear hBc HE0 b0 b1 y0 y1 y2 y3 y4
            obtain⟨b0,b1⟩:=HE1.out.bs.ce
            obtain⟨y0,y1,y2,y3,y4⟩:=HE1.out.bw.ce
            rw[show(SV.mk va vl vc).val = .slice va vl vc from rfl] at b0
            rw[show(SV.mk ta tl tc).val = .slice ta tl tc from rfl] at b1
            go_wp2_with fail
            refine(kh1 _).mono ?_
            rintro e wd2 ⟨rfl,hBc⟩
            have HE2:=(show Hid _ from HE1.out.below hBc)
            clear hBc HE1 b0 b1 y0 y1 y2 y3 y4
            obtain⟨b0,b1⟩:=HE2.out.bs.ce
            obtain⟨y0,y1,y2,y3,y4⟩:=HE2.out.bw.ce
            rw[show(SV.mk va vl vc).val = .slice va vl vc from rfl] at b0
            rw[show(SV.mk ta tl tc).val = .slice ta tl tc from rfl] at b1
            go_wp2_with fail
            refine(kh2 _).mono ?_
            rintro e wd3 ⟨rfl,hBc⟩
            have HE3:=(show Hid _ from HE2.out.below hBc)
            clear hBc HE2 b0 b1 y0 y1 y2 y3 y4
            obtain⟨b0,b1⟩:=HE3.out.bs.ce
            obtain⟨y0,y1,y2,y3,y4⟩:=HE3.out.bw.ce
            rw[show(SV.mk va vl vc).val = .slice va vl vc from rfl] at b0
            rw[show(SV.mk ta tl tc).val = .slice ta tl tc from rfl] at b1
            go_wp2_with fail
            go_meet
            exact⟨by first | (rw[hno];done) | rw[hno,decide_eq_false (show ¬(ai<0) by omega)],HE3⟩
          | false =>
            rw[a2] at kh2
            have hno:rnoB u=false:=by unfold rnoB;simp[a1,a2]
            go_wp2_with fail
            refine ka.mono ?_
            rintro e wc1 ⟨rfl,hBc⟩
            have HD1:=(show Hid _ from HD0.out.below hBc)
            clear hBc ka b0 b1 y0 y1 y2 y3 y4
            obtain⟨b0,b1⟩:=HD1.out.bs.ce
            obtain⟨y0,y1,y2,y3,y4⟩:=HD1.out.bw.ce
            rw[show(SV.mk va vl vc).val = .slice va vl vc from rfl] at b0
            rw[show(SV.mk ta tl tc).val = .slice ta tl tc from rfl] at b1
            go_wp2_with fail
            refine(kh16 _).mono ?_
            rintro e wd0 ⟨rfl,hBc⟩
            have HE0:=(show Hid _ from HD1.out.below hBc)
            clear hBc HD1 b0 b1 y0 y1 y2 y3 y4
            obtain⟨b0,b1⟩:=HE0.out.bs.ce
            obtain⟨y0,y1,y2,y3,y4⟩:=HE0.out.bw.ce
            rw[show(SV.mk va vl vc).val = .slice va vl vc from rfl] at b0
            rw[show(SV.mk ta tl tc).val = .slice ta tl tc from rfl] at b1
            go_wp2_with fail
            refine(kh32 _).mono ?_
            rintro e wd1 ⟨rfl,hBc⟩
            have HE1:=(show Hid _ from HE0.out.below hBc)
            clear hBc HE0 b0 b1 y0 y1 y2 y3 y4
            obtain⟨b0,b1⟩:=HE1.out.bs.ce
            obtain⟨y0,y1,y2,y3,y4⟩:=HE1.out.bw.ce
            rw[show(SV.mk va vl vc).val = .slice va vl vc from rfl] at b0
            rw[show(SV.mk ta tl tc).val = .slice ta tl tc from rfl] at b1
            go_wp2_with fail
            refine(kh1 _).mono ?_
            rintro e wd2 ⟨rfl,hBc⟩
            have HE2:=(show Hid _ from HE1.out.below hBc)
            clear hBc HE1 b0 b1 y0 y1 y2 y3 y4
            obtain⟨b0,b1⟩:=HE2.out.bs.ce
            obtain⟨y0,y1,y2,y3,y4⟩:=HE2.out.bw.ce
            rw[show(SV.mk va vl vc).val = .slice va vl vc from rfl] at b0
            rw[show(SV.mk ta tl tc).val = .slice ta tl tc from rfl] at b1
            go_wp2_with fail
            refine(kh2 _).mono ?_
            rintro e wd3 ⟨rfl,hBc⟩
            have HE3:=(show Hid _ from HE2.out.below hBc)
            clear hBc HE2 b0 b1 y0 y1 y2 y3 y4
            obtain⟨b0,b1⟩:=HE3.out.bs.ce
            obtain⟨y0,y1,y2,y3,y4⟩:=HE3.out.bw.ce
            rw[show(SV.mk va vl vc).val = .slice va vl vc from rfl] at b0
            rw[show(SV.mk ta tl tc).val = .slice ta tl tc from rfl] at b1
            go_wp2_with fail
            go_meet
            exact⟨by first | (rw[hno];done) | rw[hno,decide_eq_false (show ¬(ai<0) by omega)],HE3⟩
      | false =>
        rw[a32] at kh32
        have hno:rnoB u=false:=by unfold rnoB;simp[a16,a32]
        go_wp2_with fail
        refine ka.mono ?_
        rintro e wc1 ⟨rfl,hBc⟩
        have HD1:=(show Hid _ from HD0.out.below hBc)
        clear hBc ka b0 b1 y0 y1 y2 y3 y4
        obtain⟨b0,b1⟩:=HD1.out.bs.ce
        obtain⟨y0,y1,y2,y3,y4⟩:=HD1.out.bw.ce
        rw[show(SV.mk va vl vc).val = .slice va vl vc from rfl] at b0
        rw[show(SV.mk ta tl tc).val = .slice ta tl tc from rfl] at b1
        go_wp2_with fail
        refine(kh16 _).mono ?_
        rintro e wd0 ⟨rfl,hBc⟩
        have HE0:=(show Hid _ from HD1.out.below hBc)
        clear hBc HD1 b0 b1 y0 y1 y2 y3 y4
        obtain⟨b0,b1⟩:=HE0.out.bs.ce
        obtain⟨y0,y1,y2,y3,y4⟩:=HE0.out.bw.ce
        rw[show(SV.mk va vl vc).val = .slice va vl vc from rfl] at b0
        rw[show(SV.mk ta tl tc).val = .slice ta tl tc from rfl] at b1
        go_wp2_with fail
        refine(kh32 _).mono ?_
        rintro e wd1 ⟨rfl,hBc⟩
        have HE1:=(show Hid _ from HE0.out.below hBc)
        clear hBc HE0 b0 b1 y0 y1 y2 y3 y4
        obtain⟨b0,b1⟩:=HE1.out.bs.ce
        obtain⟨y0,y1,y2,y3,y4⟩:=HE1.out.bw.ce
        rw[show(SV.mk va vl vc).val = .slice va vl vc from rfl] at b0
        rw[show(SV.mk ta tl tc).val = .slice ta tl tc from rfl] at b1
        go_wp2_with fail
        go_meet
        exact⟨by first | (rw[hno];done) | rw[hno,decide_eq_false (show ¬(ai<0) by omega)],HE1⟩
   case rest =>
    obtain⟨rfl,HD1⟩:=hcut
    clear kat HD0 kh16 kh32 kh1 kh2 b0 b1 y0 y1 y2 y3 y4
    obtain⟨b0,b1⟩:=HD1.out.bs.ce
    obtain⟨y0,y1,y2,y3,y4⟩:=HD1.out.bw.ce
    rw[show(SV.mk va vl vc).val = .slice va vl vc from rfl] at b0
    rw[show(SV.mk ta tl tc).val = .slice ta tl tc from rfl] at b1
    cases hno:rnoB u with
    | true =>
      have HRR:Hid (R=(S,false)):=HR.out.1 hno
      clear HOW HOP HAR HPU HSL HSE kwi kma kx HIT HR HYE HTG HOD hno
      obtain⟨z1,z2⟩:=HNO.out HD1.out
      have HZ:=(show Hid _ from And.intro z1 z2)
      obtain⟨r0,r1⟩:=HD1.out.br.ce
      obtain⟨rf0,rf1⟩:=HD1.out.br.fz
      clear z1 z2 HNO
      go_wp2_with fail
      refine bodyPost_ret (res2 rfl _ _ (w.heap.size+2) 33 _ (0,0) _ rfl HZ.out.1 Tryz.underlying33 rfl (by kernel_rfl)) rfl ?_
      rw[HRR.out]
      exact⟨rfl,HZ.out.2⟩
    | false =>
      go_wp2_with fail
      refine(HOW.out HD1.out).mono ?_
      rintro e wo ⟨rfl,hBo⟩
      have HA:=(show Hid _ from (HD1.out.below hBo).below ((Below.refl _ _).alloc (Nat.le_refl _) (.cells #[.int .u64 dz.va,.int .u64 dz.se,.int .i64 dz.fl] 39)))
      have HT0:Hid (Bx3 (wo.alloc (.cells #[.int .u64 dz.va,.int .u64 dz.se,.int .i64 dz.fl] 39)) wo.heap.size dz∧w.heap.size+3≤wo.heap.size):=⟨at_new _ _,by have:=(HD1.out.below hBo).br.lt;omega⟩
      clear hBo HD1 HOW b0 b1 y0 y1 y2 y3 y4
      obtain⟨b0,b1⟩:=HA.out.bs.ce
      obtain⟨y0,y1,y2,y3,y4⟩:=HA.out.bw.ce
      rw[show(SV.mk va vl vc).val = .slice va vl vc from rfl] at b0
      rw[show(SV.mk ta tl tc).val = .slice ta tl tc from rfl] at b1
      go_upto_region 4 with fail
      generalize (wo.alloc (.cells #[.int .u64 dz.va,.int .u64 dz.se,.int .i64 dz.fl] 39))=wa at *
      generalize wo.heap.size=bt at *
      go_wp2_with fail
      refine(HOP.out HA.out).mono ?_
      rintro e wp ⟨rfl,hBp⟩
      have HO:=(show Hid _ from HA.out.below hBp)
      have HT1:Hid (Bx3 wp bt dz):=HT0.out.1.below hBp
      have HTL:Hid (w.heap.size+3≤bt):=HT0.out.2
      clear hBp HT0 HA HOP b0 b1 y0 y1 y2 y3 y4
      obtain⟨b0,b1⟩:=HO.out.bs.ce
      obtain⟨y0,y1,y2,y3,y4⟩:=HO.out.bw.ce
      rw[show(SV.mk va vl vc).val = .slice va vl vc from rfl] at b0
      rw[show(SV.mk ta tl tc).val = .slice ta tl tc from rfl] at b1
      obtain⟨t0,t1,t2⟩:=HT1.out.ce
      obtain⟨tf0,tf1,tf2⟩:=HT1.out.fz
      by_cases hsh:tb=false∧op=false
      ·obtain⟨rfl,rfl⟩:=hsh
       have HRR:Hid (R=(S,false)):=HR.out.2.1 hno rfl rfl
       clear HAR HPU HSL HSE kwi kma kx HIT HR HYE HTG HOD hno t0 t1 t2 tf0 tf1 tf2
       obtain⟨z1,z2⟩:=HNO.out HO.out
       have HZ:=(show Hid _ from And.intro z1 z2)
       obtain⟨r0,r1⟩:=HO.out.br.ce
       obtain⟨rf0,rf1⟩:=HO.out.br.fz
       clear z1 z2 HNO
       go_wp2_with fail
       refine bodyPost_ret (res2 rfl _ _ (w.heap.size+2) 33 _ (0,0) _ rfl HZ.out.1 Tryz.underlying33 rfl (by kernel_rfl)) rfl ?_
       rw[HRR.out]
       exact⟨rfl,HZ.out.2⟩
      ·have HSH:Hid (tb=false→op=true):=fun e=>by
        cases op with
        | true=>rfl
        | false=>exact absurd ⟨e,rfl⟩ hsh
       clear hsh
       go_upto_if 50 with fail
       go_cut [] from 51 to 54 (fun wx=>Hid (DfS w wx B tg S ⟨va,vl,vc⟩ ⟨ta,tl,tc⟩ qs u∧Bx3 wx bt od))
       case first =>
        cases htb:tb with
        | true =>
          have HF:Hid (DfS w wp B tg S ⟨va,vl,vc⟩ ⟨ta,tl,tc⟩ qs u∧Bx3 wp bt od):=⟨HO.out,by rw[HOD.out.1 htb];exact HT1.out⟩
          clear HAR HPU HSL HSE kwi kma kx HIT HR HYE HTG HOD HNO HO HT1 HTL HSH
          subst htb
          go_wp2_with fail
          go_meet
          exact HF
        | false =>
          have hop:=HSH.out htb
          obtain⟨ez,eo⟩:=HOD.out.2 htb
          have HF:Hid (DfS w (st3 wp bt newE) B tg S ⟨va,vl,vc⟩ ⟨ta,tl,tc⟩ qs u∧Bx3 (st3 wp bt newE) bt od):=by
           have hl:=HTL.out
           have hc:Chg (fun b=>b=bt) wp (st3 wp bt newE):=((Chg.set (S:=fun b=>b=bt) wp ⟨bt,0,none⟩ _ rfl).trans (Chg.set (S:=fun b=>b=bt) _ ⟨bt,1,none⟩ _ rfl) (fun _ _ q=>q)).trans (Chg.set (S:=fun b=>b=bt) _ ⟨bt,2,none⟩ _ rfl) (fun _ _ q=>q)
           have htg:∀b,tg b≠0→¬b=bt:=fun b r e=>by
            have:=HTG.out b r
            omega
           refine⟨⟨HO.out.st.kept hc htg,HO.out.bs.kept hc (by omega),by unfold Bx5;rw[st3_other _ _ _ (by omega)];exact HO.out.bw,HO.out.br.kept hc (by omega),st3_below HO.out.bel (by omega) _⟩,?_⟩
           rw[eo]
           exact HT1.out.put _
          have hst:st3 wp bt newE=((wp.setCell ⟨bt,0,none⟩ (.int .u64 18445336698825998336)).setCell ⟨bt,1,none⟩ (.int .u64 18445336698825998336)).setCell ⟨bt,2,none⟩ (.int .i64 0):=rfl
          rw[hst] at HF
          subst ez
          unfold zDe at t0 t1 t2
          simp only at t0 t1 t2
          subst hop
          clear HAR HPU HSL HSE kwi kma kx HIT HR HYE HTG HOD HNO HO HT1 HTL HSH hst eo
          subst htb
          go_wp2_with fail
          go_meet
          exact HF
       case rest =>
        have HP:=(show Hid _ from hcut.out.1)
        have HT2:Hid (Bx3 wc bt od):=hcut.out.2
        clear hcut HO HT1 HTG HOD b0 b1 y0 y1 y2 y3 y4 t0 t1 t2 tf0 tf1 tf2
        obtain⟨b0,b1⟩:=HP.out.bs.ce
        obtain⟨y0,y1,y2,y3,y4⟩:=HP.out.bw.ce
        rw[show(SV.mk va vl vc).val = .slice va vl vc from rfl] at b0
        rw[show(SV.mk ta tl tc).val = .slice ta tl tc from rfl] at b1
        obtain⟨t0,t1,t2⟩:=HT2.out.ce
        go_wp2_with fail
        refine(kwi _).mono ?_
        rintro e ww ⟨rfl,hBw⟩
        have HWA:=(show Hid _ from (HP.out.below hBw).below ((Below.refl _ _).alloc (Nat.le_refl _) (.cells #[.int .u64 nd.va,.int .u64 nd.se,.int .i64 nd.fl] 39)))
        have HTA:Hid (Bx3 (ww.alloc (.cells #[.int .u64 nd.va,.int .u64 nd.se,.int .i64 nd.fl] 39)) bt od):=(HT2.out.below hBw).below ((Below.refl _ _).alloc (Nat.le_refl _) _)
        have HTN:Hid (Bx3 (ww.alloc (.cells #[.int .u64 nd.va,.int .u64 nd.se,.int .i64 nd.fl] 39)) ww.heap.size nd):=Bx3.box ww nd
        clear hBw HP HT2 kwi b0 b1 y0 y1 y2 y3 y4 t0 t1 t2
        obtain⟨b0,b1⟩:=HWA.out.bs.ce
        obtain⟨y0,y1,y2,y3,y4⟩:=HWA.out.bw.ce
        rw[show(SV.mk va vl vc).val = .slice va vl vc from rfl] at b0
        rw[show(SV.mk ta tl tc).val = .slice ta tl tc from rfl] at b1
        obtain⟨t0,t1,t2⟩:=HTA.out.ce
        obtain⟨n0,n1,n2⟩:=HTN.out.ce
        go_upto_region 10 with fail
        generalize (ww.alloc (.cells #[.int .u64 nd.va,.int .u64 nd.se,.int .i64 nd.fl] 39))=wz at *
        generalize ww.heap.size=bn at *
        go_cut [64] from 58 to 64 (fun c wx=>c = .bool (tb && !mb)∧Hid (DfS w wx B tg S ⟨va,vl,vc⟩ ⟨ta,tl,tc⟩ qs u∧Bx3 wx bn nd))
        case first =>
         clear HAR HPU HSL HSE kx HIT HR HYE HNO HSH hno
         cases tb with
         | true =>
           go_wp2_with fail
           refine(kma _).mono ?_
           rintro e wm ⟨rfl,hBm⟩
           have HF:Hid (DfS w wm B tg S ⟨va,vl,vc⟩ ⟨ta,tl,tc⟩ qs u∧Bx3 wm bn nd):=⟨HWA.out.below hBm,HTN.out.below hBm⟩
           clear hBm HWA HTA HTN kma
           go_wp2_with fail
           go_meet
           exact⟨by simp,HF⟩
         | false =>
           have HF:Hid (DfS w wz B tg S ⟨va,vl,vc⟩ ⟨ta,tl,tc⟩ qs u∧Bx3 wz bn nd):=⟨HWA.out,HTN.out⟩
           clear HWA HTA HTN kma
           go_wp2_with fail
           go_meet
           exact⟨by simp,HF⟩
        case rest =>
         obtain⟨rfl,hq⟩:=hcut
         have HM:=(show Hid _ from hq.out.1)
         have HTM:Hid (Bx3 wc bn nd):=hq.out.2
         clear hq HWA HTA HTN kma b0 b1 y0 y1 y2 y3 y4 t0 t1 t2 n0 n1 n2
         obtain⟨b0,b1⟩:=HM.out.bs.ce
         obtain⟨y0,y1,y2,y3,y4⟩:=HM.out.bw.ce
         rw[show(SV.mk va vl vc).val = .slice va vl vc from rfl] at b0
         rw[show(SV.mk ta tl tc).val = .slice ta tl tc from rfl] at b1
         obtain⟨n0,n1,n2⟩:=HTM.out.ce
         cases hm:(tb && !mb) with
         | true =>
           have HRR:Hid (R=(S,false)):=HR.out.2.2.1 hno hm
           clear HAR HPU HSL HSE kx HIT HR HYE hno hm HSH n0 n1 n2
           obtain⟨z1,z2⟩:=HNO.out HM.out
           have HZ:=(show Hid _ from And.intro z1 z2)
           obtain⟨r0,r1⟩:=HM.out.br.ce
           obtain⟨rf0,rf1⟩:=HM.out.br.fz
           clear z1 z2 HNO
           go_wp2_with fail
           refine bodyPost_ret (res2 rfl _ _ (w.heap.size+2) 33 _ (0,0) _ rfl HZ.out.1 Tryz.underlying33 rfl (by kernel_rfl)) rfl ?_
           rw[HRR.out]
           exact⟨rfl,HZ.out.2⟩
         | false =>
           have HR2:=(show Hid _ from HR.out.2.2.2 hno hm HSH.out)
           have HIT2:=(show Hid _ from HIT.out hno hm HSH.out)
           clear HR HIT hno hm HSH
           cases har:ar with
           | false =>
             have HRR:Hid (R=(putG S o k nd,true)):=by show R=_;rw[HR2.out,har];rfl
             subst har
             clear HR2 HIT2 HSL HSE kx HNO
             go_wp2_with fail
             refine(HAR.out HM.out).mono ?_
             rintro e wr ⟨rfl,hBr⟩
             have HRX:=(show Hid _ from HM.out.below hBr)
             have HTR:Hid (Bx3 wr bn nd):=HTM.out.below hBr
             clear hBr HM HTM HAR b0 b1 y0 y1 y2 y3 y4 n0 n1 n2
             obtain⟨b0,b1⟩:=HRX.out.bs.ce
             obtain⟨y0,y1,y2,y3,y4⟩:=HRX.out.bw.ce
             rw[show(SV.mk va vl vc).val = .slice va vl vc from rfl] at b0
             rw[show(SV.mk ta tl tc).val = .slice ta tl tc from rfl] at b1
             obtain⟨n0,n1,n2⟩:=HTR.out.ce
             go_wp2_with fail
             refine(HPU.out HRX.out).mono ?_
             rintro e wf ⟨rfl,hsw⟩
             clear HPU b0 b1 y0 y1 y2 y3 y4 n0 n1 n2
             obtain⟨hbr,z1,z2⟩:=HYE.out HRX.out hsw
             have HZ:=(show Hid _ from And.intro z1 z2)
             obtain⟨r0,r1⟩:=hbr.ce
             obtain⟨rf0,rf1⟩:=hbr.fz
             clear z1 z2 hsw hbr HYE
             go_wp2_with fail
             refine bodyPost_ret (res2 rfl _ _ (w.heap.size+2) 33 _ (0,0) _ rfl HZ.out.1 Tryz.underlying33 rfl (by kernel_rfl)) rfl ?_
             rw[HRR.out]
             exact⟨rfl,HZ.out.2⟩
           | true =>
             have HRA:Hid (R=if k=lenS then (if isT nd.va 65529=true∧nd.fl=1 then lenG S o (payZ nd.va) else (S,false)) else match rxI k with
              | some n=>if nd.fl=7 then elemG S o (n:Int) nd.va else (S,false)
              | none=>(putG S o k nd,true)):=by show R=_;rw[HR2.out,if_pos har]
             have HITA:=(show Hid _ from HIT2.out har)
             clear HR2 HIT2
             subst har
             go_wp2_with fail
             refine(HAR.out HM.out).mono ?_
             rintro e wr ⟨rfl,hBr⟩
             have HRX:=(show Hid _ from HM.out.below hBr)
             have HTR:Hid (Bx3 wr bn nd):=HTM.out.below hBr
             clear hBr HM HTM HAR b0 b1 y0 y1 y2 y3 y4 n0 n1 n2
             obtain⟨b0,b1⟩:=HRX.out.bs.ce
             obtain⟨y0,y1,y2,y3,y4⟩:=HRX.out.bw.ce
             rw[show(SV.mk va vl vc).val = .slice va vl vc from rfl] at b0
             rw[show(SV.mk ta tl tc).val = .slice ta tl tc from rfl] at b1
             obtain⟨n0,n1,n2⟩:=HTR.out.ce
             by_cases hl:k=lenS
             ·have hee:(k.toList == [108,101,110,103,116,104])=true:=by rw[hl,lenS_l];rfl
              have kit:=HITA.out hl
              have HR3:Hid (R=if isT nd.va 65529=true∧nd.fl=1 then lenG S o (payZ nd.va) else (S,false)):=by show R=_;rw[HRA.out,if_pos hl]
              clear HRA HITA hl HPU HSE
              generalize (((rxI k).getD 0:Nat):Int)=ni at *
              generalize (rxI k).isSome=ib at *
              cases hg:isT nd.va 65529 with
              | false =>
                rw[hg] at kit
                have HRR:Hid (R=(S,false)):=by show R=_;rw[HR3.out,if_neg (by rw[hg];rintro⟨c,_⟩;cases c)]
                clear HR3 HSL HYE
                cases hf1:(nd.fl != 1) with
                | true =>
                  go_wp2_with fail
                  refine(kx _).mono ?_
                  rintro e wi ⟨rfl,rfl⟩
                  clear kx
                  go_wp2_with fail
                  refine(kit _).mono ?_
                  rintro e wj ⟨rfl,hBj⟩
                  have HI:=(show Hid _ from HRX.out.below hBj)
                  have HTI:Hid (Bx3 wj bn nd):=HTR.out.below hBj
                  clear kit hBj HRX HTR b0 b1 y0 y1 y2 y3 y4 n0 n1 n2
                  obtain⟨b0,b1⟩:=HI.out.bs.ce
                  obtain⟨y0,y1,y2,y3,y4⟩:=HI.out.bw.ce
                  rw[show(SV.mk va vl vc).val = .slice va vl vc from rfl] at b0
                  rw[show(SV.mk ta tl tc).val = .slice ta tl tc from rfl] at b1
                  obtain⟨n0,n1,n2⟩:=HTI.out.ce
                  obtain⟨z1,z2⟩:=HNO.out HI.out
                  have HZ:=(show Hid _ from And.intro z1 z2)
                  obtain⟨r0,r1⟩:=HI.out.br.ce
                  obtain⟨rf0,rf1⟩:=HI.out.br.fz
                  clear z1 z2 HNO
                  go_wp2_with fail
                  refine bodyPost_ret (res2 rfl _ _ (w.heap.size+2) 33 _ (0,0) _ rfl HZ.out.1 Tryz.underlying33 rfl (by kernel_rfl)) rfl ?_
                  rw[HRR.out]
                  exact⟨rfl,HZ.out.2⟩
                | false =>
                  go_wp2_with fail
                  refine(kx _).mono ?_
                  rintro e wi ⟨rfl,rfl⟩
                  clear kx
                  go_wp2_with fail
                  refine(kit _).mono ?_
                  rintro e wj ⟨rfl,hBj⟩
                  have HI:=(show Hid _ from HRX.out.below hBj)
                  have HTI:Hid (Bx3 wj bn nd):=HTR.out.below hBj
                  clear kit hBj HRX HTR b0 b1 y0 y1 y2 y3 y4 n0 n1 n2
                  obtain⟨b0,b1⟩:=HI.out.bs.ce
                  obtain⟨y0,y1,y2,y3,y4⟩:=HI.out.bw.ce
                  rw[show(SV.mk va vl vc).val = .slice va vl vc from rfl] at b0
                  rw[show(SV.mk ta tl tc).val = .slice ta tl tc from rfl] at b1
                  obtain⟨n0,n1,n2⟩:=HTI.out.ce
                  obtain⟨z1,z2⟩:=HNO.out HI.out
                  have HZ:=(show Hid _ from And.intro z1 z2)
                  obtain⟨r0,r1⟩:=HI.out.br.ce
                  obtain⟨rf0,rf1⟩:=HI.out.br.fz
                  clear z1 z2 HNO
                  go_wp2_with fail
                  refine bodyPost_ret (res2 rfl _ _ (w.heap.size+2) 33 _ (0,0) _ rfl HZ.out.1 Tryz.underlying33 rfl (by kernel_rfl)) rfl ?_
                  rw[HRR.out]
                  exact⟨rfl,HZ.out.2⟩
              | true =>
                rw[hg] at kit
                by_cases hf:nd.fl=1
                ·have HR4:Hid (R=lenG S o (payZ nd.va)):=by show R=_;rw[HR3.out,if_pos ⟨hg,hf⟩]
                 have hf1:(nd.fl != 1)=false:=by rw[hf];rfl
                 have hpz:wrap64 (wrap32 (payN nd.va 65529))=payZ nd.va:=by
                  unfold payN payZ
                  rw[hg,if_pos rfl,if_pos rfl]
                  unfold wrap64 wrap32
                  omega
                 generalize payN nd.va 65529=pn at *
                 generalize payZ nd.va=pz at *
                 clear HR3 HNO hf
                 go_wp2_with fail
                 refine(kx _).mono ?_
                 rintro e wi ⟨rfl,rfl⟩
                 clear kx
                 go_wp2_with fail
                 refine(kit _).mono ?_
                 rintro e wj ⟨rfl,hBj⟩
                 have HI:=(show Hid _ from HRX.out.below hBj)
                 have HTI:Hid (Bx3 wj bn nd):=HTR.out.below hBj
                 clear kit hBj HRX HTR b0 b1 y0 y1 y2 y3 y4 n0 n1 n2
                 obtain⟨b0,b1⟩:=HI.out.bs.ce
                 obtain⟨y0,y1,y2,y3,y4⟩:=HI.out.bw.ce
                 rw[show(SV.mk va vl vc).val = .slice va vl vc from rfl] at b0
                 rw[show(SV.mk ta tl tc).val = .slice ta tl tc from rfl] at b1
                 obtain⟨n0,n1,n2⟩:=HTI.out.ce
                 go_wp2_with fail
                 refine(HSL.out _ HI.out).mono ?_
                 rintro e wf ⟨rfl,hsw⟩
                 clear HSL b0 b1 y0 y1 y2 y3 y4 n0 n1 n2
                 obtain⟨hbr,z1,z2⟩:=HYE.out HI.out hsw
                 have HZ:=(show Hid _ from And.intro z1 z2)
                 obtain⟨r0,r1⟩:=hbr.ce
                 obtain⟨rf0,rf1⟩:=hbr.fz
                 clear z1 z2 hsw hbr HYE
                 go_wp2_with fail
                 refine bodyPost_ret (res2 rfl _ _ (w.heap.size+2) 33 _ (0,0) _ rfl HZ.out.1 Tryz.underlying33 rfl (by kernel_rfl)) rfl ?_
                 rw[HR4.out]
                 exact⟨rfl,HZ.out.2⟩
                ·have hf1:(nd.fl != 1)=true:=by simpa using hf
                 have HRR:Hid (R=(S,false)):=by show R=_;rw[HR3.out,if_neg (by rintro⟨_,c⟩;exact hf c)]
                 clear HR3 HSL HYE hf
                 go_wp2_with fail
                 refine(kx _).mono ?_
                 rintro e wi ⟨rfl,rfl⟩
                 clear kx
                 go_wp2_with fail
                 refine(kit _).mono ?_
                 rintro e wj ⟨rfl,hBj⟩
                 have HI:=(show Hid _ from HRX.out.below hBj)
                 have HTI:Hid (Bx3 wj bn nd):=HTR.out.below hBj
                 clear kit hBj HRX HTR b0 b1 y0 y1 y2 y3 y4 n0 n1 n2
                 obtain⟨b0,b1⟩:=HI.out.bs.ce
                 obtain⟨y0,y1,y2,y3,y4⟩:=HI.out.bw.ce
                 rw[show(SV.mk va vl vc).val = .slice va vl vc from rfl] at b0
                 rw[show(SV.mk ta tl tc).val = .slice ta tl tc from rfl] at b1
                 obtain⟨n0,n1,n2⟩:=HTI.out.ce
                 obtain⟨z1,z2⟩:=HNO.out HI.out
                 have HZ:=(show Hid _ from And.intro z1 z2)
                 obtain⟨r0,r1⟩:=HI.out.br.ce
                 obtain⟨rf0,rf1⟩:=HI.out.br.fz
                 clear z1 z2 HNO
                 go_wp2_with fail
                 refine bodyPost_ret (res2 rfl _ _ (w.heap.size+2) 33 _ (0,0) _ rfl HZ.out.1 Tryz.underlying33 rfl (by kernel_rfl)) rfl ?_
                 rw[HRR.out]
                 exact⟨rfl,HZ.out.2⟩
             ·have hee:(k.toList == [108,101,110,103,116,104])=false:=by
               rw[←lenS_l]
               exact Sp.bytes_no hl
              cases hi:rxI k with
              | none =>
                rw[hi] at kx
                simp only[Option.getD_none,Option.isSome_none] at kx
                have HRR:Hid (R=(putG S o k nd,true)):=by show R=_;rw[HRA.out,if_neg hl,hi]
                clear HRA HITA HSL HSE HNO hi hl
                go_wp2_with fail
                refine(kx _).mono ?_
                rintro e wi ⟨rfl,rfl⟩
                obtain⟨b0,b1⟩:=HRX.out.bs.ce
                obtain⟨y0,y1,y2,y3,y4⟩:=HRX.out.bw.ce
                rw[show(SV.mk va vl vc).val = .slice va vl vc from rfl] at b0
                rw[show(SV.mk ta tl tc).val = .slice ta tl tc from rfl] at b1
                obtain⟨n0,n1,n2⟩:=HTR.out.ce
                go_wp2_with fail
                refine(HPU.out HRX.out).mono ?_
                rintro e wf ⟨rfl,hsw⟩
                clear HPU b0 b1 y0 y1 y2 y3 y4 n0 n1 n2
                obtain⟨hbr,z1,z2⟩:=HYE.out HRX.out hsw
                have HZ:=(show Hid _ from And.intro z1 z2)
                obtain⟨r0,r1⟩:=hbr.ce
                obtain⟨rf0,rf1⟩:=hbr.fz
                clear z1 z2 hsw hbr HYE
                go_wp2_with fail
                refine bodyPost_ret (res2 rfl _ _ (w.heap.size+2) 33 _ (0,0) _ rfl HZ.out.1 Tryz.underlying33 rfl (by kernel_rfl)) rfl ?_
                rw[HRR.out]
                exact⟨rfl,HZ.out.2⟩
              | some n =>
                rw[hi] at kx
                simp only[Option.getD_some,Option.isSome_some] at kx
                by_cases hf:nd.fl=7
                ·have hf1:(nd.fl != 7)=false:=by rw[hf];rfl
                 have HR4:Hid (R=elemG S o (n:Int) nd.va):=by show R=_;rw[HRA.out,if_neg hl,hi];simp only;rw[if_pos hf]
                 clear HRA HITA HSL HPU HNO hi hl hf
                 go_wp2_with fail
                 refine(kx _).mono ?_
                 rintro e wi ⟨rfl,rfl⟩
                 clear kx
                 go_wp2_with fail
                 refine(HSE.out _ _ HRX.out).mono ?_
                 rintro e wf ⟨rfl,hsw⟩
                 clear HSE b0 b1 y0 y1 y2 y3 y4 n0 n1 n2
                 obtain⟨hbr,z1,z2⟩:=HYE.out HRX.out hsw
                 have HZ:=(show Hid _ from And.intro z1 z2)
                 obtain⟨r0,r1⟩:=hbr.ce
                 obtain⟨rf0,rf1⟩:=hbr.fz
                 clear z1 z2 hsw hbr HYE
                 go_wp2_with fail
                 refine bodyPost_ret (res2 rfl _ _ (w.heap.size+2) 33 _ (0,0) _ rfl HZ.out.1 Tryz.underlying33 rfl (by kernel_rfl)) rfl ?_
                 rw[HR4.out]
                 exact⟨rfl,HZ.out.2⟩
                ·have hf1:(nd.fl != 7)=true:=by simpa using hf
                 have HRR:Hid (R=(S,false)):=by show R=_;rw[HRA.out,if_neg hl,hi];simp only;rw[if_neg hf]
                 clear HRA HITA HSL HPU HSE HYE hi hl hf
                 go_wp2_with fail
                 refine(kx _).mono ?_
                 rintro e wi ⟨rfl,rfl⟩
                 clear kx
                 obtain⟨z1,z2⟩:=HNO.out HRX.out
                 have HZ:=(show Hid _ from And.intro z1 z2)
                 obtain⟨r0,r1⟩:=HRX.out.br.ce
                 obtain⟨rf0,rf1⟩:=HRX.out.br.fz
                 clear z1 z2 HNO
                 go_wp2_with fail
                 refine bodyPost_ret (res2 rfl _ _ (w.heap.size+2) 33 _ (0,0) _ rfl HZ.out.1 Tryz.underlying33 rfl (by kernel_rfl)) rfl ?_
                 rw[HRR.out]
                 exact⟨rfl,HZ.out.2⟩
end
end Go.Proofs.YtahhionlbfhinabGreatDoor.Hp
