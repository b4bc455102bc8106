/- ZW -/
import Derived.Test.YtihmdcdifakepaaGreatB29
set_option linter.unusedVariables false
set_option linter.unusedSimpArgs false
set_option maxRecDepth 100000
set_option maxHeartbeats 40000000
namespace Go.Proofs.YtihmdcdifakepaaGreat.Rv.Rx
open Go.RowKit Go.Proofs.YtihmdcdifakepaaGreat.Sc Go.Proofs.YtihmdcdifakepaaGreat.Rz
theorem stat_part (W0:World)(n:Nat)(hE:ExC W0 n)(hS:StC W0 n)(hB:BlC W0 n):∀(t:Tr (n+1)),(show Nd×Sli (Tr n) from t).1.kind∈([33,34,39,40,41,42,46,31,32,44]:List Int)→okD (n+1) W0 t→∀(w:World)(wb:Nat)(O:Nat→Prop)(s:Rz.RS)(c a:Int)(v6:Value),OnD W0 wb O s c a v6 w→cr s+8*szT (n+1) t≤lim+2→dp s+4*(n+1)≤lim→1≤s.blocks.length→Calls Tryz.prog 20 #[.pointer (some ⟨wb,0,none⟩),valT (n+1) t] w (Tl w W0.heap.size wb O v6 (8*szT (n+1) t - 2) ((resR bi (n+1)).2.1 t s) s c a):=by
 intro t hk0 hok w wb O s c a v6 h hb hd hm
 obtain⟨x,sl⟩:=t
 have HK0:Hid (x.kind∈([33,34,39,40,41,42,46,31,32,44]:List Int)):=hk0
 clear hk0
 obtain⟨⟨hxw,hso,hkt⟩,hft⟩:=hok
 have hks:∀y∈sl.xs,okD n W0 y:=fun y hy=>⟨hkt y hy,hft.2.2.2.2 y hy⟩
 have hsz:szT (n+1) ((x,sl):Nd×Sli (Tr n))=1+(sl.xs.map (szT n)).sum:=rfl
 rw[hsz] at hb ⊢
 rw[val_succ]
 obtain⟨kv,hkv⟩:∃kv,kv=Value.slice sl.at' sl.xs.length sl.cap:=⟨_,rfl⟩
 obtain⟨wn,hwn⟩:∃wn,wn=w.alloc (.cells #[.int .i64 x.kind,.int .i64 x.pl,.string x.name,.int .u64 x.num,.string x.op,kv] 25):=⟨_,rfl⟩
 have hbl:Below w.heap.size w wn:=by rw[hwn];exact below_new (Below.refl _ _) (Nat.le_refl _) _
 have hX:NdB w.heap.size x kv wn:=by rw[hwn];exact at_new _ _
 have hn:=h.below hbl
 have c7:=hn.mem.box.2.2.2.1
 obtain⟨P,hP⟩:∃P,P=Tl w W0.heap.size wb O v6 (8*(1+(sl.xs.map (szT n)).sum) - 2) ((resR bi (n+1)).2.1 ((x,sl):Nd×Sli (Tr n)) s) s c a:=⟨_,rfl⟩
 rw[←hP]
 by_cases hc:¬c=0
 ·have hc':(c == 0)=false:=by simpa using hc
  have HE:Hid (P (.returned (.tuple #[])) wn):=by rw[hP];exact⟨rfl,s,c,a,(Told.idle hc).mono (by omega),RWent.same h.mem hbl⟩
  rw[←hkv]
  clear h hb hd hn hX hP hxw hso hkt hft hks hE hS hB hsz hkv hbl
  go_enter Tryz.func20,Tryz.ntmps20
  go_upto_region 1 with fail
  rw[←hwn]
  clear hwn
  go_wp2_with fail
  go_end0
  exact HE.out
 have hc:=Decidable.not_not.1 hc
 subst hc
 have HFIN:Hid (∀(k:Nat) (r:Except Rz.Er Rz.RS),k≤8*(1+(sl.xs.map (szT n)).sum) - 2→(resR bi (n+1)).2.1 ((x,sl):Nd×Sli (Tr n)) s=r→∀e w',Tl wn W0.heap.size wb O v6 k r s 0 a e w'→P e w'):=fun k r hk hr e w' hT=>by
  rw[hP,hr]
  exact(hT.mono hk).behind hbl
 have b0:wn.cell? ⟨w.heap.size,0,none⟩=some (.int .i64 x.kind):=cell_of_row wn _ 0 _ _ (0,0) hX
 have b1:wn.cell? ⟨w.heap.size,1,none⟩=some (.int .i64 x.pl):=cell_of_row wn _ 1 _ _ (0,0) hX
 have b2:wn.cell? ⟨w.heap.size,2,none⟩=some (.string x.name):=cell_of_row wn _ 2 _ _ (0,0) hX
 have b3:wn.cell? ⟨w.heap.size,3,none⟩=some (.int .u64 x.num):=cell_of_row wn _ 3 _ _ (0,0) hX
 have b4:wn.cell? ⟨w.heap.size,4,none⟩=some (.string x.op):=cell_of_row wn _ 4 _ _ (0,0) hX
 have b5:wn.cell? ⟨w.heap.size,5,none⟩=some kv:=cell_of_row wn _ 5 _ _ (0,0) hX
 have hlm:cr s≤100000000:=by unfold lim at hb;omega
 by_cases h39:x.kind=39
 ·have ku:=jump_any wn W0.heap.size wb O s a v6 hn.mem x kv
  have hr:(resR bi (n+1)).2.1 ((x,sl):Nd×Sli (Tr n)) s=jumpP x s:=by
   show(if x.kind=33 then _ else if x.kind=34 then _ else if x.kind=35 then _ else if x.kind=36∨x.kind=37 then _ else if x.kind=38 then _ else if x.kind=39∨x.kind=40 then _ else _)=_
   rw[if_neg (by omega),if_neg (by omega),if_neg (by omega),if_neg (by omega),if_neg (by omega),if_pos (by omega)]
  have hf:=fun e w'=>HFIN.out (0) _ (by omega) hr e w'
  have HF:Hid (∀e w',Tl wn W0.heap.size wb O v6 (0) (jumpP x s) s 0 a e w'→P e w'):=hf
  rw[←hkv]
  clear h hb hd hm hn hX hP hxw hso hkt hft hks hE hS hB hsz hkv hbl HFIN hr hf hlm
  generalize jumpP x s=r at *
  rw[h39] at b0 ku hwn ⊢
  go_enter Tryz.func20,Tryz.ntmps20
  go_upto_region 1 with fail
  rw[←hwn]
  clear hwn
  go_wp2_with fail
  refine ku.mono ?_
  intro e w1 hT
  have he:e = .returned (.tuple #[]):=hT.1
  subst he
  have HE:Hid (P (.returned (.tuple #[])) w1):=HF.out _ _ hT
  clear ku hT HF
  go_wp2_with fail
  go_end0
  exact HE.out
 by_cases h40:x.kind=40
 ·have ku:=jump_any wn W0.heap.size wb O s a v6 hn.mem x kv
  have hr:(resR bi (n+1)).2.1 ((x,sl):Nd×Sli (Tr n)) s=jumpP x s:=by
   show(if x.kind=33 then _ else if x.kind=34 then _ else if x.kind=35 then _ else if x.kind=36∨x.kind=37 then _ else if x.kind=38 then _ else if x.kind=39∨x.kind=40 then _ else _)=_
   rw[if_neg (by omega),if_neg (by omega),if_neg (by omega),if_neg (by omega),if_neg (by omega),if_pos (by omega)]
  have hf:=fun e w'=>HFIN.out (0) _ (by omega) hr e w'
  have HF:Hid (∀e w',Tl wn W0.heap.size wb O v6 (0) (jumpP x s) s 0 a e w'→P e w'):=hf
  rw[←hkv]
  clear h hb hd hm hn hX hP hxw hso hkt hft hks hE hS hB hsz hkv hbl HFIN hr hf hlm
  generalize jumpP x s=r at *
  rw[h40] at b0 ku hwn ⊢
  go_enter Tryz.func20,Tryz.ntmps20
  go_upto_region 1 with fail
  rw[←hwn]
  clear hwn
  go_wp2_with fail
  refine ku.mono ?_
  intro e w1 hT
  have he:e = .returned (.tuple #[]):=hT.1
  subst he
  have HE:Hid (P (.returned (.tuple #[])) w1):=HF.out _ _ hT
  clear ku hT HF
  go_wp2_with fail
  go_end0
  exact HE.out
 by_cases h42:x.kind=42
 ·have ku:=all_any W0 n hE wn wb O s 0 a v6 hn sl hso hks (by omega) (by omega)
  have hr:(resR bi (n+1)).2.1 ((x,sl):Nd×Sli (Tr n)) s=eachP (resR bi n).1 sl.xs s:=by
   show(if x.kind=33 then _ else if x.kind=34 then _ else if x.kind=35 then _ else if x.kind=36∨x.kind=37 then _ else if x.kind=38 then _ else if x.kind=39∨x.kind=40 then _ else if x.kind=41 then _ else if x.kind=42∨x.kind=46∨x.kind=31∨x.kind=32 then _ else _)=_
   rw[if_neg (by omega),if_neg (by omega),if_neg (by omega),if_neg (by omega),if_neg (by omega),if_neg (by omega),if_neg (by omega),if_pos (by omega)]
  have hf:=fun e w'=>HFIN.out (8*(sl.xs.map (szT n)).sum - 2*sl.xs.length) _ (by omega) hr e w'
  have HF:Hid (∀e w',Tl wn W0.heap.size wb O v6 (8*(sl.xs.map (szT n)).sum - 2*sl.xs.length) (eachP (resR bi n).1 sl.xs s) s 0 a e w'→P e w'):=hf
  rw[←hkv] at ku ⊢
  clear h hb hd hm hn hX hP hxw hso hkt hft hks hE hS hB hsz hkv hbl HFIN hr hf hlm
  generalize eachP (resR bi n).1 sl.xs s=r at *
  rw[h42] at b0 hwn ⊢
  go_enter Tryz.func20,Tryz.ntmps20
  go_upto_region 1 with fail
  rw[←hwn]
  clear hwn
  go_wp2_with fail
  refine ku.mono ?_
  intro e w1 hT
  have he:e = .returned (.tuple #[]):=hT.1
  subst he
  have HE:Hid (P (.returned (.tuple #[])) w1):=HF.out _ _ hT
  clear ku hT HF
  go_wp2_with fail
  go_end0
  exact HE.out
 by_cases h46:x.kind=46
 ·have ku:=all_any W0 n hE wn wb O s 0 a v6 hn sl hso hks (by omega) (by omega)
  have hr:(resR bi (n+1)).2.1 ((x,sl):Nd×Sli (Tr n)) s=eachP (resR bi n).1 sl.xs s:=by
   show(if x.kind=33 then _ else if x.kind=34 then _ else if x.kind=35 then _ else if x.kind=36∨x.kind=37 then _ else if x.kind=38 then _ else if x.kind=39∨x.kind=40 then _ else if x.kind=41 then _ else if x.kind=42∨x.kind=46∨x.kind=31∨x.kind=32 then _ else _)=_
   rw[if_neg (by omega),if_neg (by omega),if_neg (by omega),if_neg (by omega),if_neg (by omega),if_neg (by omega),if_neg (by omega),if_pos (by omega)]
  have hf:=fun e w'=>HFIN.out (8*(sl.xs.map (szT n)).sum - 2*sl.xs.length) _ (by omega) hr e w'
  have HF:Hid (∀e w',Tl wn W0.heap.size wb O v6 (8*(sl.xs.map (szT n)).sum - 2*sl.xs.length) (eachP (resR bi n).1 sl.xs s) s 0 a e w'→P e w'):=hf
  rw[←hkv] at ku ⊢
  clear h hb hd hm hn hX hP hxw hso hkt hft hks hE hS hB hsz hkv hbl HFIN hr hf hlm
  generalize eachP (resR bi n).1 sl.xs s=r at *
  rw[h46] at b0 hwn ⊢
  go_enter Tryz.func20,Tryz.ntmps20
  go_upto_region 1 with fail
  rw[←hwn]
  clear hwn
  go_wp2_with fail
  refine ku.mono ?_
  intro e w1 hT
  have he:e = .returned (.tuple #[]):=hT.1
  subst he
  have HE:Hid (P (.returned (.tuple #[])) w1):=HF.out _ _ hT
  clear ku hT HF
  go_wp2_with fail
  go_end0
  exact HE.out
 by_cases h31:x.kind=31
 ·have ku:=all_any W0 n hE wn wb O s 0 a v6 hn sl hso hks (by omega) (by omega)
  have hr:(resR bi (n+1)).2.1 ((x,sl):Nd×Sli (Tr n)) s=eachP (resR bi n).1 sl.xs s:=by
   show(if x.kind=33 then _ else if x.kind=34 then _ else if x.kind=35 then _ else if x.kind=36∨x.kind=37 then _ else if x.kind=38 then _ else if x.kind=39∨x.kind=40 then _ else if x.kind=41 then _ else if x.kind=42∨x.kind=46∨x.kind=31∨x.kind=32 then _ else _)=_
   rw[if_neg (by omega),if_neg (by omega),if_neg (by omega),if_neg (by omega),if_neg (by omega),if_neg (by omega),if_neg (by omega),if_pos (by omega)]
  have hf:=fun e w'=>HFIN.out (8*(sl.xs.map (szT n)).sum - 2*sl.xs.length) _ (by omega) hr e w'
  have HF:Hid (∀e w',Tl wn W0.heap.size wb O v6 (8*(sl.xs.map (szT n)).sum - 2*sl.xs.length) (eachP (resR bi n).1 sl.xs s) s 0 a e w'→P e w'):=hf
  rw[←hkv] at ku ⊢
  clear h hb hd hm hn hX hP hxw hso hkt hft hks hE hS hB hsz hkv hbl HFIN hr hf hlm
  generalize eachP (resR bi n).1 sl.xs s=r at *
  rw[h31] at b0 hwn ⊢
  go_enter Tryz.func20,Tryz.ntmps20
  go_upto_region 1 with fail
  rw[←hwn]
  clear hwn
  go_wp2_with fail
  refine ku.mono ?_
  intro e w1 hT
  have he:e = .returned (.tuple #[]):=hT.1
  subst he
  have HE:Hid (P (.returned (.tuple #[])) w1):=HF.out _ _ hT
  clear ku hT HF
  go_wp2_with fail
  go_end0
  exact HE.out
 by_cases h32:x.kind=32
 ·have ku:=all_any W0 n hE wn wb O s 0 a v6 hn sl hso hks (by omega) (by omega)
  have hr:(resR bi (n+1)).2.1 ((x,sl):Nd×Sli (Tr n)) s=eachP (resR bi n).1 sl.xs s:=by
   show(if x.kind=33 then _ else if x.kind=34 then _ else if x.kind=35 then _ else if x.kind=36∨x.kind=37 then _ else if x.kind=38 then _ else if x.kind=39∨x.kind=40 then _ else if x.kind=41 then _ else if x.kind=42∨x.kind=46∨x.kind=31∨x.kind=32 then _ else _)=_
   rw[if_neg (by omega),if_neg (by omega),if_neg (by omega),if_neg (by omega),if_neg (by omega),if_neg (by omega),if_neg (by omega),if_pos (by omega)]
  have hf:=fun e w'=>HFIN.out (8*(sl.xs.map (szT n)).sum - 2*sl.xs.length) _ (by omega) hr e w'
  have HF:Hid (∀e w',Tl wn W0.heap.size wb O v6 (8*(sl.xs.map (szT n)).sum - 2*sl.xs.length) (eachP (resR bi n).1 sl.xs s) s 0 a e w'→P e w'):=hf
  rw[←hkv] at ku ⊢
  clear h hb hd hm hn hX hP hxw hso hkt hft hks hE hS hB hsz hkv hbl HFIN hr hf hlm
  generalize eachP (resR bi n).1 sl.xs s=r at *
  rw[h32] at b0 hwn ⊢
  go_enter Tryz.func20,Tryz.ntmps20
  go_upto_region 1 with fail
  rw[←hwn]
  clear hwn
  go_wp2_with fail
  refine ku.mono ?_
  intro e w1 hT
  have he:e = .returned (.tuple #[]):=hT.1
  subst he
  have HE:Hid (P (.returned (.tuple #[])) w1):=HF.out _ _ hT
  clear ku hT HF
  go_wp2_with fail
  go_end0
  exact HE.out
 by_cases h33:x.kind=33
 ·have hlen:1≤sl.xs.length:=hft.1 (by omega)
  obtain⟨ps,bd,hxs⟩:∃ps bd,sl.xs=ps++[bd]:=by
   rcases List.eq_nil_or_concat sl.xs with e | ⟨p,q,e⟩
   ·rw[e] at hlen;simp at hlen
   ·exact⟨p,q,by rw[e,List.concat_eq_append]⟩
  obtain⟨kb,off,hat,_⟩:=hso.cells (by rw[hxs];simp)
  obtain⟨sa,kc,sx⟩:=sl
  simp only at *
  subst hat
  subst hxs
  have ku:=function_any W0 n hB x kb off kc ps bd hso hks hxw.name wn wb O s a v6 hn hb (by omega)
  have hr:(resR bi (n+1)).2.1 ((x,⟨some ⟨kb,off,none⟩,kc,ps++[bd]⟩):Nd×Sli (Tr n)) s=functionR (ndR n) (resR bi n).2.2 x (ps++[bd]) s:=by show(if x.kind=33 then _ else _)=_;rw[if_pos h33]
  have hf:=fun e w'=>HFIN.out _ _ (Nat.le_refl _) hr e w'
  have HF:Hid (∀e w',Tl wn W0.heap.size wb O v6 (8*(1+((ps++[bd]).map (szT n)).sum) - 2) (functionR (ndR n) (resR bi n).2.2 x (ps++[bd]) s) s 0 a e w'→P e w'):=hf
  rw[show(ps++[bd]).length=ps.length+1 by simp] at hkv
  have e1:(Value.slice (some ⟨kb,off,none⟩) (ps++[bd]).length kc)=kv:=by rw[hkv];simp
  rw[e1]
  rw[←hkv] at ku
  clear h hb hd hm hn hX hP hxw hso hkt hft hks hE hS hB hsz hkv hbl HFIN hf hr hlm e1 hlen
  generalize functionR (ndR n) (resR bi n).2.2 x (ps++[bd]) s=r at *
  rw[h33] at b0 ku hwn ⊢
  go_enter Tryz.func20,Tryz.ntmps20
  go_upto_region 1 with fail
  rw[←hwn]
  clear hwn
  go_wp2_with fail
  refine ku.mono ?_
  intro e w1 hT
  have he:e = .returned (.tuple #[]):=hT.1
  subst he
  have HE:Hid (P (.returned (.tuple #[])) w1):=HF.out _ _ hT
  clear ku hT HF
  go_wp2_with fail
  go_end0
  exact HE.out
 by_cases h41:x.kind=41
 ·have hlen:sl.xs.length=1:=hft.2.2.2.1 h41
  obtain⟨t0,hxs⟩:∃t0,sl.xs=[t0]:=by
   cases e:sl.xs with
   | nil=>rw[e] at hlen;simp at hlen
   | cons p q=>exact⟨p,by rw[e] at hlen;simp at hlen;rw[hlen]⟩
  have ht0:=hks t0 (by rw[hxs];simp)
  have hs1:(sl.xs.map (szT n)).sum=szT n t0:=by rw[hxs];simp
  have ku:=labelled_any W0 n hS t0 ht0 wn wb O s a v6 hn x sl hso hxs hxw.name (by omega) (by omega) hm
  have hl1:leadT (n+1) ((x,sl):Nd×Sli (Tr n))=leadT n t0:=by
   show(if x.kind=41 then ((sl.xs[0]?).map (leadT n)).getD false else _)=_
   rw[if_pos h41,hxs]
   rfl
  have hr:(resR bi (n+1)).2.1 ((x,sl):Nd×Sli (Tr n)) s=labelP (resR bi n).2.1 x (leadT n t0) [t0] s:=by
   show(if x.kind=33 then _ else if x.kind=34 then _ else if x.kind=35 then _ else if x.kind=36∨x.kind=37 then _ else if x.kind=38 then _ else if x.kind=39∨x.kind=40 then _ else if x.kind=41 then _ else _)=_
   rw[if_neg (by omega),if_neg (by omega),if_neg (by omega),if_neg (by omega),if_neg (by omega),if_neg (by omega),if_pos (by omega),hl1,hxs]
  have hf:=fun e w'=>HFIN.out (8*szT n t0 - 2) _ (by omega) hr e w'
  have HF:Hid (∀e w',Tl wn W0.heap.size wb O v6 (8*szT n t0 - 2) (labelP (resR bi n).2.1 x (leadT n t0) [t0] s) s 0 a e w'→P e w'):=hf
  rw[hxs] at hkv
  replace hkv:kv = .slice sl.at' 1 sl.cap:=hkv
  rw[hxs]
  have e1:Value.slice sl.at' [t0].length sl.cap=kv:=hkv.symm
  rw[e1]
  rw[←hkv] at ku
  clear h hb hd hm hn hX hP hxw hso hkt hft hks hE hS hB hsz hkv hbl HFIN hf hr hlm e1 hlen hl1 hs1 ht0
  generalize labelP (resR bi n).2.1 x (leadT n t0) [t0] s=r at *
  rw[h41] at b0 ku hwn ⊢
  go_enter Tryz.func20,Tryz.ntmps20
  go_upto_region 1 with fail
  rw[←hwn]
  clear hwn
  go_wp2_with fail
  refine ku.mono ?_
  intro e w1 hT
  have he:e = .returned (.tuple #[]):=hT.1
  subst he
  have HE:Hid (P (.returned (.tuple #[])) w1):=HF.out _ _ hT
  clear ku hT HF
  go_wp2_with fail
  go_end0
  exact HE.out
 by_cases h34:x.kind=34
 ·have hr:(resR bi (n+1)).2.1 ((x,sl):Nd×Sli (Tr n)) s=leaveP (resR bi n).1 x sl.xs s:=by
   show(if x.kind=33 then _ else if x.kind=34 then _ else _)=_
   rw[if_neg (by omega),if_pos (by omega)]
  have c4:=hn.mem.box.1
  by_cases hf0:s.fn=0
  ·have kf:=fail_any wn W0.heap.size wb O s a v6 hn.mem x.pl 76
   have HREST:Hid (∀w1,RWent wn W0.heap.size wb O s 76 x.pl v6 w1→w1.cell? ⟨w.heap.size,5,none⟩=some kv∧Calls Tryz.prog 36 #[.pointer (some ⟨wb,0,none⟩),kv] w1 (fun e w'=>e = .returned (.tuple #[])∧P e w')):=fun w1 hw=>by
    refine⟨by rw[cell_of_row w1 _ 5 _ 25 (0,0) (nd_went h.mem (Nat.le_refl _) hbl hX hw)];rfl,?_⟩
    rw[hkv]
    refine(relT hn hw fun O1 o1=>all_any W0 n hE w1 wb O1 s 76 x.pl v6 o1 sl hso hks (by omega) (by omega)).mono ?_
    rintro e w2 ⟨he,s2,c2,a2,ht2,hw2⟩
    obtain⟨d1,d2,d3⟩:=ht2.bad (by decide)
    refine⟨he,HFIN.out 0 _ (by omega) hr e w2 ⟨he,s2,c2,a2,?_,hw2⟩⟩
    rw[d1,d2,d3]
    exact⟨Lk.refl s,by omega,fun e=>absurd rfl e,fun _=>by unfold leaveP;rw[if_pos hf0];exact⟨rfl,rfl,by decide⟩⟩
   rw[hf0] at c4
   rw[←hkv]
   clear h hb hd hm hn hX hP hxw hso hkt hft hks hE hS hB hsz hkv hbl HFIN hr hlm
   rw[h34] at b0 hwn ⊢
   go_enter Tryz.func20,Tryz.ntmps20
   go_upto_region 1 with fail
   rw[←hwn]
   clear hwn
   go_wp2_with fail
   refine kf.mono ?_
   rintro e w1 ⟨rfl,hw⟩
   obtain⟨b5',ka⟩:=HREST.out w1 hw
   clear kf hw HREST b0 b1 b2 b3 b4 b5
   go_wp2_with fail
   refine ka.mono ?_
   rintro e2 w2 ⟨rfl,hp⟩
   have HE:Hid (P (.returned (.tuple #[])) w2):=hp
   clear ka hp
   go_wp2_with fail
   go_end0
   exact HE.out
  ·have ku:=all_any W0 n hE wn wb O s 0 a v6 hn sl hso hks (by omega) (by omega)
   have hr2:(resR bi (n+1)).2.1 ((x,sl):Nd×Sli (Tr n)) s=eachP (resR bi n).1 sl.xs s:=by rw[hr];unfold leaveP;rw[if_neg hf0]
   have hf:=fun e w'=>HFIN.out (8*(sl.xs.map (szT n)).sum - 2*sl.xs.length) _ (by omega) hr2 e w'
   have HF:Hid (∀e w',Tl wn W0.heap.size wb O v6 (8*(sl.xs.map (szT n)).sum - 2*sl.xs.length) (eachP (resR bi n).1 sl.xs s) s 0 a e w'→P e w'):=hf
   have jf:((s.fn:Int) == 0)=false:=by simp;omega
   rw[←hkv] at ku ⊢
   clear h hb hd hm hn hX hP hxw hso hkt hft hks hE hS hB hsz hkv hbl HFIN hr hr2 hf hlm
   generalize eachP (resR bi n).1 sl.xs s=r at *
   rw[h34] at b0 hwn ⊢
   go_enter Tryz.func20,Tryz.ntmps20
   go_upto_region 1 with fail
   rw[←hwn]
   clear hwn
   go_wp2_with fail
   refine ku.mono ?_
   intro e w1 hT
   have he:e = .returned (.tuple #[]):=hT.1
   subst he
   have HE:Hid (P (.returned (.tuple #[])) w1):=HF.out _ _ hT
   clear ku hT HF
   go_wp2_with fail
   go_end0
   exact HE.out
 by_cases h44:x.kind=44
 ·have hnd:ndR n=ndT n:=funext (nd_same n)
  have hr:(resR bi (n+1)).2.1 ((x,sl):Nd×Sli (Tr n)) s=(itemsP (ndT n) (resR bi n).2.1 sl.xs (openP s)).bind fun s => .ok (shutP s):=by
   show(if x.kind=33 then _ else if x.kind=34 then _ else if x.kind=35 then _ else if x.kind=36∨x.kind=37 then _ else if x.kind=38 then _ else if x.kind=39∨x.kind=40 then _ else if x.kind=41 then _ else if x.kind=42∨x.kind=46∨x.kind=31∨x.kind=32 then _ else if x.kind=43 then _ else if x.kind=44 then _ else _)=_
   rw[if_neg (by omega),if_neg (by omega),if_neg (by omega),if_neg (by omega),if_neg (by omega),if_neg (by omega),if_neg (by omega),if_neg (by omega),if_neg (by omega),if_pos (by omega),←hnd]
   rfl
  have ko:=open_any wn W0.heap.size wb O s 0 a v6 hn.mem (by unfold dp lim at hd;omega)
  have HB1:Hid (∀w1,RWent wn W0.heap.size wb O (openP s) 0 a v6 w1→w1.cell? ⟨w.heap.size,5,none⟩=some kv∧Calls Tryz.prog 12 #[.pointer (some ⟨wb,0,none⟩),kv] w1 (fun e w'=>e = .returned (.tuple #[])∧∃s2 c2 a2,Told (8*(sl.xs.map (szT n)).sum) (itemsP (ndT n) (resR bi n).2.1 sl.xs (openP s)) (openP s) 0 a s2 c2 a2∧RWent wn W0.heap.size wb O s2 c2 a2 v6 w')):=fun w1 hw=>by
   refine⟨by rw[cell_of_row w1 _ 5 _ 25 (0,0) (nd_went h.mem (Nat.le_refl _) hbl hX hw)];rfl,?_⟩
   rw[hkv]
   exact relT hn hw fun O1 o1=>block_any W0 n hS w1 wb O1 (openP s) 0 a v6 o1 sl hso hks (by rw[cr_open];omega) (by unfold dp openP at *;simp only[List.length_cons];omega) (by unfold openP;simp)
  have HS1:Hid (∀s2 c2 a2 w2,Told (8*(sl.xs.map (szT n)).sum) (itemsP (ndT n) (resR bi n).2.1 sl.xs (openP s)) (openP s) 0 a s2 c2 a2→RWent wn W0.heap.size wb O s2 c2 a2 v6 w2→Calls Tryz.prog 40 #[.pointer (some ⟨wb,0,none⟩)] w2 (fun e w'=>e = .returned (.tuple #[])∧P e w')):=fun s2 c2 a2 w2 ht hw=>by
   have hb2:=ht.lk.blen
   refine(relG hn hw fun O1 o1=>shut_any w2 W0.heap.size wb O1 s2 c2 a2 v6 o1.mem (by rw[hb2];unfold openP;simp)).mono ?_
   rintro e w' ⟨he,hw3⟩
   exact⟨he,HFIN.out (8*(sl.xs.map (szT n)).sum) _ (by omega) hr e w' ⟨he,shutP s2,c2,a2,told_shut (f:=itemsP (ndT n) (resR bi n).2.1 sl.xs) ht,hw3⟩⟩
  rw[←hkv]
  clear h hb hd hm hn hX hP hxw hso hkt hft hks hE hS hB hsz hkv hbl HFIN hr hlm hnd
  generalize itemsP (ndT n) (resR bi n).2.1 sl.xs (openP s)=r at *
  rw[h44] at b0 hwn ⊢
  go_enter Tryz.func20,Tryz.ntmps20
  go_upto_region 1 with fail
  rw[←hwn]
  clear hwn
  go_wp2_with fail
  refine ko.mono ?_
  rintro e w1 ⟨rfl,hw⟩
  obtain⟨b5',kb⟩:=HB1.out w1 hw
  clear ko hw HB1 b0 b1 b2 b3 b4 b5
  go_wp2_with fail
  refine kb.mono ?_
  rintro e w2 ⟨rfl,s2,c2,a2,ht,hw2⟩
  have ks:=HS1.out s2 c2 a2 w2 ht hw2
  clear kb ht hw2 HS1 b5'
  go_wp2_with fail
  refine ks.mono ?_
  rintro e w3 ⟨rfl,hp⟩
  have HE:Hid (P (.returned (.tuple #[])) w3):=hp
  clear ks hp
  go_wp2_with fail
  go_end0
  exact HE.out
 have hk0:x.kind∈([33,34,39,40,41,42,46,31,32,44]:List Int):=HK0.out
 simp only[List.mem_cons,List.not_mem_nil,or_false] at hk0
 exfalso
 omega
theorem stat_any (W0:World)(n:Nat)(hE:ExC W0 n)(hS:StC W0 n)(hB:BlC W0 n):StC W0 (n+1):=by
 intro t hok w wb O s c a v6 h hb hd hm
 obtain⟨x,sl⟩:=t
 by_cases q:x.kind∈([33,34,39,40,41,42,46,31,32,44]:List Int)
 ·exact stat_part W0 n hE hS hB ((x,sl):Nd×Sli (Tr n)) q hok w wb O s c a v6 h hb hd hm
 by_cases q35:x.kind=35
 ·exact stat_35 W0 n hE hS hB ((x,sl):Nd×Sli (Tr n)) q35 hok w wb O s c a v6 h hb hd hm
 by_cases q36:x.kind=36
 ·exact stat_36 W0 n hE hS hB ((x,sl):Nd×Sli (Tr n)) q36 hok w wb O s c a v6 h hb hd hm
 by_cases q37:x.kind=37
 ·exact stat_37 W0 n hE hS hB ((x,sl):Nd×Sli (Tr n)) q37 hok w wb O s c a v6 h hb hd hm
 by_cases q38:x.kind=38
 ·exact stat_38 W0 n hE hS hB ((x,sl):Nd×Sli (Tr n)) q38 hok w wb O s c a v6 h hb hd hm
 by_cases q43:x.kind=43
 ·exact stat_43 W0 n hE hS hB ((x,sl):Nd×Sli (Tr n)) q43 hok w wb O s c a v6 h hb hd hm
 refine stat_rest W0 n hE hS hB ((x,sl):Nd×Sli (Tr n)) ?_ hok w wb O s c a v6 h hb hd hm
 show x.kind∉([33,34,35,36,37,38,39,40,41,42,46,31,32,43,44]:List Int)
 simp only[List.mem_cons,List.not_mem_nil,or_false,not_or] at q ⊢
 omega
end Go.Proofs.YtihmdcdifakepaaGreat.Rv.Rx
