/- KM, LS, LU -/
import Derived.Test.YtahhionlbfhinabGreatDoorB28
import Derived.Test.YtahhionlbfhinabGreatDoorLL
import Derived.Test.YtahhionlbfhinabGreatDoorB14
import Derived.Test.YtahhionlbfhinabGreatDoorLR
set_option linter.unusedVariables false
set_option linter.unusedSimpArgs false
set_option maxRecDepth 100000
set_option maxHeartbeats 40000000
namespace Go.Proofs.YtahhionlbfhinabGreatDoor.Hp
open Go.RowKit
def deqB (a b:De):Bool:=a.va == b.va && (a.se == b.se && a.fl == b.fl)
def mayD (o d:De):Bool:=(bits .and .i64 o.fl 4 != 0) || deqB d o || (!accB o && !(bits .and .i64 o.fl 1 == 0) && (bits .andNot .i64 d.fl 1 == bits .andNot .i64 o.fl 1))
theorem box2 (w:World)(a b:De):Bx3 ((w.alloc (.cells #[.int .u64 a.va,.int .u64 a.se,.int .i64 a.fl] 39)).alloc (.cells #[.int .u64 b.va,.int .u64 b.se,.int .i64 b.fl] 39)) w.heap.size a∧Bx3 ((w.alloc (.cells #[.int .u64 a.va,.int .u64 a.se,.int .i64 a.fl] 39)).alloc (.cells #[.int .u64 b.va,.int .u64 b.se,.int .i64 b.fl] 39)) (w.heap.size+1) b∧Below w.heap.size w ((w.alloc (.cells #[.int .u64 a.va,.int .u64 a.se,.int .i64 a.fl] 39)).alloc (.cells #[.int .u64 b.va,.int .u64 b.se,.int .i64 b.fl] 39)):=by
 refine⟨at_old _ _ _ _ (at_new _ _),?_,B2 w _ _⟩
 exact at_two w _ _
theorem may_any (w:World)(o d:De):Calls Tryz.prog 63 #[deV o,deV d] w fun e w'=>e = .returned (.bool (mayD o d))∧Below w.heap.size w w':=by
 obtain⟨wb,hwb⟩:∃wb,wb=(w.alloc (.cells #[.int .u64 o.va,.int .u64 o.se,.int .i64 o.fl] 39)).alloc (.cells #[.int .u64 d.va,.int .u64 d.se,.int .i64 d.fl] 39):=⟨_,rfl⟩
 obtain⟨h1,h2,h3⟩:=box2 w o d
 rw[←hwb] at h1 h2 h3
 have ka:=isAcc_any wb o
 obtain⟨x0,x1,x2⟩:=h1.ce
 obtain⟨y0,y1,y2⟩:=h2.ce
 have HB:Hid (Below w.heap.size w wb):=h3
 have HN:Hid (∀W,Below wb.heap.size wb W→Bx3 W w.heap.size o∧Bx3 W (w.heap.size+1) d∧Below w.heap.size w W):=fun W q=>⟨h1.below q,h2.below q,h3.trans (q.mono h3.size)⟩
 have HE:Hid (mayD o d=((bits .and .i64 o.fl 4 != 0) || deqB d o || (!accB o && !(bits .and .i64 o.fl 1 == 0) && (bits .andNot .i64 d.fl 1 == bits .andNot .i64 o.fl 1)))):=rfl
 generalize mayD o d=R at *
 unfold deV at *
 clear h1 h2 h3
 cases hc4:(bits .and .i64 o.fl 4 != 0) with
 | true =>
   have HR:Hid (R=true):=by show R=_;rw[HE.out,hc4];simp
   clear ka HE HN
   go_enter Tryz.func63,Tryz.ntmps63
   go_upto_region 1 with fail
   rw[←hwb]
   clear hwb
   go_wp2_with fail
   go_ret
   rw[HR.out]
   exact⟨rfl,HB.out⟩
 | false =>
   obtain⟨ov,os,of⟩:=o
   obtain⟨dv,ds,df⟩:=d
   simp only at *
   by_cases e1:dv=ov
   ·subst e1
    by_cases e2:ds=os
    ·subst e2
     by_cases e3:df=of
     ·subst e3
      have HR:Hid (R=true):=by show R=_;rw[HE.out,hc4];simp[deqB]
      clear ka HE HN
      go_enter Tryz.func63,Tryz.ntmps63
      go_upto_region 1 with fail
      rw[←hwb]
      clear hwb
      go_wp2_with fail
      go_ret
      rw[HR.out]
      exact⟨rfl,HB.out⟩
     ·have n3:(df == of)=false:=by simpa using e3
      have hdq:deqB ⟨dv,ds,df⟩ ⟨dv,ds,of⟩=false:=by simp[deqB,n3]
      cases hac:accB ⟨dv,ds,of⟩ with
      | true =>
        have HR:Hid (R=false):=by show R=_;rw[HE.out,hc4,hdq,hac];rfl
        rw[hac] at ka
        clear HE hdq hac
        go_enter Tryz.func63,Tryz.ntmps63
        go_upto_region 1 with fail
        rw[←hwb]
        clear hwb
        go_wp2_with fail
        refine ka.mono ?_
        rintro e w2 ⟨rfl,hB2⟩
        have HB2:Hid (Below w.heap.size w w2):=(HN.out w2 hB2).2.2
        clear ka hB2 HN
        go_wp2_with fail
        go_ret
        rw[HR.out]
        exact⟨rfl,HB2.out⟩
      | false =>
        rw[hac] at ka
        cases hc1:(bits .and .i64 of 1 == 0) with
        | true =>
          have HR:Hid (R=false):=by show R=_;rw[HE.out,hc4,hdq,hac,hc1];rfl
          clear HE hdq hac
          go_enter Tryz.func63,Tryz.ntmps63
          go_upto_region 1 with fail
          rw[←hwb]
          clear hwb
          go_wp2_with fail
          refine ka.mono ?_
          rintro e w2 ⟨rfl,hB2⟩
          obtain⟨q1,q2,q3⟩:=HN.out w2 hB2
          obtain⟨x0,x1,x2⟩:=q1.ce
          have HB2:Hid (Below w.heap.size w w2):=q3
          clear ka hB2 HN q1 q2 q3
          go_wp2_with fail
          go_ret
          rw[HR.out]
          exact⟨rfl,HB2.out⟩
        | false =>
          have HR:Hid (R=(bits .andNot .i64 df 1 == bits .andNot .i64 of 1)):=by show R=_;rw[HE.out,hc4,hdq,hac,hc1];rfl
          clear HE hdq hac
          go_enter Tryz.func63,Tryz.ntmps63
          go_upto_region 1 with fail
          rw[←hwb]
          clear hwb
          go_wp2_with fail
          refine ka.mono ?_
          rintro e w2 ⟨rfl,hB2⟩
          obtain⟨q1,q2,q3⟩:=HN.out w2 hB2
          obtain⟨x0,x1,x2⟩:=q1.ce
          obtain⟨y0,y1,y2⟩:=q2.ce
          have HB2:Hid (Below w.heap.size w w2):=q3
          clear ka hB2 HN q1 q2 q3
          simp only at x0 x1 x2 y0 y1 y2
          go_wp2_with fail
          go_ret
          rw[HR.out]
          exact⟨rfl,HB2.out⟩
    ·have n3:(ds == os)=false:=by simpa using e2
     have hdq:deqB ⟨dv,ds,df⟩ ⟨dv,os,of⟩=false:=by simp[deqB,n3]
     cases hac:accB ⟨dv,os,of⟩ with
     | true =>
       have HR:Hid (R=false):=by show R=_;rw[HE.out,hc4,hdq,hac];rfl
       rw[hac] at ka
       clear HE hdq hac
       go_enter Tryz.func63,Tryz.ntmps63
       go_upto_region 1 with fail
       rw[←hwb]
       clear hwb
       go_wp2_with fail
       refine ka.mono ?_
       rintro e w2 ⟨rfl,hB2⟩
       have HB2:Hid (Below w.heap.size w w2):=(HN.out w2 hB2).2.2
       clear ka hB2 HN
       go_wp2_with fail
       go_ret
       rw[HR.out]
       exact⟨rfl,HB2.out⟩
     | false =>
       rw[hac] at ka
       cases hc1:(bits .and .i64 of 1 == 0) with
       | true =>
         have HR:Hid (R=false):=by show R=_;rw[HE.out,hc4,hdq,hac,hc1];rfl
         clear HE hdq hac
         go_enter Tryz.func63,Tryz.ntmps63
         go_upto_region 1 with fail
         rw[←hwb]
         clear hwb
         go_wp2_with fail
         refine ka.mono ?_
         rintro e w2 ⟨rfl,hB2⟩
         obtain⟨q1,q2,q3⟩:=HN.out w2 hB2
         obtain⟨x0,x1,x2⟩:=q1.ce
         have HB2:Hid (Below w.heap.size w w2):=q3
         clear ka hB2 HN q1 q2 q3
         go_wp2_with fail
         go_ret
         rw[HR.out]
         exact⟨rfl,HB2.out⟩
       | false =>
         have HR:Hid (R=(bits .andNot .i64 df 1 == bits .andNot .i64 of 1)):=by show R=_;rw[HE.out,hc4,hdq,hac,hc1];rfl
         clear HE hdq hac
         go_enter Tryz.func63,Tryz.ntmps63
         go_upto_region 1 with fail
         rw[←hwb]
         clear hwb
         go_wp2_with fail
         refine ka.mono ?_
         rintro e w2 ⟨rfl,hB2⟩
         obtain⟨q1,q2,q3⟩:=HN.out w2 hB2
         obtain⟨x0,x1,x2⟩:=q1.ce
         obtain⟨y0,y1,y2⟩:=q2.ce
         have HB2:Hid (Below w.heap.size w w2):=q3
         clear ka hB2 HN q1 q2 q3
         simp only at x0 x1 x2 y0 y1 y2
         go_wp2_with fail
         go_ret
         rw[HR.out]
         exact⟨rfl,HB2.out⟩
   ·have n3:(dv == ov)=false:=by simpa using e1
    have hdq:deqB ⟨dv,ds,df⟩ ⟨ov,os,of⟩=false:=by simp[deqB,n3]
    cases hac:accB ⟨ov,os,of⟩ with
    | true =>
      have HR:Hid (R=false):=by show R=_;rw[HE.out,hc4,hdq,hac];rfl
      rw[hac] at ka
      clear HE hdq hac
      go_enter Tryz.func63,Tryz.ntmps63
      go_upto_region 1 with fail
      rw[←hwb]
      clear hwb
      go_wp2_with fail
      refine ka.mono ?_
      rintro e w2 ⟨rfl,hB2⟩
      have HB2:Hid (Below w.heap.size w w2):=(HN.out w2 hB2).2.2
      clear ka hB2 HN
      go_wp2_with fail
      go_ret
      rw[HR.out]
      exact⟨rfl,HB2.out⟩
    | false =>
      rw[hac] at ka
      cases hc1:(bits .and .i64 of 1 == 0) with
      | true =>
        have HR:Hid (R=false):=by show R=_;rw[HE.out,hc4,hdq,hac,hc1];rfl
        clear HE hdq hac
        go_enter Tryz.func63,Tryz.ntmps63
        go_upto_region 1 with fail
        rw[←hwb]
        clear hwb
        go_wp2_with fail
        refine ka.mono ?_
        rintro e w2 ⟨rfl,hB2⟩
        obtain⟨q1,q2,q3⟩:=HN.out w2 hB2
        obtain⟨x0,x1,x2⟩:=q1.ce
        have HB2:Hid (Below w.heap.size w w2):=q3
        clear ka hB2 HN q1 q2 q3
        go_wp2_with fail
        go_ret
        rw[HR.out]
        exact⟨rfl,HB2.out⟩
      | false =>
        have HR:Hid (R=(bits .andNot .i64 df 1 == bits .andNot .i64 of 1)):=by show R=_;rw[HE.out,hc4,hdq,hac,hc1];rfl
        clear HE hdq hac
        go_enter Tryz.func63,Tryz.ntmps63
        go_upto_region 1 with fail
        rw[←hwb]
        clear hwb
        go_wp2_with fail
        refine ka.mono ?_
        rintro e w2 ⟨rfl,hB2⟩
        obtain⟨q1,q2,q3⟩:=HN.out w2 hB2
        obtain⟨x0,x1,x2⟩:=q1.ce
        obtain⟨y0,y1,y2⟩:=q2.ce
        have HB2:Hid (Below w.heap.size w w2):=q3
        clear ka hB2 HN q1 q2 q3
        simp only at x0 x1 x2 y0 y1 y2
        go_wp2_with fail
        go_ret
        rw[HR.out]
        exact⟨rfl,HB2.out⟩
def rmayD (o d:De):Bool:=deqB o d || (bits .and .i64 o.fl 4 != 0) || (!((bits .and .i64 o.fl 8 != 0) || (bits .and .i64 d.fl 8 != 0) || (bits .and .i64 o.fl 6 != bits .and .i64 d.fl 6)) && (bits .and .i64 o.fl 1 != 0))
theorem rmay_any (w:World)(o d:De):Calls Tryz.prog 67 #[deV o,deV d] w fun e w'=>e = .returned (.bool (rmayD o d))∧Below w.heap.size w w':=by
 obtain⟨wb,hwb⟩:∃wb,wb=(w.alloc (.cells #[.int .u64 o.va,.int .u64 o.se,.int .i64 o.fl] 39)).alloc (.cells #[.int .u64 d.va,.int .u64 d.se,.int .i64 d.fl] 39):=⟨_,rfl⟩
 obtain⟨h1,h2,h3⟩:=box2 w o d
 rw[←hwb] at h1 h2 h3
 obtain⟨x0,x1,x2⟩:=h1.ce
 obtain⟨y0,y1,y2⟩:=h2.ce
 have HB:Hid (Below w.heap.size w wb):=h3
 have HE:Hid (rmayD o d=(deqB o d || (bits .and .i64 o.fl 4 != 0) || (!((bits .and .i64 o.fl 8 != 0) || (bits .and .i64 d.fl 8 != 0) || (bits .and .i64 o.fl 6 != bits .and .i64 d.fl 6)) && (bits .and .i64 o.fl 1 != 0)))):=rfl
 generalize rmayD o d=R at *
 unfold deV at *
 clear h1 h2 h3
 obtain⟨ov,os,of⟩:=o
 obtain⟨dv,ds,df⟩:=d
 simp only at *
 by_cases e1:ov=dv
 ·subst e1
  by_cases e2:os=ds
  ·subst e2
   by_cases e3:of=df
   ·subst e3
    have HR:Hid (R=true):=by show R=_;rw[HE.out];simp[deqB]
    clear HE
    go_enter Tryz.func67,Tryz.ntmps67
    go_upto_region 1 with fail
    rw[←hwb]
    clear hwb
    go_wp2_with fail
    go_ret
    rw[HR.out]
    exact⟨rfl,HB.out⟩
   ·have n3:(of == df)=false:=by simpa using e3
    have hdq:deqB ⟨ov,os,of⟩ ⟨ov,os,df⟩=false:=by simp[deqB,n3]
    cases hc4:(bits .and .i64 of 4 != 0) with
    | true =>
      have HR:Hid (R=true):=by show R=_;rw[HE.out,hdq,hc4];rfl
      clear HE hdq
      go_enter Tryz.func67,Tryz.ntmps67
      go_upto_region 1 with fail
      rw[←hwb]
      clear hwb
      go_wp2_with fail
      go_ret
      rw[HR.out]
      exact⟨rfl,HB.out⟩
    | false =>
      cases ho8:(bits .and .i64 of 8 != 0) with
      | true =>
        have HR:Hid (R=false):=by show R=_;rw[HE.out,hdq,hc4,ho8];rfl
        clear HE hdq
        go_enter Tryz.func67,Tryz.ntmps67
        go_upto_region 1 with fail
        rw[←hwb]
        clear hwb
        go_wp2_with fail
        go_ret
        rw[HR.out]
        exact⟨rfl,HB.out⟩
      | false =>
        cases hd8:(bits .and .i64 df 8 != 0) with
        | true =>
          have HR:Hid (R=false):=by show R=_;rw[HE.out,hdq,hc4,ho8,hd8];rfl
          clear HE hdq
          go_enter Tryz.func67,Tryz.ntmps67
          go_upto_region 1 with fail
          rw[←hwb]
          clear hwb
          go_wp2_with fail
          go_ret
          rw[HR.out]
          exact⟨rfl,HB.out⟩
        | false =>
          cases h6:(bits .and .i64 of 6 != bits .and .i64 df 6) with
          | true =>
            have HR:Hid (R=false):=by show R=_;rw[HE.out,hdq,hc4,ho8,hd8,h6];rfl
            clear HE hdq
            go_enter Tryz.func67,Tryz.ntmps67
            go_upto_region 1 with fail
            rw[←hwb]
            clear hwb
            go_wp2_with fail
            go_ret
            rw[HR.out]
            exact⟨rfl,HB.out⟩
          | false =>
            have HR:Hid (R=(bits .and .i64 of 1 != 0)):=by show R=_;rw[HE.out,hdq,hc4,ho8,hd8,h6];rfl
            clear HE hdq
            go_enter Tryz.func67,Tryz.ntmps67
            go_upto_region 1 with fail
            rw[←hwb]
            clear hwb
            go_wp2_with fail
            go_ret
            rw[HR.out]
            exact⟨rfl,HB.out⟩
  ·have n3:(os == ds)=false:=by simpa using e2
   have hdq:deqB ⟨ov,os,of⟩ ⟨ov,ds,df⟩=false:=by simp[deqB,n3]
   cases hc4:(bits .and .i64 of 4 != 0) with
   | true =>
     have HR:Hid (R=true):=by show R=_;rw[HE.out,hdq,hc4];rfl
     clear HE hdq
     go_enter Tryz.func67,Tryz.ntmps67
     go_upto_region 1 with fail
     rw[←hwb]
     clear hwb
     go_wp2_with fail
     go_ret
     rw[HR.out]
     exact⟨rfl,HB.out⟩
   | false =>
     cases ho8:(bits .and .i64 of 8 != 0) with
     | true =>
       have HR:Hid (R=false):=by show R=_;rw[HE.out,hdq,hc4,ho8];rfl
       clear HE hdq
       go_enter Tryz.func67,Tryz.ntmps67
       go_upto_region 1 with fail
       rw[←hwb]
       clear hwb
       go_wp2_with fail
       go_ret
       rw[HR.out]
       exact⟨rfl,HB.out⟩
     | false =>
       cases hd8:(bits .and .i64 df 8 != 0) with
       | true =>
         have HR:Hid (R=false):=by show R=_;rw[HE.out,hdq,hc4,ho8,hd8];rfl
         clear HE hdq
         go_enter Tryz.func67,Tryz.ntmps67
         go_upto_region 1 with fail
         rw[←hwb]
         clear hwb
         go_wp2_with fail
         go_ret
         rw[HR.out]
         exact⟨rfl,HB.out⟩
       | false =>
         cases h6:(bits .and .i64 of 6 != bits .and .i64 df 6) with
         | true =>
           have HR:Hid (R=false):=by show R=_;rw[HE.out,hdq,hc4,ho8,hd8,h6];rfl
           clear HE hdq
           go_enter Tryz.func67,Tryz.ntmps67
           go_upto_region 1 with fail
           rw[←hwb]
           clear hwb
           go_wp2_with fail
           go_ret
           rw[HR.out]
           exact⟨rfl,HB.out⟩
         | false =>
           have HR:Hid (R=(bits .and .i64 of 1 != 0)):=by show R=_;rw[HE.out,hdq,hc4,ho8,hd8,h6];rfl
           clear HE hdq
           go_enter Tryz.func67,Tryz.ntmps67
           go_upto_region 1 with fail
           rw[←hwb]
           clear hwb
           go_wp2_with fail
           go_ret
           rw[HR.out]
           exact⟨rfl,HB.out⟩
 ·have n3:(ov == dv)=false:=by simpa using e1
  have hdq:deqB ⟨ov,os,of⟩ ⟨dv,ds,df⟩=false:=by simp[deqB,n3]
  cases hc4:(bits .and .i64 of 4 != 0) with
  | true =>
    have HR:Hid (R=true):=by show R=_;rw[HE.out,hdq,hc4];rfl
    clear HE hdq
    go_enter Tryz.func67,Tryz.ntmps67
    go_upto_region 1 with fail
    rw[←hwb]
    clear hwb
    go_wp2_with fail
    go_ret
    rw[HR.out]
    exact⟨rfl,HB.out⟩
  | false =>
    cases ho8:(bits .and .i64 of 8 != 0) with
    | true =>
      have HR:Hid (R=false):=by show R=_;rw[HE.out,hdq,hc4,ho8];rfl
      clear HE hdq
      go_enter Tryz.func67,Tryz.ntmps67
      go_upto_region 1 with fail
      rw[←hwb]
      clear hwb
      go_wp2_with fail
      go_ret
      rw[HR.out]
      exact⟨rfl,HB.out⟩
    | false =>
      cases hd8:(bits .and .i64 df 8 != 0) with
      | true =>
        have HR:Hid (R=false):=by show R=_;rw[HE.out,hdq,hc4,ho8,hd8];rfl
        clear HE hdq
        go_enter Tryz.func67,Tryz.ntmps67
        go_upto_region 1 with fail
        rw[←hwb]
        clear hwb
        go_wp2_with fail
        go_ret
        rw[HR.out]
        exact⟨rfl,HB.out⟩
      | false =>
        cases h6:(bits .and .i64 of 6 != bits .and .i64 df 6) with
        | true =>
          have HR:Hid (R=false):=by show R=_;rw[HE.out,hdq,hc4,ho8,hd8,h6];rfl
          clear HE hdq
          go_enter Tryz.func67,Tryz.ntmps67
          go_upto_region 1 with fail
          rw[←hwb]
          clear hwb
          go_wp2_with fail
          go_ret
          rw[HR.out]
          exact⟨rfl,HB.out⟩
        | false =>
          have HR:Hid (R=(bits .and .i64 of 1 != 0)):=by show R=_;rw[HE.out,hdq,hc4,ho8,hd8,h6];rfl
          clear HE hdq
          go_enter Tryz.func67,Tryz.ntmps67
          go_upto_region 1 with fail
          rw[←hwb]
          clear hwb
          go_wp2_with fail
          go_ret
          rw[HR.out]
          exact⟨rfl,HB.out⟩
def newE:De:=⟨undW,undW,0⟩
def rnoB (u:Ws):Bool:=(hasU u 16 || hasU u 32) && (hasU u 1 || hasU u 2)
def wDf (w:World)(vo vt:SV)(u:Ws):World:=((w.alloc (.cells #[vo.val,vt.val] 33)).alloc (.cells #[.int .i64 u.has,.int .u64 u.va,.int .u64 u.ge,.int .u64 u.se,.int .i64 u.fl] 26)).alloc (.cells #[.slice none 0 0,.slice none 0 0] 33)
structure DfS (w W:World)(B:Nat)(tg:Nat→Nat)(S:List So)(vo vt:SV)(qs:List QV)(u:Ws):Prop where
 st:StAt W B tg S vo qs
 bs:BxS W w.heap.size vo vt
 bw:Bx5 W (w.heap.size+1) u
 br:BxS W (w.heap.size+2) .nil .nil
 bel:Below w.heap.size w W
section
variable {w W W':World}{B:Nat}{tg:Nat→Nat}{S:List So}{vo vt:SV}{qs:List QV}{u:Ws}{i:Nat}{x:So}
theorem DfS.new (h:StAt w B tg S vo qs)(vt:SV)(u:Ws):DfS w (wDf w vo vt u) B tg S vo vt qs u:=by
 have s1:(w.alloc (.cells #[vo.val,vt.val] 33)).heap.size=w.heap.size+1:=size_new _ _
 have s2:((w.alloc (.cells #[vo.val,vt.val] 33)).alloc (.cells #[.int .i64 u.has,.int .u64 u.va,.int .u64 u.ge,.int .u64 u.se,.int .i64 u.fl] 26)).heap.size=w.heap.size+2:=by rw[size_new,s1]
 have hb:Below w.heap.size w (wDf w vo vt u):=below_new (below_new (below_new (Below.refl _ _) (Nat.le_refl _) _) (by rw[s1];omega) _) (by rw[s2];omega) _
 refine⟨h.below hb,at_old _ _ _ _ (at_old _ _ _ _ (at_new _ _)),at_old _ _ _ _ (at_two w _ _),?_,hb⟩
 have:=at_new ((w.alloc (.cells #[vo.val,vt.val] 33)).alloc (.cells #[.int .i64 u.has,.int .u64 u.va,.int .u64 u.ge,.int .u64 u.se,.int .i64 u.fl] 26)) (.cells #[.slice none 0 0,.slice none 0 0] 33)
 rw[s2] at this
 exact this
theorem DfS.below (h:DfS w W B tg S vo vt qs u)(hb:Below W.heap.size W W'):DfS w W' B tg S vo vt qs u:=⟨h.st.below hb,h.bs.below hb,h.bw.below hb,h.br.below hb,h.bel.trans (hb.mono h.bel.size)⟩
theorem DfS.yes {S':List So}(h0:StAt w B tg S vo qs)(h:DfS w W B tg S vo vt qs u)(hp:SWent W B tg S' vo W'):BxS W' (w.heap.size+2) .nil .nil∧((W'.setCell ⟨w.heap.size+2,0,none⟩ vo.val).setCell ⟨w.heap.size+2,1,none⟩ vt.val).heap[w.heap.size+2]?=some (.cells #[vo.val,vt.val] 33 (0,0))∧SWent w B tg S' vo ((W'.setCell ⟨w.heap.size+2,0,none⟩ vo.val).setCell ⟨w.heap.size+2,1,none⟩ vt.val):=by
 obtain⟨tg',qs',g1,g2,g3⟩:=hp
 have hz:tg (w.heap.size+2)=0:=by
  rcases Nat.eq_zero_or_pos (tg (w.heap.size+2)) with e | e
  ·exact e
  ·have:=(h0.lt _ (by omega:tg (w.heap.size+2)≠0)).2
   omega
 have hb:=h.br.kept g2 (fun r=>r hz)
 have z0:=heap_setCell_same _ (w.heap.size+2) 0 _ _ vo.val hb
 have z1:=heap_setCell_same _ (w.heap.size+2) 1 _ _ vt.val z0
 have hs:Chg (fun b=>b=w.heap.size+2) W' ((W'.setCell ⟨w.heap.size+2,0,none⟩ vo.val).setCell ⟨w.heap.size+2,1,none⟩ vt.val):=(Chg.set (S:=fun b=>b=w.heap.size+2) W' ⟨w.heap.size+2,0,none⟩ _ rfl).trans (Chg.set (S:=fun b=>b=w.heap.size+2) _ ⟨w.heap.size+2,1,none⟩ _ rfl) (fun _ _ q=>q)
 have hz':tg' (w.heap.size+2)=0:=by
  rcases Nat.eq_zero_or_pos (tg' (w.heap.size+2)) with e | e
  ·exact e
  ·rcases g3 _ (by omega:tg' (w.heap.size+2)≠0) with r | r
   ·exact absurd hz r
   ·have:=h.br.lt
    omega
 refine⟨hb,z1,tg',qs',g1.kept hs (fun b r e=>r (by rw[e];exact hz')),?_,fun b r => ?_⟩
 ·have c1:Chg (fun b=>tg b≠0∨w.heap.size≤b) w ((W'.setCell ⟨w.heap.size+2,0,none⟩ vo.val).setCell ⟨w.heap.size+2,1,none⟩ vt.val):=(((Chg.of_below h.bel).trans g2 (fun b _ r=>Or.inl r)).trans hs (fun b _ r=>Or.inr (by omega)))
  exact⟨c1.os,c1.tape,c1.output,c1.size,fun b hb' hn=>c1.block b hb' (fun r=>by rcases r with r | r;exact hn r;omega)⟩
 ·rcases g3 b r with q | q
  ·exact Or.inl q
  ·exact Or.inr (Nat.le_trans h.bel.size q)
end
end Go.Proofs.YtahhionlbfhinabGreatDoor.Hp
