/- XE, XF, XG -/
import Derived.Test.YtihmdcdifakepaaGreatB15
import Derived.Deep.RegionHeldLaw
set_option linter.unusedVariables false
set_option linter.unusedSimpArgs false
set_option maxRecDepth 100000
set_option maxHeartbeats 40000000
namespace Go.Proofs.YtihmdcdifakepaaGreat.Sc
open Go.RowKit
theorem repeat_one (a:UInt8)(n:Nat):Lib.repeatL [a] n=List.replicate n a:=by
 induction n with
 | zero=>rfl
 | succ n ih=>simp[Lib.repeatL,List.replicate_succ] at *;first | exact ih | simp_all
theorem rep_any (a:UInt8)(n:Nat)(hn:n≤1000000)(w:World):Calls Tryz.prog 43 #[.string ⟨#[a]⟩,.int .i64 n] w fun e w'=>e = .returned (.string (bs (List.replicate n a)))∧Below w.heap.size w w':=by
 have:=Tryz.strings_Repeat ⟨#[a]⟩ n w (by omega) (by show 1*n≤_;omega)
 refine this.mono ?_
 rintro e w' ⟨rfl,h⟩
 refine⟨?_,h⟩
 have e1:(⟨#[a]⟩:ByteArray).data.toList=[a]:=rfl
 rw[e1,repeat_one]
 rfl
theorem parts_11 (n:Nat)(w:World):Calls Tryz.prog 21 #[.int .i64 11,.int .i64 n] w fun e w'=>e = .returned (.string (bs [101,101]))∧Below w.heap.size w w':=by
 go_enter Tryz.func21,Tryz.ntmps21
 go_wp2_with fail
 go_ret
 exact⟨rfl,Below.refl _ _⟩
theorem parts_13 (n:Nat)(w:World):Calls Tryz.prog 21 #[.int .i64 13,.int .i64 n] w fun e w'=>e = .returned (.string (bs [101,101]))∧Below w.heap.size w w':=by
 go_enter Tryz.func21,Tryz.ntmps21
 go_wp2_with fail
 go_ret
 exact⟨rfl,Below.refl _ _⟩
theorem parts_18 (n:Nat)(w:World):Calls Tryz.prog 21 #[.int .i64 18,.int .i64 n] w fun e w'=>e = .returned (.string (bs [101,101]))∧Below w.heap.size w w':=by
 go_enter Tryz.func21,Tryz.ntmps21
 go_wp2_with fail
 go_ret
 exact⟨rfl,Below.refl _ _⟩
theorem parts_19 (n:Nat)(w:World):Calls Tryz.prog 21 #[.int .i64 19,.int .i64 n] w fun e w'=>e = .returned (.string (bs [101,101]))∧Below w.heap.size w w':=by
 go_enter Tryz.func21,Tryz.ntmps21
 go_wp2_with fail
 go_ret
 exact⟨rfl,Below.refl _ _⟩
theorem parts_21 (n:Nat)(w:World):Calls Tryz.prog 21 #[.int .i64 21,.int .i64 n] w fun e w'=>e = .returned (.string (bs [103,101]))∧Below w.heap.size w w':=by
 go_enter Tryz.func21,Tryz.ntmps21
 go_wp2_with fail
 go_ret
 exact⟨rfl,Below.refl _ _⟩
theorem parts_17 (n:Nat)(w:World):Calls Tryz.prog 21 #[.int .i64 17,.int .i64 n] w fun e w'=>e = .returned (.string (bs [103]))∧Below w.heap.size w w':=by
 go_enter Tryz.func21,Tryz.ntmps21
 go_wp2_with fail
 go_ret
 exact⟨rfl,Below.refl _ _⟩
theorem parts_20 (n:Nat)(w:World):Calls Tryz.prog 21 #[.int .i64 20,.int .i64 n] w fun e w'=>e = .returned (.string (bs [101,101,101]))∧Below w.heap.size w w':=by
 go_enter Tryz.func21,Tryz.ntmps21
 go_wp2_with fail
 go_ret
 exact⟨rfl,Below.refl _ _⟩
theorem parts_16 (n:Nat)(w:World):Calls Tryz.prog 21 #[.int .i64 16,.int .i64 n] w fun e w'=>e = .returned (.string (bs [101]))∧Below w.heap.size w w':=by
 go_enter Tryz.func21,Tryz.ntmps21
 go_wp2_with fail
 go_ret
 exact⟨rfl,Below.refl _ _⟩
theorem parts_32 (n:Nat)(w:World):Calls Tryz.prog 21 #[.int .i64 32,.int .i64 n] w fun e w'=>e = .returned (.string (bs [101]))∧Below w.heap.size w w':=by
 go_enter Tryz.func21,Tryz.ntmps21
 go_wp2_with fail
 go_ret
 exact⟨rfl,Below.refl _ _⟩
theorem parts_42 (n:Nat)(w:World):Calls Tryz.prog 21 #[.int .i64 42,.int .i64 n] w fun e w'=>e = .returned (.string (bs [101]))∧Below w.heap.size w w':=by
 go_enter Tryz.func21,Tryz.ntmps21
 go_wp2_with fail
 go_ret
 exact⟨rfl,Below.refl _ _⟩
theorem parts_46 (n:Nat)(w:World):Calls Tryz.prog 21 #[.int .i64 46,.int .i64 n] w fun e w'=>e = .returned (.string (bs [101]))∧Below w.heap.size w w':=by
 go_enter Tryz.func21,Tryz.ntmps21
 go_wp2_with fail
 go_ret
 exact⟨rfl,Below.refl _ _⟩
theorem parts_22 (n:Nat)(w:World):Calls Tryz.prog 21 #[.int .i64 22,.int .i64 n] w fun e w'=>e = .returned (.string (bs [69]))∧Below w.heap.size w w':=by
 go_enter Tryz.func21,Tryz.ntmps21
 go_wp2_with fail
 go_ret
 exact⟨rfl,Below.refl _ _⟩
theorem parts_31 (n:Nat)(w:World):Calls Tryz.prog 21 #[.int .i64 31,.int .i64 n] w fun e w'=>e = .returned (.string (bs [69]))∧Below w.heap.size w w':=by
 go_enter Tryz.func21,Tryz.ntmps21
 go_wp2_with fail
 go_ret
 exact⟨rfl,Below.refl _ _⟩
theorem parts_34 (n:Nat)(w:World):Calls Tryz.prog 21 #[.int .i64 34,.int .i64 n] w fun e w'=>e = .returned (.string (bs [69]))∧Below w.heap.size w w':=by
 go_enter Tryz.func21,Tryz.ntmps21
 go_wp2_with fail
 go_ret
 exact⟨rfl,Below.refl _ _⟩
theorem parts_35 (n:Nat)(w:World):Calls Tryz.prog 21 #[.int .i64 35,.int .i64 n] w fun e w'=>e = .returned (.string (bs [101,115,83]))∧Below w.heap.size w w':=by
 go_enter Tryz.func21,Tryz.ntmps21
 go_wp2_with fail
 go_ret
 exact⟨rfl,Below.refl _ _⟩
theorem parts_36 (n:Nat)(w:World):Calls Tryz.prog 21 #[.int .i64 36,.int .i64 n] w fun e w'=>e = .returned (.string (bs [101,115]))∧Below w.heap.size w w':=by
 go_enter Tryz.func21,Tryz.ntmps21
 go_wp2_with fail
 go_ret
 exact⟨rfl,Below.refl _ _⟩
theorem parts_38 (n:Nat)(w:World):Calls Tryz.prog 21 #[.int .i64 38,.int .i64 n] w fun e w'=>e = .returned (.string (bs [101,115]))∧Below w.heap.size w w':=by
 go_enter Tryz.func21,Tryz.ntmps21
 go_wp2_with fail
 go_ret
 exact⟨rfl,Below.refl _ _⟩
theorem parts_37 (n:Nat)(w:World):Calls Tryz.prog 21 #[.int .i64 37,.int .i64 n] w fun e w'=>e = .returned (.string (bs [69,69,69,115]))∧Below w.heap.size w w':=by
 go_enter Tryz.func21,Tryz.ntmps21
 go_wp2_with fail
 go_ret
 exact⟨rfl,Below.refl _ _⟩
theorem parts_41 (n:Nat)(w:World):Calls Tryz.prog 21 #[.int .i64 41,.int .i64 n] w fun e w'=>e = .returned (.string (bs [115]))∧Below w.heap.size w w':=by
 go_enter Tryz.func21,Tryz.ntmps21
 go_wp2_with fail
 go_ret
 exact⟨rfl,Below.refl _ _⟩
theorem parts_43 (n:Nat)(w:World):Calls Tryz.prog 21 #[.int .i64 43,.int .i64 n] w fun e w'=>e = .returned (.string (bs [98,66,66]))∧Below w.heap.size w w':=by
 go_enter Tryz.func21,Tryz.ntmps21
 go_wp2_with fail
 go_ret
 exact⟨rfl,Below.refl _ _⟩
theorem parts_9 (n:Nat)(hn:n≤1000000)(w:World):Calls Tryz.prog 21 #[.int .i64 9,.int .i64 n] w fun e w'=>e = .returned (.string (bs (List.replicate n 101)))∧Below w.heap.size w w':=by
 have hc:=rep_any 101 n hn w
 obtain⟨S,hS⟩:∃S,S=bs (List.replicate n 101):=⟨_,rfl⟩
 rw[←hS] at hc ⊢
 clear hS
 go_enter Tryz.func21,Tryz.ntmps21
 go_wp2_with fail
 refine hc.mono ?_
 rintro e w1 ⟨rfl,hb⟩
 have HB:Hid (Below w.heap.size w w1):=hb
 clear hb hc
 go_wp2_with fail
 go_ret
 exact⟨rfl,HB.out⟩
theorem parts_10 (n:Nat)(hn:n≤1000000)(w:World):Calls Tryz.prog 21 #[.int .i64 10,.int .i64 n] w fun e w'=>e = .returned (.string (bs (List.replicate n 112)))∧Below w.heap.size w w':=by
 have hc:=rep_any 112 n hn w
 obtain⟨S,hS⟩:∃S,S=bs (List.replicate n 112):=⟨_,rfl⟩
 rw[←hS] at hc ⊢
 clear hS
 go_enter Tryz.func21,Tryz.ntmps21
 go_wp2_with fail
 refine hc.mono ?_
 rintro e w1 ⟨rfl,hb⟩
 have HB:Hid (Below w.heap.size w w1):=hb
 clear hb hc
 go_wp2_with fail
 go_ret
 exact⟨rfl,HB.out⟩
theorem parts_44 (n:Nat)(hn:n≤1000000)(w:World):Calls Tryz.prog 21 #[.int .i64 44,.int .i64 n] w fun e w'=>e = .returned (.string (bs (List.replicate n 105)))∧Below w.heap.size w w':=by
 have hc:=rep_any 105 n hn w
 obtain⟨S,hS⟩:∃S,S=bs (List.replicate n 105):=⟨_,rfl⟩
 rw[←hS] at hc ⊢
 clear hS
 go_enter Tryz.func21,Tryz.ntmps21
 go_wp2_with fail
 refine hc.mono ?_
 rintro e w1 ⟨rfl,hb⟩
 have HB:Hid (Below w.heap.size w w1):=hb
 clear hb hc
 go_wp2_with fail
 go_ret
 exact⟨rfl,HB.out⟩
theorem parts_47 (n:Nat)(hn:n≤1000000)(w:World):Calls Tryz.prog 21 #[.int .i64 47,.int .i64 n] w fun e w'=>e = .returned (.string (bs (List.replicate n 105)))∧Below w.heap.size w w':=by
 have hc:=rep_any 105 n hn w
 obtain⟨S,hS⟩:∃S,S=bs (List.replicate n 105):=⟨_,rfl⟩
 rw[←hS] at hc ⊢
 clear hS
 go_enter Tryz.func21,Tryz.ntmps21
 go_wp2_with fail
 refine hc.mono ?_
 rintro e w1 ⟨rfl,hb⟩
 have HB:Hid (Below w.heap.size w w1):=hb
 clear hb hc
 go_wp2_with fail
 go_ret
 exact⟨rfl,HB.out⟩
theorem parts_14 (n:Nat)(hn:n≤1000000)(w:World):Calls Tryz.prog 21 #[.int .i64 14,.int .i64 n] w fun e w'=>e = .returned (.string (bs (List.replicate (max n 1) 101)))∧Below w.heap.size w w':=by
 rcases Nat.eq_zero_or_pos n with c | c
 ·subst c
  have hc:=rep_any 101 1 (by omega) w
  obtain⟨S,hS⟩:∃S,S=bs (List.replicate 1 101):=⟨_,rfl⟩
  rw[←hS] at hc
  have e1:bs (List.replicate (max 0 1) 101)=S:=by rw[hS];rfl
  rw[e1]
  clear hS e1
  go_enter Tryz.func21,Tryz.ntmps21
  go_wp2_with fail
  refine hc.mono ?_
  rintro e w1 ⟨rfl,hb⟩
  have HB:Hid (Below w.heap.size w w1):=hb
  clear hb hc
  go_wp2_with fail
  go_ret
  exact⟨rfl,HB.out⟩
 ·have hc:=rep_any 101 n hn w
  obtain⟨S,hS⟩:∃S,S=bs (List.replicate n 101):=⟨_,rfl⟩
  rw[←hS] at hc
  have e1:bs (List.replicate (max n 1) 101)=S:=by rw[hS,Nat.max_eq_left c]
  rw[e1]
  clear hS e1
  have hm:max (n:Int) 1=n:=by omega
  have c1:¬(n:Int)<1:=by omega
  go_enter Tryz.func21,Tryz.ntmps21
  go_wp2_with fail
  refine hc.mono ?_
  rintro e w1 ⟨rfl,hb⟩
  have HB:Hid (Below w.heap.size w w1):=hb
  clear hb hc
  go_wp2_with fail
  go_ret
  exact⟨rfl,HB.out⟩
theorem parts_15 (n:Nat)(hn:n≤1000000)(w:World):Calls Tryz.prog 21 #[.int .i64 15,.int .i64 n] w fun e w'=>e = .returned (.string (bs (List.replicate (max n 1) 101)))∧Below w.heap.size w w':=by
 rcases Nat.eq_zero_or_pos n with c | c
 ·subst c
  have hc:=rep_any 101 1 (by omega) w
  obtain⟨S,hS⟩:∃S,S=bs (List.replicate 1 101):=⟨_,rfl⟩
  rw[←hS] at hc
  have e1:bs (List.replicate (max 0 1) 101)=S:=by rw[hS];rfl
  rw[e1]
  clear hS e1
  go_enter Tryz.func21,Tryz.ntmps21
  go_wp2_with fail
  refine hc.mono ?_
  rintro e w1 ⟨rfl,hb⟩
  have HB:Hid (Below w.heap.size w w1):=hb
  clear hb hc
  go_wp2_with fail
  go_ret
  exact⟨rfl,HB.out⟩
 ·have hc:=rep_any 101 n hn w
  obtain⟨S,hS⟩:∃S,S=bs (List.replicate n 101):=⟨_,rfl⟩
  rw[←hS] at hc
  have e1:bs (List.replicate (max n 1) 101)=S:=by rw[hS,Nat.max_eq_left c]
  rw[e1]
  clear hS e1
  have hm:max (n:Int) 1=n:=by omega
  have c1:¬(n:Int)<1:=by omega
  go_enter Tryz.func21,Tryz.ntmps21
  go_wp2_with fail
  refine hc.mono ?_
  rintro e w1 ⟨rfl,hb⟩
  have HB:Hid (Below w.heap.size w w1):=hb
  clear hb hc
  go_wp2_with fail
  go_ret
  exact⟨rfl,HB.out⟩
theorem parts_12 (n:Nat)(hn:n≤1000000)(w:World):Calls Tryz.prog 21 #[.int .i64 12,.int .i64 n] w fun e w'=>e = .returned (.string (bs (List.replicate (n - 1) 110++[98])))∧Below w.heap.size w w':=by
 have hc:=rep_any 110 (n - 1) (by omega) w
 obtain⟨S,hS⟩:∃S,S=bs (List.replicate (n - 1) 110):=⟨_,rfl⟩
 obtain⟨T,hT⟩:∃T,T=bs (List.replicate (n - 1) 110++[98]):=⟨_,rfl⟩
 have hsum:S++⟨#[98]⟩=T:=by
  rw[hS,hT]
  apply bytes_eq
  rw[bs_toList,Lib.toList_data]
  simp[bs]
 have hsz:S.size=n - 1:=by rw[hS,Lib.size_eq];simp[bs]
 have hsz1:S.size+1≤1000001:=by omega
 rw[←hS] at hc
 rw[←hT]
 clear hS hT
 have hsb:(⟨#[98]⟩:ByteArray).size=1:=rfl
 rcases Nat.eq_zero_or_pos n with c | c
 ·subst c
  go_enter Tryz.func21,Tryz.ntmps21
  go_wp2_with fail
  refine hc.mono ?_
  rintro e w1 ⟨rfl,hb⟩
  have HB:Hid (Below w.heap.size w w1):=hb
  clear hb hc
  go_wp2_with fail
  go_ret
  exact⟨rfl,HB.out⟩
 ·rw[show((n - 1:Nat):Int)=(n:Int) - 1 by omega] at hc
  have hm:max ((n:Int) - 1) 0=(n:Int) - 1:=by omega
  have c1:¬(n:Int) - 1<0:=by omega
  go_enter Tryz.func21,Tryz.ntmps21
  go_wp2_with fail
  refine hc.mono ?_
  rintro e w1 ⟨rfl,hb⟩
  have HB:Hid (Below w.heap.size w w1):=hb
  clear hb hc
  go_wp2_with fail
  go_ret
  exact⟨rfl,HB.out⟩
theorem parts_33 (n:Nat)(hn:n≤1000000)(w:World):Calls Tryz.prog 21 #[.int .i64 33,.int .i64 n] w fun e w'=>e = .returned (.string (bs (List.replicate (n - 1) 110++[98])))∧Below w.heap.size w w':=by
 have hc:=rep_any 110 (n - 1) (by omega) w
 obtain⟨S,hS⟩:∃S,S=bs (List.replicate (n - 1) 110):=⟨_,rfl⟩
 obtain⟨T,hT⟩:∃T,T=bs (List.replicate (n - 1) 110++[98]):=⟨_,rfl⟩
 have hsum:S++⟨#[98]⟩=T:=by
  rw[hS,hT]
  apply bytes_eq
  rw[bs_toList,Lib.toList_data]
  simp[bs]
 have hsz:S.size=n - 1:=by rw[hS,Lib.size_eq];simp[bs]
 have hsz1:S.size+1≤1000001:=by omega
 rw[←hS] at hc
 rw[←hT]
 clear hS hT
 have hsb:(⟨#[98]⟩:ByteArray).size=1:=rfl
 rcases Nat.eq_zero_or_pos n with c | c
 ·subst c
  go_enter Tryz.func21,Tryz.ntmps21
  go_wp2_with fail
  refine hc.mono ?_
  rintro e w1 ⟨rfl,hb⟩
  have HB:Hid (Below w.heap.size w w1):=hb
  clear hb hc
  go_wp2_with fail
  go_ret
  exact⟨rfl,HB.out⟩
 ·rw[show((n - 1:Nat):Int)=(n:Int) - 1 by omega] at hc
  have hm:max ((n:Int) - 1) 0=(n:Int) - 1:=by omega
  have c1:¬(n:Int) - 1<0:=by omega
  go_enter Tryz.func21,Tryz.ntmps21
  go_wp2_with fail
  refine hc.mono ?_
  rintro e w1 ⟨rfl,hb⟩
  have HB:Hid (Below w.heap.size w w1):=hb
  clear hb hc
  go_wp2_with fail
  go_ret
  exact⟨rfl,HB.out⟩
theorem parts_no (kind:Int)(n:Nat)(w:World)(n9:(kind == 9)=false)(n10:(kind == 10)=false)(n11:(kind == 11)=false)(n12:(kind == 12)=false)(n13:(kind == 13)=false)(n14:(kind == 14)=false)(n15:(kind == 15)=false)(n16:(kind == 16)=false)(n17:(kind == 17)=false)(n18:(kind == 18)=false)(n19:(kind == 19)=false)(n20:(kind == 20)=false)(n21:(kind == 21)=false)(n22:(kind == 22)=false)(n31:(kind == 31)=false)(n32:(kind == 32)=false)(n33:(kind == 33)=false)(n34:(kind == 34)=false)(n35:(kind == 35)=false)(n36:(kind == 36)=false)(n37:(kind == 37)=false)(n38:(kind == 38)=false)(n41:(kind == 41)=false)(n42:(kind == 42)=false)(n43:(kind == 43)=false)(n44:(kind == 44)=false)(n46:(kind == 46)=false)(n47:(kind == 47)=false):Calls Tryz.prog 21 #[.int .i64 kind,.int .i64 n] w fun e w'=>e = .returned (.string (bs []))∧Below w.heap.size w w':=by
 go_enter Tryz.func21,Tryz.ntmps21
 go_wp2_with fail
 go_ret
 exact⟨rfl,Below.refl _ _⟩
theorem parts_any (kind:Int)(n:Nat)(hn:n≤1000000)(w:World):Calls Tryz.prog 21 #[.int .i64 kind,.int .i64 n] w fun e w'=>e = .returned (.string (bs (partsI kind n)))∧Below w.heap.size w w':=by
 by_cases h9:kind=9
 ·subst h9
  have e:partsI 9 n=List.replicate n 101:=by unfold partsI;simp
  rw[e]
  exact parts_9 n hn w
 by_cases h10:kind=10
 ·subst h10
  have e:partsI 10 n=List.replicate n 112:=by unfold partsI;simp
  rw[e]
  exact parts_10 n hn w
 by_cases h11:kind=11
 ·subst h11
  have e:partsI 11 n=[101,101]:=by unfold partsI;simp
  rw[e]
  exact parts_11 n w
 by_cases h12:kind=12
 ·subst h12
  have e:partsI 12 n=List.replicate (n - 1) 110++[98]:=by unfold partsI;simp
  rw[e]
  exact parts_12 n hn w
 by_cases h13:kind=13
 ·subst h13
  have e:partsI 13 n=[101,101]:=by unfold partsI;simp
  rw[e]
  exact parts_13 n w
 by_cases h14:kind=14
 ·subst h14
  have e:partsI 14 n=List.replicate (max n 1) 101:=by unfold partsI;simp
  rw[e]
  exact parts_14 n hn w
 by_cases h15:kind=15
 ·subst h15
  have e:partsI 15 n=List.replicate (max n 1) 101:=by unfold partsI;simp
  rw[e]
  exact parts_15 n hn w
 by_cases h16:kind=16
 ·subst h16
  have e:partsI 16 n=[101]:=by unfold partsI;simp
  rw[e]
  exact parts_16 n w
 by_cases h17:kind=17
 ·subst h17
  have e:partsI 17 n=[103]:=by unfold partsI;simp
  rw[e]
  exact parts_17 n w
 by_cases h18:kind=18
 ·subst h18
  have e:partsI 18 n=[101,101]:=by unfold partsI;simp
  rw[e]
  exact parts_18 n w
 by_cases h19:kind=19
 ·subst h19
  have e:partsI 19 n=[101,101]:=by unfold partsI;simp
  rw[e]
  exact parts_19 n w
 by_cases h20:kind=20
 ·subst h20
  have e:partsI 20 n=[101,101,101]:=by unfold partsI;simp
  rw[e]
  exact parts_20 n w
 by_cases h21:kind=21
 ·subst h21
  have e:partsI 21 n=[103,101]:=by unfold partsI;simp
  rw[e]
  exact parts_21 n w
 by_cases h22:kind=22
 ·subst h22
  have e:partsI 22 n=[69]:=by unfold partsI;simp
  rw[e]
  exact parts_22 n w
 by_cases h31:kind=31
 ·subst h31
  have e:partsI 31 n=[69]:=by unfold partsI;simp
  rw[e]
  exact parts_31 n w
 by_cases h32:kind=32
 ·subst h32
  have e:partsI 32 n=[101]:=by unfold partsI;simp
  rw[e]
  exact parts_32 n w
 by_cases h33:kind=33
 ·subst h33
  have e:partsI 33 n=List.replicate (n - 1) 110++[98]:=by unfold partsI;simp
  rw[e]
  exact parts_33 n hn w
 by_cases h34:kind=34
 ·subst h34
  have e:partsI 34 n=[69]:=by unfold partsI;simp
  rw[e]
  exact parts_34 n w
 by_cases h35:kind=35
 ·subst h35
  have e:partsI 35 n=[101,115,83]:=by unfold partsI;simp
  rw[e]
  exact parts_35 n w
 by_cases h36:kind=36
 ·subst h36
  have e:partsI 36 n=[101,115]:=by unfold partsI;simp
  rw[e]
  exact parts_36 n w
 by_cases h37:kind=37
 ·subst h37
  have e:partsI 37 n=[69,69,69,115]:=by unfold partsI;simp
  rw[e]
  exact parts_37 n w
 by_cases h38:kind=38
 ·subst h38
  have e:partsI 38 n=[101,115]:=by unfold partsI;simp
  rw[e]
  exact parts_38 n w
 by_cases h41:kind=41
 ·subst h41
  have e:partsI 41 n=[115]:=by unfold partsI;simp
  rw[e]
  exact parts_41 n w
 by_cases h42:kind=42
 ·subst h42
  have e:partsI 42 n=[101]:=by unfold partsI;simp
  rw[e]
  exact parts_42 n w
 by_cases h43:kind=43
 ·subst h43
  have e:partsI 43 n=[98,66,66]:=by unfold partsI;simp
  rw[e]
  exact parts_43 n w
 by_cases h44:kind=44
 ·subst h44
  have e:partsI 44 n=List.replicate n 105:=by unfold partsI;simp
  rw[e]
  exact parts_44 n hn w
 by_cases h46:kind=46
 ·subst h46
  have e:partsI 46 n=[101]:=by unfold partsI;simp
  rw[e]
  exact parts_46 n w
 by_cases h47:kind=47
 ·subst h47
  have e:partsI 47 n=List.replicate n 105:=by unfold partsI;simp
  rw[e]
  exact parts_47 n hn w
 have e:partsI kind n=[]:=by
  unfold partsI
  repeat rw[if_neg (by omega)]
 rw[e]
 exact parts_no kind n w (by simpa using h9) (by simpa using h10) (by simpa using h11) (by simpa using h12) (by simpa using h13) (by simpa using h14) (by simpa using h15) (by simpa using h16) (by simpa using h17) (by simpa using h18) (by simpa using h19) (by simpa using h20) (by simpa using h21) (by simpa using h22) (by simpa using h31) (by simpa using h32) (by simpa using h33) (by simpa using h34) (by simpa using h35) (by simpa using h36) (by simpa using h37) (by simpa using h38) (by simpa using h41) (by simpa using h42) (by simpa using h43) (by simpa using h44) (by simpa using h46) (by simpa using h47)
structure Fp (B:Nat)(W0 w0:World)(S:Nat→Prop)(bk:Nat)(box:Array Value)(w:World):Prop where
 bel:Below B W0 w
 chg:Chg S w0 w
 box:∀i v,box[i]?=some v→w.cell? ⟨bk,i,none⟩=some v
 lt:bk<w.heap.size
 sep:¬S bk
 sB:∀k,S k→B≤k
 BB:B≤w.heap.size
theorem Fp.start {B:Nat}{W0 w:World}{S:Nat→Prop}(hb:Below B W0 w)(hB:B≤w.heap.size)(hS:∀k,S k→B≤k∧k<w.heap.size)(box:Array Value)(ty:TypeId):Fp B W0 w S w.heap.size box (w.alloc (.cells box ty)) :=
 ⟨hb.alloc hB _,Chg.of_below ((Below.refl _ _).alloc (Nat.le_refl _) _),box_new w box ty,by simp,fun q=>by have:=(hS _ q).2;omega,fun k q=>(hS k q).1,by simp;omega⟩
theorem Fp.call {B:Nat}{W0 w0 w w':World}{S:Nat→Prop}{bk:Nat}{box:Array Value}(h:Fp B W0 w0 S bk box w)(hc:Chg S w w'):Fp B W0 w0 S bk box w' :=
 ⟨hc.below h.bel h.BB h.sB,h.chg.trans hc (fun _ _ q=>q),fun i v q=>hc.cell (h.box i v q) h.sep,Nat.lt_of_lt_of_le h.lt hc.size,h.sep,h.sB,Nat.le_trans h.BB hc.size⟩
structure HoAt {n:Nat}(B:Nat)(W0 w:World)(lb:Nat)(box:Array Value)(lv:Nat)(xs:List (Tr n))(r0:Nat)(k:Nat)(wr:World)(r:Nat):Prop where
 le:k≤xs.length
 val:loopH (holdsT n lv) xs r0=loopH (holdsT n lv) (xs.drop k) r
 fp:Fp B W0 w (fun k=>k=lb) w.heap.size box wr
 cell:wr.cell? ⟨lb,0,none⟩=some (.int .i64 r)
 fro:wr.frozen? ⟨lb,0,none⟩=false
 rle:r≤r0
theorem loopH_le {α:Type}(f:α→Nat→Bool×Nat)(hf:∀k r,(f k r).2≤r)(xs:List α)(r:Nat):(loopH f xs r).2≤r:=by
 induction xs generalizing r with
 | nil=>exact Nat.le_refl _
 | cons k ks ih =>
   rw[loopH]
   have h1:=hf k r
   split
   ·exact Nat.le_trans (ih _) h1
   ·exact h1
theorem holds_le (n lv:Nat)(t:Tr n)(r:Nat):(holdsT n lv t r).2≤r:=by
 induction n generalizing lv r with
 | zero=>exact nomatch (t:Empty)
 | succ n ih =>
   obtain⟨x,s⟩:=t
   rw[holdsT]
   split
   ·exact Nat.le_refl _
   ·exact Nat.le_trans (loopH_le _ (fun k r=>ih (lv - 1) k r) s.xs (r - 1)) (Nat.sub_le _ _)
theorem holds_any (n:Nat)(B lb:Nat)(W0:World)(hBE:B=W0.heap.size)(hlB:B≤lb):∀(t:Tr n)(lv r:Nat)(w:World),okT n W0 t→Below B W0 w→lv≤300→r≤131072→w.cell? ⟨lb,0,none⟩=some (.int .i64 r)→w.frozen? ⟨lb,0,none⟩=false →
  Calls Tryz.prog 14 #[.pointer (some ⟨lb,0,none⟩),valT n t,.int .i64 lv] w fun e w'=>e = .returned (.bool (holdsT n lv t r).1)∧w'.cell? ⟨lb,0,none⟩=some (.int .i64 (holdsT n lv t r).2)∧w'.frozen? ⟨lb,0,none⟩=false∧Chg (fun k=>k=lb) w w':=by
 induction n with
 | zero=>intro t;exact nomatch (t:Empty)
 | succ n ih =>
   rintro⟨⟨kind,pl,name,num,op⟩,⟨ad,cap,xs⟩⟩ lv r w ⟨_,hs,hk⟩ hb hlv hr hc hf
   rw[val_succ]
   simp only at hs hk ⊢
   have h1:=hs.len
   have h2:=hs.cap
   have hlen:xs.length≤2 ^ 63 - 1:=Nat.le_trans h1 h2
   clear h1 h2
   have HS:Hid (Sli.ok (encT n) 6 W0 ⟨ad,cap,xs⟩∧(∀y∈xs,okT n W0 y)∧B=W0.heap.size∧B≤lb):=⟨hs,hk,hBE,hlB⟩
   have HIH:Hid (∀(t:Tr n) (lv r:Nat) (w:World),okT n W0 t→Below B W0 w→lv≤300→r≤131072→w.cell? ⟨lb,0,none⟩=some (.int .i64 r)→w.frozen? ⟨lb,0,none⟩=false →
    Calls Tryz.prog 14 #[.pointer (some ⟨lb,0,none⟩),valT n t,.int .i64 lv] w fun e w'=>e = .returned (.bool (holdsT n lv t r).1)∧w'.cell? ⟨lb,0,none⟩=some (.int .i64 (holdsT n lv t r).2)∧w'.frozen? ⟨lb,0,none⟩=false∧Chg (fun k=>k=lb) w w'):=ih
   have hll:lb<w.heap.size:=World.block_lt_of_cell? w _ hc
   have hne:lb≠w.heap.size:=by omega
   obtain⟨wb,hwb⟩:∃wb,wb=w.alloc (.cells #[.int .i64 kind,.int .i64 pl,.string name,.int .u64 num,.string op,.slice ad xs.length cap] 25):=⟨_,rfl⟩
   have FR:Hid (Fp B W0 w (fun k=>k=lb) w.heap.size #[.int .i64 kind,.int .i64 pl,.string name,.int .u64 num,.string op,.slice ad xs.length cap] wb):=by
    rw[hwb]
    exact Fp.start hb (by omega) (fun k q=>by subst q;exact⟨hlB,hll⟩) _ _
   have cb:wb.cell? ⟨lb,0,none⟩=some (.int .i64 r):=by rw[hwb];exact cells_below ((Below.refl _ _).alloc (Nat.le_refl _) _) _ _ hc
   have fb:wb.frozen? ⟨lb,0,none⟩=false:=by
    rw[hwb,World.frozen?_of_block (w:=w) (Below.heap_alloc w _ lb hll)]
    exact hf
   have b5:wb.cell? ⟨w.heap.size,5,none⟩=some (.slice ad xs.length cap):=FR.out.box 5 _ rfl
   have HQ:Hid (∃Q:Bool×Nat,Q=holdsT (n+1) lv ((⟨kind,pl,name,num,op⟩,⟨ad,cap,xs⟩):Nd×Sli (Tr n)) r):=⟨_,rfl⟩
   obtain⟨Q,hQ⟩:=HQ.out
   rw[←hQ]
   have HQ2:Hid (Q=if r=0∨lv=0 then (false,r) else loopH (holdsT n (lv - 1)) xs (r - 1)):=hQ
   clear hs hk ih hc hf hb HQ hQ hBE hlB
   rcases Nat.eq_zero_or_pos r with c | c
   ·subst c
    have e:Q=(false,0):=by rw[HQ2.out,if_pos (Or.inl rfl)]
    rw[e]
    clear e HQ2
    have HE:Hid (wb.cell? ⟨lb,0,none⟩=some (.int .i64 0)∧wb.frozen? ⟨lb,0,none⟩=false):=⟨cb,fb⟩
    go_enter Tryz.func14,Tryz.ntmps14
    go_upto_region 1 with fail
    rw[←hwb]
    clear hwb
    go_wp2_with fail
    go_ret
    exact⟨rfl,HE.out.1,HE.out.2,FR.out.chg⟩
   ·have cr:(((r:Nat):Int) == 0)=false:=by simp;omega
    rcases Nat.eq_zero_or_pos lv with d | d
    ·subst d
     have e:Q=(false,r):=by rw[HQ2.out,if_pos (Or.inr rfl)]
     rw[e]
     clear e HQ2
     have HE:Hid (wb.cell? ⟨lb,0,none⟩=some (.int .i64 r)∧wb.frozen? ⟨lb,0,none⟩=false):=⟨cb,fb⟩
     go_enter Tryz.func14,Tryz.ntmps14
     go_upto_region 1 with fail
     rw[←hwb]
     clear hwb
     go_wp2_with fail
     go_ret
     exact⟨rfl,HE.out.1,HE.out.2,FR.out.chg⟩
    ·obtain⟨lv,rfl⟩:∃l,lv=l+1:=⟨lv - 1,by omega⟩
     obtain⟨r,rfl⟩:∃l,r=l+1:=⟨r - 1,by omega⟩
     have e:Q=loopH (holdsT n lv) xs r:=by rw[HQ2.out,if_neg (by omega)];rfl
     rw[e]
     have cl:(((lv:Int)+1) == 0)=false:=by simp;omega
     rw[show(((r+1:Nat)):Int)=(r:Int)+1 by omega] at cb cr
     rw[show(((lv+1:Nat)):Int)=(lv:Int)+1 by omega]
     clear e HQ2
     obtain⟨ws,hws⟩:∃ws,ws=wb.setCell ⟨lb,0,none⟩ (.int .i64 r):=⟨_,rfl⟩
     have HI:Hid (HoAt B W0 w lb #[.int .i64 kind,.int .i64 pl,.string name,.int .u64 num,.string op,.slice ad xs.length cap] lv xs r 0 ws r):=by
      refine⟨Nat.zero_le _,rfl,?_,?_,?_,Nat.le_refl _⟩
      ·rw[hws];exact FR.out.call (Chg.set _ _ _ rfl)
      ·rw[hws];exact World.cell?_setCell_same _ _ _ cb
      ·rw[hws,World.frozen?_setCell];exact fb
     have b5s:ws.cell? ⟨w.heap.size,5,none⟩=some (.slice ad xs.length cap):=HI.out.fp.box 5 _ rfl
     go_enter Tryz.func14,Tryz.ntmps14
     go_upto_region 1 with fail
     rw[←hwb]
     clear hwb
     go_upto_region 4 with fail
     rw[←hws]
     clear hws
     go_wp2_with fail
     go_loopw [25] (fun i wr=>∃(k r':Nat),HoAt B W0 w lb #[.int .i64 kind,.int .i64 pl,.string name,.int .u64 num,.string op,.slice ad xs.length cap] lv xs r k wr r'∧i = .int .i64 k) (fun i wr=>xs.length - (intOf i).toNat)
     case atStart=>exact⟨0,r,HI.out,rfl⟩
     case round =>
      obtain⟨k,r',hr',rfl⟩:=hrel
      have ple:=hr'.le
      have HR:Hid (HoAt B W0 w lb #[.int .i64 kind,.int .i64 pl,.string name,.int .u64 num,.string op,.slice ad xs.length cap] lv xs r k wr r'):=hr'
      clear hr' HI
      rcases Nat.lt_or_ge k xs.length with c | c
      ·obtain⟨y,hy,hd⟩:=kid_get c
       obtain⟨b,off,e1,hlie⟩:=kids_lie HS.out.1 (by intro e;simp only at e;rw[e] at c;simp at c)
       simp only at e1 hlie
       subst e1
       obtain⟨y0,y1,y2,y3,y4,y5⟩:=hlie k y hy B wr HS.out.2.2.1 HR.out.fp.bel
       have HY:Hid (xs.drop k=y :: xs.drop (k+1)∧okT n W0 y):=⟨hd,HS.out.2.1 y (List.mem_of_getElem? hy)⟩
       clear hy hd hlie
       obtain⟨wk,hwk⟩:∃wk,wk=wr.alloc (.cells #[.int .i64 (ndT n y).kind,.int .i64 (ndT n y).pl,.string (ndT n y).name,.int .u64 (ndT n y).num,.string (ndT n y).op,.slice (atT n y) (nkT n y) (capT n y)] 25):=⟨_,rfl⟩
       have hbl:Below wr.heap.size wr wk:=by rw[hwk];exact(Below.refl _ _).alloc (Nat.le_refl _) _
       have hch:Chg (fun k=>k=lb) wr wk:=Chg.of_below hbl
       have FK:Hid (Fp B W0 w (fun k=>k=lb) w.heap.size _ wk):=HR.out.fp.call hch
       have hck:wk.cell? ⟨lb,0,none⟩=some (.int .i64 r'):=cells_below hbl _ _ HR.out.cell
       have hfk:wk.frozen? ⟨lb,0,none⟩=false:=by rw[hbl.frozen (p:=⟨lb,0,none⟩) (World.block_lt_of_cell? wr _ HR.out.cell)];exact HR.out.fro
       obtain⟨x0,x1,x2,x3,x4,x5⟩:=six_new hwk
       have hcall:=HIH.out y lv r' wk HY.out.2 FK.out.bel (by omega) (by have:=HR.out.rle;omega) hck hfk
       obtain⟨A,hA⟩:∃A,A=holdsT n lv y r':=⟨_,rfl⟩
       rw[←hA] at hcall
       have HA:Hid (A=holdsT n lv y r'∧A.2≤r'):=⟨hA,by rw[hA];exact holds_le n lv y r'⟩
       obtain⟨A1,A2⟩:=A
       have HC:Hid (Chg (fun k=>k=lb) wr wk):=hch
       clear hA hck hfk hbl hch
       simp only at hcall
       cases A1
       ·have HE:Hid (loopH (holdsT n lv) xs r=(false,A2)):=by
         show _=_
         rw[HR.out.val,HY.out.1,loopH,←HA.out.1]
         simp
        go_upto_region 7 with fail
        rw[←hwk]
        clear hwk
        go_wp2_with fail
        refine hcall.mono ?_
        rintro e w4 ⟨rfl,c4,f4,q4⟩
        have HX:Hid (w4.cell? ⟨lb,0,none⟩=some (.int .i64 A2)∧w4.frozen? ⟨lb,0,none⟩=false∧Chg (fun k=>k=lb) w w4):=⟨c4,f4,FK.out.chg.trans q4 (fun _ _ q=>q)⟩
        clear c4 f4 q4 hcall
        go_wp2_with fail
        go_ret
        rw[HE.out]
        exact⟨rfl,HX.out⟩
       ·go_upto_region 7 with fail
        rw[←hwk]
        clear hwk
        go_wp2_with fail
        refine hcall.mono ?_
        rintro e w4 ⟨rfl,c4,f4,q4⟩
        have HX:Hid (HoAt B W0 w lb #[.int .i64 kind,.int .i64 pl,.string name,.int .u64 num,.string op,.slice (some ⟨b,off,none⟩) xs.length cap] lv xs r (k+1) w4 A2):=by
         refine⟨c,?_,FK.out.call q4,c4,f4,by have:=HA.out.2;have:=HR.out.rle;simp at *;omega⟩
         rw[HR.out.val,HY.out.1,loopH,←HA.out.1]
         simp
        clear c4 f4 q4 hcall
        go_wp2_with fail
        refine⟨⟨k+1,A2,HX.out,by go_num⟩,?_⟩
        simp[intOf]
        omega
      ·have HE:Hid (loopH (holdsT n lv) xs r=(true,r')):=by
        show _=_
        rw[HR.out.val,List.drop_of_length_le c]
        rfl
       go_wp2_with fail
       go_ret
       rw[HE.out]
       exact⟨rfl,HR.out.cell,HR.out.fro,HR.out.fp.chg⟩
structure Ck (B cb mu md:Nat)(w:World)(star:Bool)(U D:List Int)(m:Nat):Prop where
 c0:w.cell? ⟨cb,0,none⟩=some (.bool star)
 f0:w.frozen? ⟨cb,0,none⟩=false
 c1:w.cell? ⟨cb,1,none⟩=some (.map (some mu))
 c2:w.cell? ⟨cb,2,none⟩=some (.map (some md))
 sU:SetAt w mu m U
 sD:SetAt w md m D
 n1:cb≠mu
 n2:cb≠md
 n3:mu≠md
 bc:B≤cb
 bu:B≤mu
 bd:B≤md
def Cs (cb mu md k:Nat):Prop:=k=cb∨k=mu∨k=md
structure CkAt (B cb mu md:Nat)(w:World)(star:Bool)(st:St)(m:Nat):Prop where
 mem:∃U D,st=(U.reverse,D.reverse)∧Ck B cb mu md w star U D m
theorem Ck.lts {B cb mu md:Nat}{w:World}{star:Bool}{U D:List Int}{m:Nat}(h:Ck B cb mu md w star U D m):∀k,Cs cb mu md k→B≤k∧k<w.heap.size:=by
 rintro k (rfl | rfl | rfl)
 ·exact⟨h.bc,World.block_lt_of_cell? w _ h.c0⟩
 ·exact⟨h.bu,h.sU.lt⟩
 ·exact⟨h.bd,h.sD.lt⟩
theorem CkAt.lts {B cb mu md:Nat}{w:World}{star:Bool}{st:St}{m:Nat}(h:CkAt B cb mu md w star st m):∀k,Cs cb mu md k→B≤k∧k<w.heap.size:=by
 obtain⟨U,D,_,h1⟩:=h.mem
 exact h1.lts
theorem CkAt.size {B cb mu md:Nat}{w:World}{star:Bool}{st:St}{m:Nat}(h:CkAt B cb mu md w star st m):B≤w.heap.size:=by
 have:=h.lts cb (Or.inl rfl)
 omega
theorem Ck.kept {B cb mu md:Nat}{w w':World}{star:Bool}{U D:List Int}{m:Nat}{S:Nat→Prop}(h:Ck B cb mu md w star U D m)(hc:Chg S w w')(hs:∀k,Cs cb mu md k→¬S k):Ck B cb mu md w' star U D m :=
 have hp:¬S cb:=hs cb (Or.inl rfl)
 ⟨hc.cell h.c0 hp,(frozen_chg hc h.c0 hp).trans h.f0,hc.cell h.c1 hp,hc.cell h.c2 hp,h.sU.kept hc (hs mu (Or.inr (Or.inl rfl))),h.sD.kept hc (hs md (Or.inr (Or.inr rfl))),h.n1,h.n2,h.n3,h.bc,h.bu,h.bd⟩
theorem CkAt.new {B cb mu md:Nat}{w w':World}{star:Bool}{st:St}{m:Nat}(h:CkAt B cb mu md w star st m)(hb:Below w.heap.size w w'):CkAt B cb mu md w' star st m:=by
 obtain⟨U,D,e,h1⟩:=h.mem
 exact⟨U,D,e,h1.kept (S:=fun _=>False) (Chg.of_below hb) (fun _ _ q=>q)⟩
theorem CkAt.more {B cb mu md:Nat}{w:World}{star:Bool}{st:St}{m m':Nat}(h:CkAt B cb mu md w star st m)(hm:m≤m'):CkAt B cb mu md w star st m':=by
 obtain⟨U,D,e,h1⟩:=h.mem
 exact⟨U,D,e,h1.c0,h1.f0,h1.c1,h1.c2,h1.sU.mono hm,h1.sD.mono hm,h1.n1,h1.n2,h1.n3,h1.bc,h1.bu,h1.bd⟩
theorem CkAt.cells {B cb mu md:Nat}{w:World}{star:Bool}{st:St}{m:Nat}(h:CkAt B cb mu md w star st m) :
  w.cell? ⟨cb,0,none⟩=some (.bool star)∧w.frozen? ⟨cb,0,none⟩=false∧w.cell? ⟨cb,1,none⟩=some (.map (some mu))∧w.cell? ⟨cb,2,none⟩=some (.map (some md)):=by
 obtain⟨U,D,e,h1⟩:=h.mem
 exact⟨h1.c0,h1.f0,h1.c1,h1.c2⟩
theorem CkAt.star {B cb mu md:Nat}{w:World}{star:Bool}{st:St}{m:Nat}(h:CkAt B cb mu md w star st m)(b:Bool):CkAt B cb mu md (w.setCell ⟨cb,0,none⟩ (.bool b)) b st m∧Chg (Cs cb mu md) w (w.setCell ⟨cb,0,none⟩ (.bool b)):=by
 obtain⟨U,D,e,h1⟩:=h.mem
 have hc:Chg (fun k=>k=cb) w (w.setCell ⟨cb,0,none⟩ (.bool b)):=Chg.set w _ _ rfl
 refine⟨⟨U,D,e,World.cell?_setCell_same _ _ _ h1.c0,by rw[World.frozen?_setCell];exact h1.f0,?_,?_,h1.sU.kept hc (fun q=>h1.n1 q.symm),h1.sD.kept hc (fun q=>h1.n2 q.symm),h1.n1,h1.n2,h1.n3,h1.bc,h1.bu,h1.bd⟩,Chg.set w _ _ (Or.inl rfl)⟩
 ·rw[World.cell?_setCell_other _ _ _ _ (by simp)];exact h1.c1
 ·rw[World.cell?_setCell_other _ _ _ _ (by simp)];exact h1.c2
def PcPost (B cb mu md:Nat)(w:World)(star:Bool)(r:Option St)(m:Nat)(e:Ending)(w':World):Prop :=
 e = .returned (.bool r.isSome)∧Chg (Cs cb mu md) w w'∧∀st',r=some st'→CkAt B cb mu md w' star st' m
theorem takeU_ck {B cb mu md:Nat}{w:World}{star:Bool}{st:St}{m:Nat}(h:CkAt B cb mu md w star st m)(hm:m+1≤1000000)(a:Int)(hwf:(Lit.int .i64 a).wf=true) :
  Calls Tryz.prog 45 #[.map (some mu),.int .i64 a] w fun e w'=>PcPost B cb mu md w star (takeU st a) (m+1) e w'∧w'.cell? ⟨cb,1,none⟩=some (.map (some mu))∧w'.cell? ⟨cb,2,none⟩=some (.map (some md)):=by
 obtain⟨U,D,rfl,h1⟩:=h.mem
 refine(take_any mu m U a w h1.sU (by omega) hwf).mono ?_
 rintro e w' ⟨rfl,h2,h3⟩
 refine⟨⟨?_,⟨h3.os,h3.tape,h3.output,h3.size,fun k hk hn=>h3.block k hk (fun q=>hn (Or.inr (Or.inl q)))⟩,?_⟩,h3.cell h1.c1 h1.n1,h3.cell h1.c2 h1.n1⟩
 ·unfold takeU
  by_cases c:a∈U
  ·rw[if_pos (by simpa using c)];simp[c]
  ·rw[if_neg (by simpa using c)];simp[c]
 ·intro st' e'
  unfold takeU at e'
  by_cases c:a∈U
  ·rw[if_pos (by simpa using c)] at e';cases e'
  ·rw[if_neg (by simpa using c)] at e'
   cases e'
   refine⟨U++[a],D,by simp,h3.cell h1.c0 h1.n1,(frozen_chg h3 h1.c0 h1.n1).trans h1.f0,h3.cell h1.c1 h1.n1,h3.cell h1.c2 h1.n1,h2,(h1.sD.kept h3 (fun q=>h1.n3 q.symm)).mono (by omega),h1.n1,h1.n2,h1.n3,h1.bc,h1.bu,h1.bd⟩
theorem takeD_ck {B cb mu md:Nat}{w:World}{star:Bool}{st:St}{m:Nat}(h:CkAt B cb mu md w star st m)(hm:m+1≤1000000)(a:Int)(hwf:(Lit.int .i64 a).wf=true) :
  Calls Tryz.prog 45 #[.map (some md),.int .i64 a] w fun e w'=>PcPost B cb mu md w star (takeD st a) (m+1) e w'∧w'.cell? ⟨cb,1,none⟩=some (.map (some mu))∧w'.cell? ⟨cb,2,none⟩=some (.map (some md)):=by
 obtain⟨U,D,rfl,h1⟩:=h.mem
 refine(take_any md m D a w h1.sD (by omega) hwf).mono ?_
 rintro e w' ⟨rfl,h2,h3⟩
 refine⟨⟨?_,⟨h3.os,h3.tape,h3.output,h3.size,fun k hk hn=>h3.block k hk (fun q=>hn (Or.inr (Or.inr q)))⟩,?_⟩,h3.cell h1.c1 h1.n2,h3.cell h1.c2 h1.n2⟩
 ·unfold takeD
  by_cases c:a∈D
  ·rw[if_pos (by simpa using c)];simp[c]
  ·rw[if_neg (by simpa using c)];simp[c]
 ·intro st' e'
  unfold takeD at e'
  by_cases c:a∈D
  ·rw[if_pos (by simpa using c)] at e';cases e'
  ·rw[if_neg (by simpa using c)] at e'
   cases e'
   refine⟨U,D++[a],by simp,h3.cell h1.c0 h1.n2,(frozen_chg h3 h1.c0 h1.n2).trans h1.f0,h3.cell h1.c1 h1.n2,h3.cell h1.c2 h1.n2,(h1.sU.kept h3 h1.n3).mono (by omega),h2,h1.n1,h1.n2,h1.n3,h1.bc,h1.bu,h1.bd⟩
theorem PcPost.on {B cb mu md:Nat}{w w1 w2:World}{star:Bool}{r:Option St}{m m':Nat}{e:Ending}(h:PcPost B cb mu md w1 star r m e w2)(hc:Chg (Cs cb mu md) w w1)(hm:m≤m'):PcPost B cb mu md w star r m' e w2 :=
 ⟨h.1,hc.trans h.2.1 (fun _ _ q=>q),fun st' q=>(h.2.2 st' q).more hm⟩
theorem hereP_kd {n:Nat}(x:Nd)(xs:List (Tr n))(star:Bool)(st:St)(q1 q2:Int)(h1:kd0 (kidT n) xs 1=q1)(h2:kd0 (kidT n) xs 2=q2):hereP (kidT n) x xs star st=if x.kind=3 then takeU st x.pl
 else if x.kind=17 then (if isS x.name preS || isS x.name postS then some st else none)
 else if x.kind=22 then (if star then some st else none)
 else if x.kind=43∧q1=0∧q2=0 then none
 else if declI x q1=true then takeD st x.pl else some st:=by
 subst h1;subst h2;rfl
end Go.Proofs.YtihmdcdifakepaaGreat.Sc
