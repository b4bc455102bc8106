/- XL, YK2 -/
import Derived.Test.YtahhionlbfhinabGreatDoorB38
import Derived.Test.YtahhionlbfhinabGreatDoorB39
import Derived.Test.YtahhionlbfhinabGreatDoorB37
set_option linter.unusedVariables false
set_option linter.unusedSimpArgs false
set_option maxRecDepth 100000
set_option maxHeartbeats 40000000
namespace Go.Proofs.YtahhionlbfhinabGreatDoor.Hp
open Go.RowKit
section
variable {w0 w:World}{X:Nat→Prop}{hb:Nat}{H:He}{S:List So}{vo vt:SV}{ts:List ByteArray}{n:Nat}
end
section
variable {w wr w':World}{X Y:Nat→Prop}{hb bs:Nat}{H:He}{S:List So}{vo:SV}{n:Nat}
theorem LawP.len (h:LawP w wr X hb bs H S vo n):vo.len=S.length∧S.length≤65536:=by
 obtain⟨tgH,tgS,M,qs,h⟩:=h.two
 obtain⟨ad,cap,e,_,_⟩:=h.st.vol
 exact⟨by rw[e],h.st.big⟩
theorem pproto_e (h:LawP w wr X hb bs H S vo n)(o:Int)(o0:0≤o)(o1:o<18446744073709551616) :
  Calls Tryz.prog 16 #[.pointer (some ⟨hb,0,none⟩),.int .u64 o] wr fun e w'=>e = .returned (.int .u64 (upH H o))∧w'=wr:=by
 obtain⟨tgH,tgS,M,qs,h⟩:=h.two
 exact proto_any h.hp o o0 o1
theorem upH_rng (hw:H.wf)(o:Int):0≤upH H o∧upH H o<18446744073709551616:=by
 unfold upH
 cases hq:obO H o with
 | none=>exact⟨by show(0:Int)≤nulW;decide,by show nulW<18446744073709551616;decide⟩
 | some ob =>
   obtain⟨i,_,hi⟩:=obO_some hq
   exact(hw.ob ob (List.mem_of_getElem? hi)).pr
end
end Go.Proofs.YtahhionlbfhinabGreatDoor.Hp
namespace Go.Proofs.YtahhionlbfhinabGreatDoor.Hp
open Go.RowKit
def abvL (H:He)(k:ByteArray)(R:Option (Int×De)):Nat→Int→Bool
 | 0,_ => !R.isSome
 | n+1,o=>match ownH H o k with
   | some e=>match R with
     | some (q,d)=>o == q && deqB d e
     | none=>false
   | none=>if (obO H o).isSome=true then abvL H k R n (upH H o) else !R.isSome
section
variable {H H':He}{S S':List So}{ts:List ByteArray}{o o2:Int}{k k2:ByteArray}{i:Nat}{ob:Ob}{x y:So}{d:De}{n:Nat}
theorem abv_look:∀(n:Nat)(o:Int),abvL H k (lookF H k n o) n o=true
 | 0,o=>rfl
 | n+1,o=>by
   cases hq:obO H o with
   | none =>
     have ho:ownH H o k=none:=by unfold ownH;rw[hq];rfl
     rw[look_none hq]
     unfold abvL
     rw[ho]
     simp only[hq,Option.isSome_none,Bool.false_eq_true,if_false,Bool.not_false]
   | some ob =>
     have ho:ownH H o k=ownO ob k:=by unfold ownH;rw[hq];rfl
     have hu:upH H o=ob.proto:=by unfold upH;rw[hq];rfl
     rw[look_step hq]
     unfold abvL
     rw[ho]
     cases hw:ownO ob k with
     | some e=>simp[deqB]
     | none =>
       simp only[hq,Option.isSome_some,if_true]
       rw[hu]
       exact abv_look n ob.proto
end
end Go.Proofs.YtahhionlbfhinabGreatDoor.Hp
