/- XO -/
import Derived.Test.YtahhionlbfhinaaGreatDoorB40
set_option linter.unusedVariables false
set_option linter.unusedSimpArgs false
set_option maxRecDepth 100000
set_option maxHeartbeats 40000000
namespace Go.Proofs.YtahhionlbfhinaaGreatDoor.Hp
open Go.RowKit
section
variable {w wr w':World}{X Y:Nat→Prop}{hb bs:Nat}{H:He}{S:List So}{vo:SV}{n:Nat}
theorem rproto_b (h:LawP w wr X hb bs H S vo n)(o:Int)(o0:0≤o)(o1:o<18446744073709551616) :
  Calls Tryz.prog 41 #[stV vo .nil,.int .u64 o] wr fun e w'=>e = .returned (.int .u64 (((soO S o).map So.proto).getD 18445336698825998337))∧Below wr.heap.size wr w':=by
 obtain⟨tgH,tgS,M,qs,h⟩:=h.two
 exact rproto_o h.st .nil o o0 o1
theorem ropen_b (h:LawP w wr X hb bs H S vo n)(o:Int)(o0:0≤o)(o1:o<18446744073709551616) :
  Calls Tryz.prog 43 #[stV vo .nil,.int .u64 o] wr fun e w'=>e = .returned (.bool (((soO S o).map (fun x => !x.shut)).getD false))∧Below wr.heap.size wr w':=by
 obtain⟨tgH,tgS,M,qs,h⟩:=h.two
 exact ropen_o h.st .nil o o0 o1
theorem popen_b (h:LawP w wr X hb bs H S vo n)(o:Int)(o0:0≤o)(o1:o<18446744073709551616) :
  Calls Tryz.prog 42 #[.pointer (some ⟨hb,0,none⟩),.int .u64 o] wr fun e w'=>e = .returned (.bool (((obO H o).map (fun x => !x.shut)).getD false))∧w'=wr:=by
 obtain⟨tgH,tgS,M,qs,h⟩:=h.two
 exact open_any h.hp o o0 o1
theorem pown_b (h:LawP w wr X hb bs H S vo n)(o:Int)(o0:0≤o)(o1:o<18446744073709551616)(k:ByteArray)(hk:k.size≤maxLen) :
  Calls Tryz.prog 18 #[.pointer (some ⟨hb,0,none⟩),.int .u64 o,.string k] wr fun e w'=>e = .returned (.tuple #[deV ((ownH H o k).getD zDe),.bool (ownH H o k).isSome])∧Below wr.heap.size wr w':=pown_e h.two h.ord o o0 o1 k hk
theorem rown_b (h:LawP w wr X hb bs H S vo n)(o:Int)(o0:0≤o)(o1:o<18446744073709551616)(k:ByteArray)(hk:k.size≤maxLen) :
  Calls Tryz.prog 19 #[stV vo .nil,.int .u64 o,.string k] wr fun e w'=>e = .returned (.tuple #[deV ((ownH H o k).getD zDe),.bool (ownH H o k).isSome])∧Below wr.heap.size wr w':=by
 rw[h.ord.own]
 exact rown_e h.two h.ord h.two.wf o o0 o1 k hk
theorem OrP.up (h:OrP H S [] n)(o:Int):upH H o=((soO S o).map So.proto).getD 18445336698825998337:=by
 unfold upH
 rcases h.rel.oo o with⟨e1,e2⟩ | ⟨ob,x,e1,e2,e3⟩
 ·rw[e1,e2];rfl
 ·rw[e1,e2]
  simp only[Option.map_some,Option.getD_some]
  exact e3.pr
theorem OrP.op (h:OrP H S [] n)(o:Int):((obO H o).map (fun x => !x.shut)).getD false=((soO S o).map (fun x => !x.shut)).getD false:=by
 rcases h.rel.oo o with⟨e1,e2⟩ | ⟨ob,x,e1,e2,e3⟩
 ·rw[e1,e2];rfl
 ·rw[e1,e2]
  simp only[Option.map_some,Option.getD_some]
  rw[e3.sh]
end
end Go.Proofs.YtahhionlbfhinaaGreatDoor.Hp
