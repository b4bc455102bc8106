/- ZX -/
import Derived.Test.YtihmdcdifakepaaGreatZW
set_option linter.unusedVariables false
set_option linter.unusedSimpArgs false
set_option maxRecDepth 100000
set_option maxHeartbeats 40000000
namespace Go.Proofs.YtihmdcdifakepaaGreat.Rv.Rx
open Go.RowKit Go.Proofs.YtihmdcdifakepaaGreat.Sc Go.Proofs.YtihmdcdifakepaaGreat.Rz
theorem blC_any (W0:World)(n:Nat)(hS:StC W0 n):BlC W0 (n+1):=by
 intro t hok w wb O s c a v6 h hb hd hm
 obtain⟨x,sl⟩:=t
 obtain⟨⟨hxw,hso,hkt⟩,hft⟩:=hok
 have hks:∀y∈sl.xs,okD n W0 y:=fun y hy=>⟨hkt y hy,hft.2.2.2.2 y hy⟩
 have hsz:szT (n+1) ((x,sl):Nd×Sli (Tr n))=1+(sl.xs.map (szT n)).sum:=rfl
 rw[hsz] at hb ⊢
 have hk:=block_any W0 n hS w wb O s c a v6 h sl hso hks (by omega) (by omega) hm
 refine hk.mono fun e w' hT => ?_
 have he:8*(1+(sl.xs.map (szT n)).sum) - 8=8*(sl.xs.map (szT n)).sum:=by omega
 rw[he]
 exact hT
theorem any_all (W0:World):∀n,ExC W0 n∧StC W0 n∧BlC W0 n
 | 0=>⟨(fun t=>nomatch (t:Empty)),(fun t=>nomatch (t:Empty)),(fun t=>nomatch (t:Empty))⟩
 | n+1=>by
   obtain⟨hE,hS,hB⟩:=any_all W0 n
   exact⟨expr_any W0 n hE hB,stat_any W0 n hE hS hB,blC_any W0 n hS⟩
theorem block_all (W0:World)(n:Nat)(w:World)(wb:Nat)(O:Nat→Prop)(s:Rz.RS)(c a:Int)(v6:Value)(h:OnD W0 wb O s c a v6 w)(sl:Sli (Tr n))(hok:sl.ok (encT n) 6 W0)(hks:∀y∈sl.xs,okD n W0 y)(hb:cr s+8*(sl.xs.map (szT n)).sum≤lim)(hd:dp s+4*n≤lim)(hm:1≤s.blocks.length) :
  Calls Tryz.prog 12 #[.pointer (some ⟨wb,0,none⟩),.slice sl.at' sl.xs.length sl.cap] w (Tl w W0.heap.size wb O v6 (8*(sl.xs.map (szT n)).sum) (itemsP (ndT n) (resR bi n).2.1 sl.xs s) s c a) :=
 block_any W0 n (any_all W0 n).2.1 w wb O s c a v6 h sl hok hks hb hd hm
end Go.Proofs.YtihmdcdifakepaaGreat.Rv.Rx
