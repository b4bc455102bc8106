/- The resolver's walk: program. -/
import Derived.Test.YtihmdcdifakepaaNO
import Derived.Test.YtihmdcdifakepaaB9
import Derived.Test.YtihmdcdifakepaaB4
import Derived.Test.YtihmdcdifakepaaB16
namespace Go.Proofs.Ytihmdcdifakepaa.Rv
open Go.RowKit Go.Proofs.Ytihmdcdifakepaa.Sc Go.Proofs.Ytihmdcdifakepaa.Rz
set_option linter.unusedVariables false
set_option linter.unusedSimpArgs false

/-- a resolver that has the program's scope alone -/
theorem mem_start {w : World} {B rb sb : Nat} {pl : Int} (hlo : B ≤ rb) (hsb : B ≤ sb) (hne : sb ≠ rb) (hbox : w.heap[rb]? = some (.cells #[.slice (some ⟨sb, 0, none⟩) 1 1, .slice none 0 0, .slice none 0 0, .slice none 0 0, .int .i64 0, .int .i64 0, .slice none 0 0] 72 (0, 0))) (hs : w.heap[sb]? = some (.cells #[.int .i64 pl, .int .i64 (-1), .int .i64 0, .int .i64 0] 42 (0, 0))) :
    ∃ O, Mem w B rb O (startP pl) (.slice none 0 0) ∧ ∀ b, O b → b = rb ∨ b = sb := by
  refine ⟨Ow rb (.slice (some ⟨sb, 0, none⟩) 1 1) (.slice none 0 0) (.slice none 0 0) (.slice none 0 0) (.slice none 0 0) [], ⟨fun b => if b = rb then 0 else 1, .slice (some ⟨sb, 0, none⟩) 1 1, .slice none 0 0, .slice none 0 0, .slice none 0 0, [], ?_, fun b => Iff.rfl⟩, ?_⟩
  · have hown : OwnR scpC 4 42 B w (.slice (some ⟨sb, 0, none⟩) 1 1) [⟨pl, -1, 0, 0⟩] := by
      refine ⟨by simp [scpC], Or.inr ⟨sb, 1, _, rfl, hsb, hs, Nat.le_refl _, by unfold maxLen; omega, by simp, by simp [scpC]⟩⟩
    refine ⟨hbox, hown, OwnR.nil _ _, OwnR.nil _ _, OwnR.nil _ _, OwnR.nil _ _, by simp, fun b q => ?_, fun b q => by simp [Value.ownBlock] at q, fun b q => by simp [Value.ownBlock] at q, fun b q => by simp [Value.ownBlock] at q, fun b q => by simp [Value.ownBlock] at q, fun i b q => by simp at q, rfl, fun i m b q => by simp at q, ⟨by simp [startP], fun b q => by simp [startP] at q, fun b q => by simp [startP] at q⟩, hlo⟩
    have e : sb = b := by simpa [Value.ownBlock] using q
    subst e
    simp [hne]
  · rintro b (q | q | q | q | q | q | ⟨i, q⟩)
    · exact Or.inl q
    · exact Or.inr (by have e : sb = b := by simpa [Value.ownBlock] using q
                       exact e.symm)
    · simp [Value.ownBlock] at q
    · simp [Value.ownBlock] at q
    · simp [Value.ownBlock] at q
    · simp [Value.ownBlock] at q
    · simp at q

set_option maxRecDepth 100000 in
set_option maxHeartbeats 2000000 in
theorem program_any (W0 : World) (n : Nat) (x : Nd) (sl : Sli (Tr n)) (ht : okF (n + 1) W0 ((x, sl) : Nd × Sli (Tr n))) (hsz : szT (n + 1) ((x, sl) : Nd × Sli (Tr n)) ≤ 131072) (hn : n ≤ 1000) (w : World) (rb : Nat) (hbel : Below W0.heap.size W0 w) (hlo : W0.heap.size ≤ rb) (hbox : w.heap[rb]? = some (.cells #[.slice none 0 0, .slice none 0 0, .slice none 0 0, .slice none 0 0, .int .i64 0, .int .i64 0, .slice none 0 0] 72 (0, 0))) :
    Calls Try.prog 25 #[.pointer (some ⟨rb, 0, none⟩), .agg #[.int .i64 x.kind, .int .i64 x.pl, .string x.name, .int .u64 x.num, .string x.op, .slice sl.at' sl.xs.length sl.cap]] w (Out w W0.heap.size rb (fun b => b = rb) (.slice none 0 0) (.tuple #[]) (resolveP bi (n + 1) ((x, sl) : Nd × Sli (Tr n)))) := by
  obtain ⟨wb, hwb⟩ : ∃ wb, wb = w.alloc (.cells #[.int .i64 x.kind, .int .i64 x.pl, .string x.name, .int .u64 x.num, .string x.op, .slice sl.at' sl.xs.length sl.cap] 25) := ⟨_, rfl⟩
  have hbl : Below w.heap.size w wb := by rw [hwb]; exact (Below.refl _ _).alloc (Nat.le_refl _) _
  have hX : NdB w.heap.size x (.slice sl.at' sl.xs.length sl.cap) wb := by rw [hwb]; exact at_new _ _
  have hrl : rb < w.heap.size := (Array.getElem?_eq_some_iff.1 hbox).1
  have hboxb : wb.heap[rb]? = _ := (hbl.block rb hrl).trans hbox
  have c0 : wb.cell? ⟨rb, 0, none⟩ = some (.slice none 0 0) := cell_of_row wb _ 0 _ _ (0, 0) hboxb
  have f0 : wb.frozen? ⟨rb, 0, none⟩ = false := by simp [World.frozen?, hboxb, go_sem]
  obtain ⟨_, b1, _, _, _, b5⟩ := hX.cs
  have hwl : wb.heap.size = w.heap.size + 1 := by rw [hwb, size_new]
  obtain ⟨wc, hwc⟩ : ∃ wc, wc = wb.alloc (.cells #[.int .i64 x.pl, .int .i64 (-1), .int .i64 0, .int .i64 0] 42) := ⟨_, rfl⟩
  have hbc : Below wb.heap.size wb wc := by rw [hwc]; exact (Below.refl _ _).alloc (Nat.le_refl _) _
  have hsc : wc.heap[wb.heap.size]? = some (.cells #[.int .i64 x.pl, .int .i64 (-1), .int .i64 0, .int .i64 0] 42 (0, 0)) := by rw [hwc]; exact at_new _ _
  have hboxc : wc.heap[rb]? = _ := (hbc.block rb (by omega)).trans hboxb
  have c0a : wc.cell? ⟨rb, 0, none⟩ = some (.slice none 0 0) := cell_of_row wc _ 0 _ _ (0, 0) hboxc
  have f0a : wc.frozen? ⟨rb, 0, none⟩ = false := by simp [World.frozen?, hboxc, go_sem]
  have b5a := Sc.cells_below hbc _ _ b5
  obtain ⟨wd, hwd⟩ : ∃ wd, wd = wc.setCell ⟨rb, 0, none⟩ (.slice (some ⟨wb.heap.size, 0, none⟩) 1 1) := ⟨_, rfl⟩
  have hcd : Chg (fun b => b = rb) w wd := by
    rw [hwd]
    exact ((Chg.of_below hbl).trans (Chg.of_below (S := fun b => b = rb) hbc) (fun _ _ q => q)).trans (Chg.set (S := fun b => b = rb) _ _ _ rfl) (fun _ _ q => q)
  have hboxd : wd.heap[rb]? = some (.cells #[.slice (some ⟨wb.heap.size, 0, none⟩) 1 1, .slice none 0 0, .slice none 0 0, .slice none 0 0, .int .i64 0, .int .i64 0, .slice none 0 0] 72 (0, 0)) := by
    rw [hwd]
    exact heap_setCell_same wc rb 0 _ 72 _ hboxc
  have hsd : wd.heap[wb.heap.size]? = some (.cells #[.int .i64 x.pl, .int .i64 (-1), .int .i64 0, .int .i64 0] 42 (0, 0)) := by
    rw [hwd, Below.heap_setCell wc ⟨rb, 0, none⟩ _ wb.heap.size (by show wb.heap.size ≠ rb; omega)]
    exact hsc
  have b5c : wd.cell? ⟨w.heap.size, 5, none⟩ = some (.slice sl.at' sl.xs.length sl.cap) := by
    rw [hwd, World.cell?_setCell_other _ _ _ _ (by simp)]
    exact b5a
  have hW := hbel.size
  obtain ⟨O, hm, hO⟩ := mem_start (w := wd) (B := W0.heap.size) (rb := rb) (sb := wb.heap.size) (pl := x.pl) hlo (by omega) (by omega) hboxd hsd
  have hon : On W0 rb O (startP x.pl) (.slice none 0 0) wd := ⟨hm, hcd.below hbel hbel.size (fun b q => by rw [q]; exact hlo)⟩
  have hsum : szT (n + 1) ((x, sl) : Nd × Sli (Tr n)) = 1 + (sl.xs.map (szT n)).sum := rfl
  have kb := block_any W0 n (node_all W0 n) wd rb O (startP x.pl) (.slice none 0 0) hon sl ht.1.2.1 (fun y hy => ⟨ht.1.2.2 y hy, ht.2.2.2.2 y hy⟩) (by
      have : cr (startP x.pl) = 1 := rfl
      unfold lim
      omega) (by
      have : dp (startP x.pl) = 0 := rfl
      unfold lim
      omega)
  have HT : Hid (∀ e w', Out wd W0.heap.size rb O (.slice none 0 0) (.tuple #[]) (blockP (ndR n) (resP bi n).1 sl.xs (startP x.pl)) e w' → Out w W0.heap.size rb (fun b => b = rb) (.slice none 0 0) (.tuple #[]) (blockP (ndR n) (resP bi n).1 sl.xs (startP x.pl)) e w') := fun e w' q => Out.then hcd (fun b k => by
    rcases hO b k with r | r
    · exact Or.inl r
    · exact Or.inr (by omega)) q
  have hRR : resolveP bi (n + 1) ((x, sl) : Nd × Sli (Tr n)) = blockP (ndR n) (resP bi n).1 sl.xs (startP x.pl) := rfl
  rw [hRR]
  clear hRR
  generalize blockP (ndR n) (resP bi n).1 sl.xs (startP x.pl) = R at *
  have hne : ¬ rb = wb.heap.size := by omega
  have hne2 : ¬ rb = w.heap.size := by omega
  have HF : Hid (wc = wb.alloc (.cells #[.int .i64 x.pl, .int .i64 (-1), .int .i64 0, .int .i64 0] 42)) := hwc
  rw [hwc] at c0a f0a b5a
  generalize sl.at' = ka at *
  generalize sl.cap = kc at *
  generalize sl.xs.length = kl at *
  clear hbl hX hboxb hbc hsc hboxc hcd hboxd hsd hW hm hO hon hsum ht hsz hn hbel hlo hbox hrl hwl hwc
  go_enter Try.func25, Try.ntmps25
  go_upto_region 1 with fail
  rw [← hwb]
  clear hwb
  go_upto_region 2 with fail
  rw [← HF.out, ← hwd]
  clear c0a f0a b5a c0 f0 b1 b5 hne hne2 HF hwd
  go_wp2_with fail
  refine kb.mono ?_
  intro e w3 ho
  have ho2 := HT.out e w3 ho
  clear kb ho HT b5c
  cases R with
  | error er =>
    obtain ⟨rfl, g⟩ := ho2
    exact ⟨rfl, rfl, g⟩
  | ok s' =>
    obtain ⟨rfl, g⟩ := ho2
    have HG := (show Hid _ from g)
    clear g
    go_wp2_with fail
    go_end0
    exact ⟨rfl, HG.out⟩
end Go.Proofs.Ytihmdcdifakepaa.Rv

/- A right tree has few levels: it is one of Tr 300. -/
namespace Go.Proofs.Ytihmdcdifakepaa.Rv
open Go.RowKit Go.Proofs.Ytihmdcdifakepaa.Sc
set_option linter.unusedVariables false

/-- one tree, told with other levels -/
structure Lk (W : World) (n m : Nat) (t : Tr n) (u : Tr m) : Prop where
  nd : ndT m u = ndT n t
  ad : atT m u = atT n t
  cap : capT m u = capT n t
  nk : nkT m u = nkT n t
  ok : okT n W t → okT m W u
  pt : ∀ p star st, partP m p u star st = partP n p t star st
  hd : ∀ l r, holdsT m l u r = holdsT n l t r

theorem Lk.enc {W : World} {n m : Nat} {t : Tr n} {u : Tr m} (h : Lk W n m t u) : encT m u = encT n t := by
  unfold encT
  rw [h.nd, h.ad, h.cap, h.nk]
theorem Lk.val {W : World} {n m : Nat} {t : Tr n} {u : Tr m} (h : Lk W n m t u) : valT m u = valT n t := by
  unfold valT
  rw [h.nd, h.ad, h.cap, h.nk]

/-- lists whose members are so related, one by one -/
def All2 {α β : Type} (R : α → β → Prop) : List α → List β → Prop
  | [], [] => True
  | a :: l, b :: k => R a b ∧ All2 R l k
  | _, _ => False

theorem All2.len {α β : Type} {R : α → β → Prop} : ∀ {l : List α} {k : List β}, All2 R l k → k.length = l.length
  | [], [], _ => rfl
  | a :: l, b :: k, h => by rw [List.length_cons, List.length_cons, All2.len h.2]
  | [], b :: k, h => h.elim
  | a :: l, [], h => h.elim
theorem All2.get {α β : Type} {R : α → β → Prop} : ∀ {l : List α} {k : List β}, All2 R l k → ∀ (i : Nat) (b : β), k[i]? = some b → ∃ a, l[i]? = some a ∧ R a b
  | [], [], _, i, b, e => by simp at e
  | a :: l, b :: k, h, 0, c, e => ⟨a, rfl, by simp at e; subst e; exact h.1⟩
  | a :: l, b :: k, h, i + 1, c, e => by
    obtain ⟨a', h1, h2⟩ := All2.get h.2 i c (by simpa using e)
    exact ⟨a', by simpa using h1, h2⟩
  | [], b :: k, h, i, c, e => h.elim
  | a :: l, [], h, i, c, e => h.elim
theorem All2.mem {α β : Type} {R : α → β → Prop} {l : List α} {k : List β} (h : All2 R l k) {b : β} (hb : b ∈ k) : ∃ a, a ∈ l ∧ R a b := by
  obtain ⟨i, hi⟩ := List.getElem?_of_mem hb
  obtain ⟨a, h1, h2⟩ := h.get i b hi
  exact ⟨a, List.mem_of_getElem? h1, h2⟩

theorem kd0_same {W : World} {n m : Nat} : ∀ {l : List (Tr n)} {k : List (Tr m)}, All2 (Lk W n m) l k → ∀ i, kd0 (kidT m) k i = kd0 (kidT n) l i
  | [], [], _, i => by unfold kd0; simp
  | a :: l, b :: k, h, 0 => by
    unfold kd0 kidT
    simp only [List.getElem?_cons_zero, Option.map_some, Option.getD_some]
    rw [kd_nd, kd_nd, h.1.nd]
  | a :: l, b :: k, h, i + 1 => by
    have := kd0_same h.2 i
    unfold kd0 at *
    simpa using this
  | [], b :: k, h, i => h.elim
  | a :: l, [], h, i => h.elim

theorem kids_same {W : World} {n m : Nat} (star : Bool) : ∀ {l : List (Tr n)} {k : List (Tr m)}, All2 (Lk W n m) l k → ∀ ps st, kidsP (partP m) star ps k st = kidsP (partP n) star ps l st
  | [], [], _, ps, st => by cases ps <;> rfl
  | a :: l, b :: k, h, [], st => rfl
  | a :: l, b :: k, h, p :: ps, st => by
    unfold kidsP
    rw [h.1.pt]
    congr 1
    funext st2
    exact kids_same star h.2 ps st2
  | [], b :: k, h, ps, st => h.elim
  | a :: l, [], h, ps, st => h.elim

theorem loopH_same {W : World} {n m : Nat} (lv : Nat) : ∀ {l : List (Tr n)} {k : List (Tr m)}, All2 (Lk W n m) l k → ∀ r, loopH (holdsT m lv) k r = loopH (holdsT n lv) l r
  | [], [], _, r => rfl
  | a :: l, b :: k, h, r => by
    unfold loopH
    rw [h.1.hd]
    split
    · exact loopH_same lv h.2 _
    · rfl
  | [], b :: k, h, r => h.elim
  | a :: l, [], h, r => h.elim

theorem right_same {W : World} {n m : Nat} {l : List (Tr n)} {k : List (Tr m)} (h : All2 (Lk W n m) l k) (x : Nd) (star : Bool) (st : St) : rightP (kidT m) (partP m) x k star st = rightP (kidT n) (partP n) x l star st := by
  unfold rightP
  rw [h.len]
  split
  · rfl
  · split
    · rfl
    · have hh : hereP (kidT m) x k star st = hereP (kidT n) x l star st := by
        unfold hereP declB
        rw [kd0_same h 1, kd0_same h 2]
      rw [hh]
      congr 1
      funext st2
      exact kids_same _ h _ _

theorem loopH_all {n : Nat} (lv : Nat) : ∀ (l : List (Tr n)) (r : Nat), (loopH (holdsT n lv) l r).1 = true → ∀ k ∈ l, ∃ r', (holdsT n lv k r').1 = true
  | [], r, h, k, hk => by cases hk
  | a :: l, r, h, k, hk => by
    unfold loopH at h
    split at h
    · rename_i c
      rcases List.mem_cons.1 hk with rfl | hk
      · exact ⟨r, c⟩
      · exact loopH_all lv l _ h k hk
    · cases h

theorem all2_of {α β : Type} {R : α → β → Prop} : ∀ (l : List α), (∀ a ∈ l, ∃ b, R a b) → ∃ k, All2 R l k
  | [], h => ⟨[], trivial⟩
  | a :: l, h => by
    obtain ⟨b, hb⟩ := h a (List.mem_cons_self ..)
    obtain ⟨k, hk⟩ := all2_of l (fun a' ha => h a' (List.mem_cons_of_mem _ ha))
    exact ⟨b :: k, hb, hk⟩

theorem partP_s (n : Nat) (p : UInt8) (x : Nd) (s : Sli (Tr n)) (star : Bool) (st : St) : partP (n + 1) p ((x, s) : Nd × Sli (Tr n)) star st = (if x.kind = 0 then (if mayLackB p = true ∧ s.xs.length = 0 then some st else none) else if isPartB p x.kind = false then none else if p = 110 then (if s.xs.length = 0 then takeD st x.pl else none) else rightP (kidT n) (partP n) x s.xs star st) := rfl
theorem holdsT_s (n lv : Nat) (x : Nd) (s : Sli (Tr n)) (r : Nat) : holdsT (n + 1) lv ((x, s) : Nd × Sli (Tr n)) r = if r = 0 ∨ lv = 0 then (false, r) else loopH (holdsT n (lv - 1)) s.xs (r - 1) := rfl

theorem lk_node {W : World} {n m : Nat} {x : Nd} {s : Sli (Tr n)} {k : List (Tr m)} (h : All2 (Lk W n m) s.xs k) : Lk W (n + 1) (m + 1) ((x, s) : Nd × Sli (Tr n)) ((x, ⟨s.at', s.cap, k⟩) : Nd × Sli (Tr m)) := by
  refine ⟨rfl, rfl, rfl, ?_, ?_, ?_, ?_⟩
  · show k.length = s.xs.length
    exact h.len
  · rintro ⟨o1, o2, o3⟩
    refine ⟨o1, ⟨by show k.length ≤ _; rw [h.len]; exact o2.len, o2.cap, fun h0 => ?_⟩, fun y hy => ?_⟩
    · obtain ⟨b, off, e1, hc⟩ := o2.cells (fun e => by
        have h0' : k ≠ [] := h0
        have := h.len
        rw [e] at this
        exact h0' (List.eq_nil_of_length_eq_zero this))
      refine ⟨b, off, e1, fun i y hi j u hj => ?_⟩
      obtain ⟨a, ha, hl⟩ := h.get i y hi
      rw [hl.enc] at hj
      exact hc i a ha j u hj
    · obtain ⟨a, ha, hl⟩ := h.mem hy
      exact hl.ok (o3 a ha)
  · intro p star st
    have e1 := partP_s n p x s star st
    have e2 := partP_s m p x ⟨s.at', s.cap, k⟩ star st
    refine e2.trans (Eq.trans ?_ e1.symm)
    simp only
    rw [h.len, right_same h]
  · intro l r
    have e1 := holdsT_s n l x s r
    have e2 := holdsT_s m l x ⟨s.at', s.cap, k⟩ r
    refine e2.trans (Eq.trans ?_ e1.symm)
    simp only
    rw [loopH_same (l - 1) h]

end Go.Proofs.Ytihmdcdifakepaa.Rv

/- Whose variable a name is: the program's way and the document's: parts. -/
namespace Go.Proofs.Ytihmdcdifakepaa.Rz
open Go.Proofs.Ytihmdcdifakepaa.Sc
set_option linter.unusedVariables false

abbrev Blk := List (ByteArray × Nat)
/-- the blocks that have names -/
def ne (bs : List Blk) : List Blk := bs.filter fun b => !b.isEmpty

theorem ne_nil (bs : List Blk) : ne ([] :: bs) = ne bs := rfl
theorem ne_cons (h : Blk) (a b : List Blk) (e : ne a = ne b) : ne (h :: a) = ne (h :: b) := by
  unfold ne at *
  rw [List.filter_cons, List.filter_cons, e]

theorem find_ne (nm : ByteArray) : ∀ bs : List Blk, findP nm (ne bs) = findP nm bs
  | [] => rfl
  | [] :: bs => by
    rw [ne_nil, find_ne nm bs]
    rfl
  | (x :: b) :: bs => by
    have : ne ((x :: b) :: bs) = (x :: b) :: ne bs := rfl
    rw [this]
    unfold findP
    rw [find_ne nm bs]

theorem find_same {a b : List Blk} (e : ne a = ne b) (nm : ByteArray) : findP nm a = findP nm b := by rw [← find_ne, e, find_ne]

/-- both know the same -/
structure Core (s r : RS) : Prop where
  scopes : s.scopes = r.scopes
  vars : s.vars = r.vars
  uses : s.uses = r.uses
  fn : s.fn = r.fn

/-- .. and have the same names around; lp: the same loops and labels, too -/
structure Rl (lp : Bool) (s r : RS) : Prop where
  core : Core s r
  blocks : ne s.blocks = ne r.blocks
  side : lp = true → s.loops = r.loops ∧ s.labels = r.labels

/-- .. with the innermost block the same -/
structure Hd (s r : RS) : Prop where
  core : Core s r
  blocks : ∃ h a b, s.blocks = h :: a ∧ r.blocks = h :: b ∧ ne a = ne b
  side : s.loops = r.loops ∧ s.labels = r.labels

theorem Hd.rl {s r : RS} (h : Hd s r) : Rl true s r := by
  obtain ⟨x, a, b, e1, e2, e3⟩ := h.blocks
  exact ⟨h.core, by rw [e1, e2]; exact ne_cons x a b e3, fun _ => h.side⟩

theorem Rl.low {lp : Bool} {s r : RS} (h : Rl lp s r) : Rl false s r := ⟨h.core, h.blocks, fun e => by cases e⟩

theorem Rl.open' {s r : RS} (h : Rl true s r) : Hd (openP s) (openP r) := ⟨⟨h.core.scopes, h.core.vars, h.core.uses, h.core.fn⟩, ⟨[], s.blocks, r.blocks, rfl, rfl, h.blocks⟩, h.side rfl⟩

/-- the same thrown, or both go on alike -/
def Eqv (R : RS → RS → Prop) : Except Er RS → Except Er RS → Prop
  | .error e, .error e' => e = e'
  | .ok s, .ok r => R s r
  | _, _ => False

theorem Eqv.bind {R R' : RS → RS → Prop} {a b : Except Er RS} {f g : RM} (h : Eqv R a b) (hf : ∀ s r, R s r → Eqv R' (f s) (g r)) : Eqv R' (a.bind f) (b.bind g) := by
  cases a with
  | error e => cases b with
    | error e' => exact h
    | ok r => exact h.elim
  | ok s => cases b with
    | error e' => exact h.elim
    | ok r => exact hf s r h

theorem Eqv.mono {R R' : RS → RS → Prop} {a b : Except Er RS} (h : Eqv R a b) (hr : ∀ s r, a = .ok s → b = .ok r → R s r → R' s r) : Eqv R' a b := by
  cases a with
  | error e => cases b with
    | error e' => exact h
    | ok r => exact h.elim
  | ok s => cases b with
    | error e' => exact h.elim
    | ok r => exact hr s r rfl rfl h

/-- what leaves loops and labels as they were -/
theorem Eqv.up {lp : Bool} {s r : RS} {f g : RM} (h : Rl lp s r) (hf : Keeps f) (hg : Keeps g) (e : Eqv (Rl false) (f s) (g r)) : Eqv (Rl lp) (f s) (g r) :=
  e.mono fun s' r' e1 e2 q => by
    have k1 := hf s s' e1
    have k2 := hg r r' e2
    refine ⟨q.core, q.blocks, fun hl => ?_⟩
    obtain ⟨h1, h2⟩ := h.side hl
    exact ⟨by rw [k1.loops, k2.loops, h1], by rw [k1.labels, k2.labels, h2]⟩

theorem eqv_each {α : Type} {lp : Bool} {f g : α → RM} : ∀ (l : List α), (∀ k ∈ l, ∀ s r, Rl lp s r → Eqv (Rl lp) (f k s) (g k r)) → ∀ s r, Rl lp s r → Eqv (Rl lp) (eachP f l s) (eachP g l r)
  | [], _, s, r, h => h
  | k :: l, hk, s, r, h => (hk k (by simp) s r h).bind fun s1 r1 h1 => eqv_each l (fun j hj => hk j (by simp [hj])) s1 r1 h1

theorem vars_same {s r : RS} (h : Core s r) : varsAt s = varsAt r := by unfold varsAt; rw [h.scopes, h.fn]

theorem eqv_decl (nm : ByteArray) (pl kd : Int) (s r : RS) (h : Hd s r) : Eqv Hd (declP nm pl kd s) (declP nm pl kd r) := by
  obtain ⟨x, a, b, e1, e2, e3⟩ := h.blocks
  have g1 : s.blocks.headD [] = r.blocks.headD [] := by rw [e1, e2]; rfl
  unfold declP
  rw [g1, vars_same h.core]
  by_cases c : ((r.blocks.headD []).any fun e => decide (e.1 = nm)) = true
  · rw [if_pos c, if_pos c]
    rfl
  · rw [if_neg c, if_neg c]
    by_cases d : 200 ≤ varsAt r
    · rw [if_pos d, if_pos d]
      rfl
    · rw [if_neg d, if_neg d]
      refine ⟨⟨?_, ?_, h.core.uses, h.core.fn⟩, ⟨(nm, s.vars.length) :: x, a, b, ?_, ?_, e3⟩, h.side⟩
      · show s.scopes.modify s.fn _ = r.scopes.modify r.fn _
        rw [h.core.scopes, h.core.fn]
      · show s.vars ++ [_] = r.vars ++ [_]
        have g2 : (bumpP s).fn = (bumpP r).fn := h.core.fn
        rw [h.core.vars, g2]
      · show (putVarP nm pl kd _ (bumpP s)).blocks = _
        unfold putVarP
        simp only
        have : (bumpP s).blocks = x :: a := e1
        rw [this]
        rfl
      · show (putVarP nm pl kd _ (bumpP r)).blocks = _
        unfold putVarP
        simp only
        have : (bumpP r).blocks = x :: b := e2
        rw [this, h.core.vars]
        rfl

theorem eqv_heads {α : Type} (nd : α → Nd) : ∀ (l : List α) (s r : RS), Hd s r → Eqv Hd (headsP nd l s) (headsP nd l r)
  | [], s, r, h => h
  | k :: l, s, r, h => by
    unfold headsP
    refine Eqv.bind (R := Hd) ?_ fun s1 r1 h1 => eqv_heads nd l s1 r1 h1
    split
    · exact eqv_decl _ _ _ s r h
    · split
      · exact eqv_decl _ _ _ s r h
      · split
        · exact eqv_decl _ _ _ s r h
        · exact h

theorem eqv_pars {α : Type} (nd : α → Nd) : ∀ (l : List α) (s r : RS), Hd s r → Eqv Hd (parsP nd l s) (parsP nd l r)
  | [], s, r, h => h
  | k :: l, s, r, h => (eqv_decl _ _ _ s r h).bind fun s1 r1 h1 => eqv_pars nd l s1 r1 h1

theorem eqv_items {α : Type} (nd : α → Nd) {f g : α → RM} (l : List α) (hk : ∀ k ∈ l, ∀ s r, Rl true s r → Eqv (Rl true) (f k s) (g k r)) (s r : RS) (h : Hd s r) : Eqv (Rl true) (itemsP nd f l s) (itemsP nd g l r) :=
  (eqv_heads nd l s r h).bind fun s1 r1 h1 => eqv_each l hk s1 r1 h1.rl

theorem eqv_block {α : Type} (nd : α → Nd) {f g : α → RM} (hf : ∀ k, Keeps (f k)) (hg : ∀ k, Keeps (g k)) (l : List α) (hk : ∀ k ∈ l, ∀ s r, Rl true s r → Eqv (Rl true) (f k s) (g k r)) (s r : RS) (h : Rl true s r) : Eqv (Rl true) (blockP nd f l s) (blockP nd g l r) := by
  have e : Eqv Core (blockP nd f l s) (blockP nd g l r) := (eqv_items nd l hk _ _ h.open').bind fun s1 r1 h1 => ⟨h1.core.scopes, h1.core.vars, h1.core.uses, h1.core.fn⟩
  refine e.mono fun s' r' e1 e2 q => ?_
  have k1 := keeps_block nd hf l s s' e1
  have k2 := keeps_block nd hg l r r' e2
  obtain ⟨h1, h2⟩ := h.side rfl
  exact ⟨q, by rw [k1.blocks, k2.blocks]; exact h.blocks, fun _ => ⟨by rw [k1.loops, k2.loops, h1], by rw [k1.labels, k2.labels, h2]⟩⟩

theorem eqv_loop {α : Type} {f g : α → RM} (hf : ∀ k, Keeps (f k)) (hg : ∀ k, Keeps (g k)) (l : List α) (hk : ∀ k ∈ l, ∀ s r, Rl true s r → Eqv (Rl true) (f k s) (g k r)) (s r : RS) (h : Rl true s r) : Eqv (Rl true) (loopP f l s) (loopP g l r) := by
  obtain ⟨h1, h2⟩ := h.side rfl
  have h0 : Rl true { s with loops := s.loops + 1 } { r with loops := r.loops + 1 } := ⟨⟨h.core.scopes, h.core.vars, h.core.uses, h.core.fn⟩, h.blocks, fun _ => ⟨by show s.loops + 1 = r.loops + 1; rw [h1], h2⟩⟩
  exact (eqv_each l hk _ _ h0).bind fun s1 r1 q => ⟨⟨q.core.scopes, q.core.vars, q.core.uses, q.core.fn⟩, q.blocks, fun _ => ⟨by show s1.loops - 1 = r1.loops - 1; rw [(q.side rfl).1], (q.side rfl).2⟩⟩

theorem eqv_label {α : Type} {f g : α → RM} (x : Nd) (lead : Bool) (l : List α) (hk : ∀ k ∈ l, ∀ s r, Rl true s r → Eqv (Rl true) (f k s) (g k r)) (s r : RS) (h : Rl true s r) : Eqv (Rl true) (labelP f x lead l s) (labelP g x lead l r) := by
  obtain ⟨h1, h2⟩ := h.side rfl
  unfold labelP
  rw [h2]
  split
  · rfl
  · have h0 : Rl true { s with labels := r.labels ++ [(x.name, lead)] } { r with labels := r.labels ++ [(x.name, lead)] } := ⟨⟨h.core.scopes, h.core.vars, h.core.uses, h.core.fn⟩, h.blocks, fun _ => ⟨h1, rfl⟩⟩
    exact (eqv_each l hk _ _ h0).bind fun s1 r1 q => ⟨⟨q.core.scopes, q.core.vars, q.core.uses, q.core.fn⟩, q.blocks, fun _ => ⟨(q.side rfl).1, rfl⟩⟩

theorem eqv_jump (x : Nd) (s r : RS) (h : Rl true s r) : Eqv (Rl true) (jumpP x s) (jumpP x r) := by
  obtain ⟨h1, h2⟩ := h.side rfl
  unfold jumpP
  rw [h1, h2]
  generalize (if isS x.name [] then decide (0 < r.loops) else r.labels.any fun e => decide (e.1 = x.name) && (e.2 || x.kind == 39)) = b
  cases b with
  | true => exact h
  | false => rfl

theorem eqv_leave {α : Type} {lp : Bool} {f g : α → RM} (x : Nd) (l : List α) (hk : ∀ k ∈ l, ∀ s r, Rl lp s r → Eqv (Rl lp) (f k s) (g k r)) (s r : RS) (h : Rl lp s r) : Eqv (Rl lp) (leaveP f x l s) (leaveP g x l r) := by
  unfold leaveP
  rw [h.core.fn]
  split
  · rfl
  · exact eqv_each l hk s r h

/-- a name that is used -/
theorem eqv_use (bi : ByteArray → Bool) (nm : ByteArray) (pl : Int) (s r : RS) (h : Rl false s r) : Eqv (Rl false) (match useP bi nm pl s with | .error e => .error e | .ok (_, s1) => .ok s1) (useR bi nm pl false r) := by
  unfold useP useR
  rw [find_same h.blocks nm]
  cases findP nm r.blocks with
  | some v =>
    simp only [Bool.false_and, Bool.false_eq_true, if_false]
    rw [h.core.vars, h.core.fn]
    by_cases c : ((r.vars[v]?).map (·.fn)).getD 0 ≠ r.fn
    · rw [if_pos c, if_pos c]
      exact ⟨⟨h.core.scopes, rfl, by show s.uses ++ _ = r.uses ++ _; rw [h.core.uses], rfl⟩, h.blocks, fun e => by cases e⟩
    · rw [if_neg c, if_neg c]
      exact ⟨⟨h.core.scopes, rfl, by show s.uses ++ _ = r.uses ++ _; rw [h.core.uses], rfl⟩, h.blocks, fun e => by cases e⟩
  | none =>
    simp only
    cases bi nm with
    | true => exact ⟨⟨h.core.scopes, h.core.vars, by show s.uses ++ _ = r.uses ++ _; rw [h.core.uses], h.core.fn⟩, h.blocks, fun e => by cases e⟩
    | false => rfl

theorem fixed_cap (v w : Nat) (s : RS) : ((capP w s).vars[v]?).map (fun x => x.kind == 2 || x.kind == 5) = (s.vars[v]?).map (fun x => x.kind == 2 || x.kind == 5) := by
  unfold capP
  simp only [List.getElem?_modify]
  cases s.vars[v]? with
  | none => rfl
  | some y =>
    by_cases c : w = v <;> simp [c]

/-- a name that gets something -/
theorem eqv_written (bi : ByteArray → Bool) (nm : ByteArray) (pl : Int) (s r : RS) (h : Rl false s r) :
    Eqv (Rl false) (match useP bi nm pl s with | .error e => .error e | .ok (v, s1) => if staysP v s1 then .error (pl, 74) else .ok s1) (useR bi nm pl true r) := by
  unfold useP useR
  rw [find_same h.blocks nm]
  cases findP nm r.blocks with
  | some v =>
    simp only [Bool.true_and]
    have hst : ∀ u : List Us, staysP (some v) (if ((s.vars[v]?).map (·.fn)).getD 0 ≠ s.fn then capP v { s with uses := u } else { s with uses := u }) = fixedR v r := by
      intro u
      unfold staysP fixedR
      simp only
      split
      · rw [fixed_cap]
        show ((s.vars[v]?).map _).getD false = _
        rw [h.core.vars]
      · show ((s.vars[v]?).map _).getD false = _
        rw [h.core.vars]
    rw [hst]
    cases fixedR v r with
    | true => rfl
    | false =>
      simp only [Bool.false_eq_true, if_false]
      rw [h.core.vars, h.core.fn]
      by_cases c : ((r.vars[v]?).map (·.fn)).getD 0 ≠ r.fn
      · rw [if_pos c, if_pos c]
        exact ⟨⟨h.core.scopes, rfl, by show s.uses ++ _ = r.uses ++ _; rw [h.core.uses], rfl⟩, h.blocks, fun e => by cases e⟩
      · rw [if_neg c, if_neg c]
        exact ⟨⟨h.core.scopes, rfl, by show s.uses ++ _ = r.uses ++ _; rw [h.core.uses], rfl⟩, h.blocks, fun e => by cases e⟩
  | none =>
    simp only
    cases bi nm with
    | true => rfl
    | false => rfl

end Go.Proofs.Ytihmdcdifakepaa.Rz

/- Whose variable a name is: functions, and which trees are right. -/
namespace Go.Proofs.Ytihmdcdifakepaa.Rz
open Go.Proofs.Ytihmdcdifakepaa.Sc
set_option linter.unusedVariables false

theorem enter_hd {lp : Bool} (x : Nd) (many : Nat) (s r : RS) (h : Rl lp s r) : Hd (enterP x many s) (enterR x many r) := by
  unfold enterP enterR
  cases selfB x with
  | true =>
    simp only [if_true]
    refine ⟨⟨?_, ?_, h.core.uses, ?_⟩, ⟨[], _, _, rfl, rfl, ?_⟩, rfl, rfl⟩
    · show s.scopes ++ _ = r.scopes ++ _
      rw [h.core.scopes, h.core.fn]
    · show s.vars ++ [_] = r.vars ++ [_]
      rw [h.core.vars]
      congr 2
      show Vr.mk _ _ _ s.scopes.length _ _ = Vr.mk _ _ _ r.scopes.length _ _
      rw [h.core.scopes]
    · show s.scopes.length = r.scopes.length
      rw [h.core.scopes]
    · show ne ([(x.name, s.vars.length)] :: s.blocks) = ne ([(x.name, r.vars.length)] :: r.blocks)
      rw [h.core.vars]
      exact ne_cons _ _ _ h.blocks
  | false =>
    simp only [Bool.false_eq_true, if_false]
    refine ⟨⟨?_, h.core.vars, h.core.uses, ?_⟩, ⟨[], _, _, rfl, rfl, ?_⟩, rfl, rfl⟩
    · show s.scopes ++ _ = r.scopes ++ _
      rw [h.core.scopes, h.core.fn]
    · show s.scopes.length = r.scopes.length
      rw [h.core.scopes]
    · show ne ([] :: s.blocks) = ne r.blocks
      rw [ne_nil]
      exact h.blocks

theorem bump_hd {s r : RS} (h : Hd s r) : Hd (bumpP s) (bumpP r) :=
  ⟨⟨by show s.scopes.modify s.fn _ = r.scopes.modify r.fn _; rw [h.core.scopes, h.core.fn], h.core.vars, h.core.uses, h.core.fn⟩, h.blocks, h.side⟩

theorem eqv_function {α : Type} {lp : Bool} (nd : α → Nd) {f g : α → RM} (hf : ∀ k, Tails (f k)) (hg : ∀ k, Tails (g k)) (x : Nd) (l : List α)
    (hk : ∀ b, l.getLast? = some b → ∀ s r, Hd s r → Eqv Core (f b s) (g b r)) (s r : RS) (h : Rl lp s r) : Eqv (Rl lp) (functionP nd f x l s) (functionR nd g x l r) := by
  have e : Eqv Core (functionP nd f x l s) (functionR nd g x l r) := by
    unfold functionP functionR
    rw [h.core.scopes]
    by_cases c : r.scopes.length = 200
    · rw [if_pos c, if_pos c]
      rfl
    · rw [if_neg c, if_neg c]
      cases hl : l.getLast? with
      | none => exact h.core
      | some b =>
        simp only
        refine (eqv_pars nd _ _ _ (enter_hd x _ s r h)).bind fun s1 r1 h1 => ?_
        have h2 : Hd (if selfB x then bumpP s1 else s1) (if selfB x then bumpP r1 else r1) := by
          cases selfB x with
          | true => exact bump_hd h1
          | false => exact h1
        exact (hk b hl _ _ h2).bind fun s2 r2 q => ⟨q.scopes, q.vars, q.uses, h.core.fn⟩
  refine e.mono fun s' r' e1 e2 q => ?_
  have k1 := keeps_functionP nd hf x l s s' e1
  have k2 := keeps_functionR nd hg x l r r' e2
  refine ⟨q, by rw [k1.blocks, k2.blocks]; exact h.blocks, fun hl => ?_⟩
  obtain ⟨h1, h2⟩ := h.side hl
  exact ⟨by rw [k1.loops, k2.loops, h1], by rw [k1.labels, k2.labels, h2]⟩

/-- a tree that may stand as such a part -/
def Good (n : Nat) (p : UInt8) (t : Tr n) : Prop := ∃ star st st', partP n p t star st = some st'

theorem kids_good {α : Type} (f : UInt8 → α → Bool → St → Option St) (star : Bool) : ∀ (ps : List UInt8) (ks : List α) (st st' : St), kidsP f star ps ks st = some st' →
    ∀ (i : Nat) (p : UInt8) (k : α), ps[i]? = some p → ks[i]? = some k → ∃ st st', f p k star st = some st'
  | [], ks, st, st', h, i, p, k, hp, hk => by simp at hp
  | p0 :: ps, [], st, st', h, i, p, k, hp, hk => by simp at hk
  | p0 :: ps, k0 :: ks, st, st', h, i, p, k, hp, hk => by
    unfold kidsP at h
    obtain ⟨s1, h1, h2⟩ := Option.bind_eq_some_iff.1 h
    cases i with
    | zero =>
      simp at hp hk
      subst hp hk
      exact ⟨st, s1, h1⟩
    | succ i => exact kids_good f star ps ks s1 st' h2 i p k (by simpa using hp) (by simpa using hk)

/-- what a right tree is made of -/
theorem good_parts (n : Nat) (p : UInt8) (t : Tr (n + 1)) (h : Good (n + 1) p t) :
    (t.1.kind = 0 ∧ mayLackB p = true ∧ t.2.xs = []) ∨ (t.1.kind ≠ 0 ∧ isPartB p t.1.kind = true ∧ (p = 110 ∨ ((partsI t.1.kind t.2.xs.length).length = t.2.xs.length ∧ ∀ (i : Nat) (q : UInt8) (k : Tr n), (partsI t.1.kind t.2.xs.length)[i]? = some q → t.2.xs[i]? = some k → Good n q k))) := by
  obtain ⟨star, st, st', h⟩ := h
  obtain ⟨x, s⟩ := t
  simp only [partP] at h
  split at h
  · rename_i c
    split at h
    · rename_i d
      exact Or.inl ⟨c, d.1, List.length_eq_zero_iff.1 d.2⟩
    · cases h
  · rename_i c
    split at h
    · cases h
    · rename_i d
      refine Or.inr ⟨c, by simpa using d, ?_⟩
      split at h
      · rename_i e
        exact Or.inl e
      · refine Or.inr ?_
        unfold rightP at h
        split at h
        · cases h
        · rename_i e1
          split at h
          · cases h
          · obtain ⟨s1, h1, h2⟩ := Option.bind_eq_some_iff.1 h
            refine ⟨by simpa using e1, fun i q k hq hk => ?_⟩
            obtain ⟨a, b, hab⟩ := kids_good _ _ _ _ _ _ h2 i q k hq hk
            exact ⟨_, a, b, hab⟩

/-- all kids of a node whose parts are all of some letters -/
theorem good_all {n : Nat} {ps : List UInt8} {ks : List (Tr n)} (hl : ps.length = ks.length) (hg : ∀ (i : Nat) (q : UInt8) (k : Tr n), ps[i]? = some q → ks[i]? = some k → Good n q k) (P : UInt8 → Prop) (hp : ∀ q ∈ ps, P q) : ∀ k ∈ ks, ∃ q, P q ∧ Good n q k := by
  intro k hk
  obtain ⟨i, hi, e⟩ := List.getElem_of_mem hk
  have h1 : ks[i]? = some k := by rw [List.getElem?_eq_getElem hi, e]
  have h2 : ps[i]? = some (ps[i]'(by omega)) := List.getElem?_eq_getElem _
  exact ⟨_, hp _ (List.getElem_mem _), hg i _ k h2 h1⟩

end Go.Proofs.Ytihmdcdifakepaa.Rz

/- Right trees fit. -/
namespace Go.Proofs.Ytihmdcdifakepaa.Rv
open Go.RowKit Go.Proofs.Ytihmdcdifakepaa.Sc Go.Proofs.Ytihmdcdifakepaa.Rz
set_option linter.unusedVariables false

theorem parts_len {k : Int} {n : Nat} (h : (partsI k n).length = n) : ((k = 21 ∨ k = 17 ∨ k = 12 ∨ k = 33 ∨ k = 41 ∨ k = 38 ∨ k = 43) → 1 ≤ n) ∧ (k = 38 → n = 2) ∧ (k = 43 → n = 3) := by
  refine ⟨fun q => ?_, fun q => ?_, fun q => ?_⟩
  · rcases q with rfl | rfl | rfl | rfl | rfl | rfl | rfl
    · simp [partsI] at h; omega
    · simp [partsI] at h; omega
    · simp [partsI] at h; omega
    · simp [partsI] at h; omega
    · simp [partsI] at h; omega
    · simp [partsI] at h; omega
    · simp [partsI] at h; omega
  · subst q; simp [partsI] at h; omega
  · subst q; simp [partsI] at h; omega

theorem name_kind {k : Int} (h : isPartB 110 k = true) : k = 3 := by
  unfold isPartB at h
  simpa using h

theorem fit_good : ∀ (n : Nat) (p : UInt8) (t : Tr n), Rz.Good n p t → Fit n t
  | 0, p, t, h => nomatch (t : Empty)
  | n + 1, p, (x, s), ⟨star, st, st', h⟩ => by
    simp only [partP] at h
    split at h
    · rename_i c
      split at h
      · rename_i d
        have hx : s.xs = [] := List.length_eq_zero_iff.1 d.2
        refine ⟨fun q => by omega, fun q => by omega, fun q => by omega, fun k hk => by rw [hx] at hk; cases hk⟩
      · cases h
    · rename_i c
      split at h
      · cases h
      · rename_i d
        split at h
        · rename_i e
          subst e
          have hk3 := name_kind (by simpa using d : isPartB 110 x.kind = true)
          split at h
          · rename_i e0
            have hx : s.xs = [] := List.length_eq_zero_iff.1 e0
            refine ⟨fun q => by omega, fun q => by omega, fun q => by omega, fun k hk => by rw [hx] at hk; cases hk⟩
          · cases h
        · unfold rightP at h
          split at h
          · cases h
          · rename_i e1
            split at h
            · cases h
            · obtain ⟨s1, h1, h2⟩ := Option.bind_eq_some_iff.1 h
              have hl : (partsI x.kind s.xs.length).length = s.xs.length := by simpa using e1
              obtain ⟨l1, l2, l3⟩ := parts_len hl
              refine ⟨l1, l2, l3, fun k hk => ?_⟩
              obtain ⟨i, hi⟩ := List.getElem?_of_mem hk
              have hil : i < (partsI x.kind s.xs.length).length := by rw [hl]; exact (List.getElem?_eq_some_iff.1 hi).1
              obtain ⟨a, b, hab⟩ := kids_good _ _ _ _ _ _ h2 i _ k (List.getElem?_eq_getElem hil) hi
              exact fit_good n _ k ⟨_, a, b, hab⟩
end Go.Proofs.Ytihmdcdifakepaa.Rv
