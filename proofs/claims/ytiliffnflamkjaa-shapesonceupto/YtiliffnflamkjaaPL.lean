/- Keys, Move, New. -/
import Derived.Test.YtiliffnflamkjaaPK
namespace Go.Proofs.Ytiliffnflamkjaa.Sp
open Go.RowKit
set_option linter.unusedVariables false

def keysOf (L : List Sh) (n : Int) : List ByteArray := ((shOf L n).map Sh.ks).getD []

theorem props_at {S : Sh} (hf : S.fs.length = S.ks.length) (i : Nat) (hi : i < S.ks.length) : ∃ k f, S.ks[i]? = some k ∧ S.fs[i]? = some f ∧ (propsOf S)[i]? = some ⟨k, f, true⟩ := by
  have h1 := List.getElem?_eq_getElem hi
  have h2 := List.getElem?_eq_getElem (show i < S.fs.length by omega)
  refine ⟨_, _, h1, h2, ?_⟩
  unfold propsOf
  rw [List.getElem?_map, show (S.ks.zip S.fs)[i]? = some (S.ks[i], S.fs[i]'(by omega)) from List.getElem?_zip_eq_some.2 ⟨h1, h2⟩]
  rfl

theorem take_at {α : Type} (l : List α) (k : Nat) (y : α) (h : l[k]? = some y) : l.take (k + 1) = l.take k ++ [y] := by
  rw [List.take_add_one, h]
  rfl

theorem B2 (w : World) (o1 o2 : Obj) : Below w.heap.size w ((w.alloc o1).alloc o2) := below_new (below_new (Below.refl _ _) (Nat.le_refl _) _) (by rw [size_new]; omega) _
theorem at_two (w : World) (o1 o2 : Obj) : ((w.alloc o1).alloc o2).heap[w.heap.size + 1]? = some o2 := by
  have := at_new (w.alloc o1) o2
  rw [size_new] at this
  exact this

structure KyAt (w wr : World) (S : Sh) (g i : Nat) (v : Value) : Prop where
  le : i ≤ S.ks.length
  own : OwnR strC 1 9 w.heap.size wr v (S.ks.take i)
  pr : PrAt wr g (propsOf S)
  ne : v.ownBlock ≠ some g
  bel : Below w.heap.size w wr

set_option maxRecDepth 100000 in
set_option maxHeartbeats 4000000 in
theorem keys_any (w : World) (B tb : Nat) (O : Nat → Prop) (most : Int) (L : List Sh) (h : Tree w B tb O most L) (n : Int) :
    Calls Try.prog 13 #[.pointer (some ⟨tb, 0, none⟩), .int .i64 n] w fun e w' => ∃ v, e = .returned v ∧ OwnR strC 1 9 w.heap.size w' v (keysOf L n) ∧ Below w.heap.size w w' := by
  have kc := there_any w B tb O most L h n
  cases ht : thereB L n with
  | false =>
    rw [ht] at kc
    have e0 : keysOf L n = [] := by unfold keysOf; rw [there_not ht]; rfl
    rw [e0]
    clear h
    go_enter Try.func13, Try.ntmps13
    go_wp2_with fail
    refine kc.mono ?_
    rintro e w2 ⟨rfl, rfl⟩
    clear kc
    go_wp2_with fail
    go_ret
    exact ⟨_, rfl, OwnR.nil _ _, Below.refl _ _⟩
  | true =>
    rw [ht] at kc
    obtain ⟨j, S, rfl, hs, hs2, hj⟩ := there_of ht
    have e0 : keysOf L j = S.ks := by unfold keysOf; rw [hs2]; rfl
    rw [e0]
    have kp := props_any w B tb O most L h j S hs
    obtain ⟨T, v, mb, h⟩ := h
    have hcap := h.cap
    have hfin := h.rel.fin hs
    have hkl := hfin.kl
    have HF : Hid (S.fs.length = S.ks.length ∧ S.ks.length ≤ 1700000000000) := ⟨hfin.fl, by unfold top at hcap; omega⟩
    have hks : (S.ks.length : Int) ≤ 1700000000000 := by unfold top at hcap; omega
    clear h hs hs2 e0 hcap hfin hkl ht
    go_enter Try.func13, Try.ntmps13
    go_wp2_with fail
    refine kc.mono ?_
    rintro e w2 ⟨rfl, rfl⟩
    clear kc
    go_wp2_with fail
    refine kp.mono ?_
    rintro e w3 ⟨g, rfl, hpr, hgl, hb3⟩
    have HI : Hid (KyAt w2 w3 S g 0 (.slice none 0 0)) := ⟨Nat.zero_le _, OwnR.nil _ _, hpr, by simp [Value.ownBlock], hb3⟩
    clear kp hpr hb3
    go_wp2_with fail
    go_loopw [5, 16] (fun v i wr => ∃ m : Nat, KyAt w2 wr S g m v ∧ i = .int .i64 m) (fun v i wr => S.ks.length - (intOf i).toNat)
    case atStart => exact ⟨0, HI.out, rfl⟩
    case round =>
      clear HI
      obtain ⟨m, hr, rfl⟩ := hrel
      have HR := (show Hid _ from hr)
      have ple := hr.le
      clear hr
      rcases Nat.lt_or_ge m S.ks.length with c | c
      · obtain ⟨ky, fl, k1, k2, k3⟩ := props_at HF.out.1 m c
        obtain ⟨p0, _⟩ := HR.out.pr.cell m _ k3 0 _ rfl
        obtain ⟨p1, _⟩ := HR.out.pr.cell m _ k3 1 _ rfl
        obtain ⟨p2, _⟩ := HR.out.pr.cell m _ k3 2 _ rfl
        rw [Nat.add_zero] at p0
        simp only at p0 p1 p2
        have HK : Hid (S.ks[m]? = some ky) := k1
        clear k1 k2 k3
        go_wp2_with (at_builtin; refine app_row rtStr rfl _ _ rfl w2.heap.size _ (S.ks.take m) rfl ?o1 ⟨some ⟨wr.heap.size + 1, 0, none⟩, 1, [ky]⟩ rfl ?o2 ?o3 ?o4 ?o5 ?_)
        case o1 => exact HR.out.own.below (B2 wr _ _)
        case o2 => exact one_sli rtStr (at_two wr _ _) rfl
        case o3 => have := HF.out.2; unfold maxLen; (try simp only [List.length_take, List.length_singleton]); omega
        case o4 => have := HF.out.2; (try simp only [List.length_take, List.length_singleton]); omega
        case o5 => have := (B2 wr (.cells #[.string ky, .int .i64 fl, .bool true] 63) (.cells #[.string ky] 9)).size; have h5 := HR.out.bel.size; omega
        intro v' w5 ho5 hg5 hl5
        have hp5 : PrAt w5 g (propsOf S) := (HR.out.pr.kept (S := fun _ => False) (Chg.of_below (B2 wr _ _)) id).kept (S := fun b => u5.ownBlock = some b) (Chg.of_grown hg5 (fun k q => q)) (fun q => HR.out.ne q)
        have hb5 : Below w2.heap.size w2 w5 := Chg.below (Chg.of_grown (S := fun b => u5.ownBlock = some b) hg5 (fun k q => q)) (HR.out.bel.trans ((B2 wr _ _).mono HR.out.bel.size)) (by have := (B2 wr (.cells #[.string ky, .int .i64 fl, .bool true] 63) (.cells #[.string ky] 9)).size; have h5 := HR.out.bel.size; omega) (fun k q => (HR.out.own.lt k q).1)
        have HN : Hid (KyAt w2 w5 S g (m + 1) v') := ⟨c, by rw [take_at _ _ _ HK.out]; exact ho5, hp5, by
          rcases hl5 with q | q
          · rw [q]; exact HR.out.ne
          · rw [q]
            have h1 := HR.out.pr.lt
            have h2 := (B2 wr (.cells #[.string ky, .int .i64 fl, .bool true] 63) (.cells #[.string ky] 9)).size
            intro e
            have := Option.some.inj e
            omega, hb5⟩
        clear hp5 hb5 ho5 hg5 hl5 HR HK p0 p1 p2
        go_wp2_with fail
        refine ⟨⟨m + 1, HN.out, by go_num⟩, ?_⟩
        simp [intOf]
        omega
      · have hm : m = S.ks.length := by omega
        go_wp2_with fail
        go_ret
        refine ⟨_, rfl, ?_, HR.out.bel⟩
        have := HR.out.own
        rw [hm, List.take_length] at this
        exact this

end Go.Proofs.Ytiliffnflamkjaa.Sp
