/- Package lex: run, with whatever closure. -/
import Derived.Test.YtaikkmehmiiffaaGreatDoorProg
import Derived.WalkKit
import Derived.WalkSpells
import Derived.WalkLawsBesides
import Derived.BigQuiet
import Derived.Below
import Derived.Laws.RangeAny
import Derived.Test.YtaikkmehmiiffaaGreatDoorLP
namespace Go.Proofs.YtaikkmehmiiffaaGreatDoor.Lx
open Go.RowKit
set_option linter.unusedVariables false

def bs (l : List UInt8) : ByteArray := ⟨l.toArray⟩

/-- a world in which an iterator stands elsewhere -/
def setIt (w : World) (b : Nat) (s : ByteArray) (pos : Nat) : World := { w with heap := w.heap.setIfInBounds b (.stringIter s pos) }

theorem setIt_heap (w : World) (b : Nat) (s : ByteArray) (pos : Nat) (h : b < w.heap.size) : (setIt w b s pos).heap[b]? = some (.stringIter s pos) := by
  unfold setIt
  simp [h]

theorem setIt_other (w : World) (b k : Nat) (s : ByteArray) (pos : Nat) (h : k ≠ b) : (setIt w b s pos).heap[k]? = w.heap[k]? := by
  unfold setIt
  simp [Ne.symm h]

theorem setIt_size (w : World) (b : Nat) (s : ByteArray) (pos : Nat) : (setIt w b s pos).heap.size = w.heap.size := by
  unfold setIt
  simp

theorem next_at {P : Program} (w : World) (b : Nat) (s : ByteArray) (pos : Nat) (ty : TypeId) (hb : w.heap[b]? = some (.stringIter s pos)) (h : pos < s.size) :
    (Instr.next (.pointer (some ⟨b, 0, none⟩)) true ty).run P w =
      .ok (.tuple #[.bool true, .int .i64 pos, .int .i32 (Utf8.decode s pos).1]) (setIt w b s (pos + (Utf8.decode s pos).2)) := by
  simp only [Instr.next, getObj, setObj, Sem.run_bind, Sem.run, hb, Result.andThen, h, if_true]
  simp [goInt, setIt]

theorem next_end {P : Program} (w : World) (b : Nat) (s : ByteArray) (pos : Nat) (ty : TypeId) (hb : w.heap[b]? = some (.stringIter s pos)) (h : ¬ pos < s.size) :
    (Instr.next (.pointer (some ⟨b, 0, none⟩)) true ty).run P w = .ok (.tuple #[.bool false]) w := by
  simp [Instr.next, getObj, Sem.run, hb, h]

theorem enters {P : Program} {f : FuncId} {fn : Func} {c : Code} (hf : P.funcs[f]? = some fn) (hname : (fn.name == "runtime.NumGoroutine") = false) (hb : fn.body = some c) (args : Array Value) (w : World) :
    (callFunc f args).run P w = .ok (.enter f args) w := by
  have h1 : fn.name ≠ "runtime.NumGoroutine" := by simpa using hname
  simp [callFunc, hf, h1, hb]

/-- what run asks of a closure: it says what g says, in each world of the state that In tells, and leaves what lies from N on -/
structure Clo {σ : Type} (N : Nat) (In : σ → World → Prop) (g : σ → Nat → σ × Bool) (f : Nat) (cap : Array Value) : Prop where
  call : ∀ st c w, N ≤ w.heap.size → In st w → c < 2147483648 → Calls Tryz.prog f (#[.int .i32 (c : Int)] ++ cap) w fun e w' => e = .returned (.bool (g st c).2) ∧ In (g st c).1 w' ∧ w.heap.size ≤ w'.heap.size ∧ ∀ k, N ≤ k → k < w.heap.size → w'.heap[k]? = w.heap[k]?
  ent : ∀ args w, (callFunc f args).run Tryz.prog w = .ok (.enter f args) w
  it : ∀ st w b s pos, N ≤ b → In st w → In st (setIt w b s pos)
  new : ∀ st w s, In st w → In st (w.iter s 0)
  drew : ∀ st w, In st w → In st w.drew

structure RunAt {σ : Type} (N : Nat) (In : σ → World → Prop) (g : σ → Nat → σ × Bool) (s : ByteArray) (B : Nat) (st0 : σ) (wr : World) (k : Nat) (st : σ) : Prop where
  le : k ≤ s.size
  it : wr.heap[B]? = some (.stringIter s k)
  ins : In st wr
  val : goOn g st0 s.data.toList = ((goOn g st (s.data.toList.drop k)).1 + k, (goOn g st (s.data.toList.drop k)).2)

theorem at_k (s : ByteArray) (k : Nat) (h : k < s.size) : s.data.toList.drop k = s[k] :: s.data.toList.drop (k + 1) := by
  have h' : k < s.data.toList.length := by simpa using h
  rw [List.drop_eq_getElem_cons h']
  rfl

theorem size_len (s : ByteArray) : s.size = s.data.toList.length := by rw [Array.length_toList]; rfl

set_option maxHeartbeats 2000000 in
set_option maxRecDepth 100000 in
theorem run_any {σ : Type} (N : Nat) (In : σ → World → Prop) (g : σ → Nat → σ × Bool) (f : Nat) (cap : Array Value) (C : Clo N In g f cap) (s : ByteArray) (st0 : σ) (w : World)
    (hs : s.size ≤ 1000000) (hN : N ≤ w.heap.size) (hI : In st0 w)
    (hA : (∀ c ∈ s.data.toList, c.toNat < 128) ∨ (∀ st c c', 128 ≤ c → 128 ≤ c' → g st c = g st c' ∧ (g st c).2 = false)) :
    Calls Tryz.prog 15 #[.string s, .func (Fn.func f) #[] cap] w fun e w' => e = .returned (.int .i64 ((goOn g st0 s.data.toList).1 : Nat)) ∧ In (goOn g st0 s.data.toList).2 w' := by
  have HA : Hid ((∀ c ∈ s.data.toList, c.toNat < 128) ∨ (∀ st c c', 128 ≤ c → 128 ≤ c' → g st c = g st c' ∧ (g st c).2 = false)) := hA
  have HI : Hid (RunAt N In g s w.heap.size st0 (w.iter s 0) 0 st0) := ⟨Nat.zero_le _, World.iter_heap w s 0, C.new _ _ _ hI, by show goOn g st0 s.data.toList = ((goOn g st0 (s.data.toList.drop 0)).1 + 0, (goOn g st0 (s.data.toList.drop 0)).2); simp⟩
  have HN : Hid (N ≤ w.heap.size) := hN
  have HC : Hid (Clo N In g f cap) := C
  have HZ : Hid (w.heap.size < (w.iter s 0).heap.size) := by show _ < _; unfold World.iter World.alloc; simp
  clear hA C hI
  go_enter Tryz.func15, Tryz.ntmps15
  go_wp2_with fail
  generalize w.iter s 0 = w1 at *
  go_loopw [] (fun wr => ∃ k st, RunAt N In g s w.heap.size st0 wr k st ∧ w.heap.size < wr.heap.size) (fun wr => s.size - wr.iterPos w.heap.size)
  case atStart => exact ⟨0, st0, HI.out, HZ.out⟩
  case round =>
    obtain ⟨k, st, hr, hz⟩ := hrel
    have HIP : Hid (wr.iterPos w.heap.size = k) := by show _ = _; unfold World.iterPos; rw [hr.it]
    have kl := hr.le
    rcases Nat.lt_or_ge k s.size with hk | hk
    · have hd := at_k s k hk
      have hv := hr.val
      rw [hd] at hv
      obtain ⟨r, n, hdec, hr31, hgr, hyes⟩ : ∃ r n, Utf8.decode s k = (r, n) ∧ r < 2147483648 ∧ g st r = g st (s[k]).toNat ∧ ((g st r).2 = true → n = 1) := by
        rcases Nat.lt_or_ge (s[k]).toNat 128 with ha | ha
        · exact ⟨(s[k]).toNat, 1, decode_ascii s k hk ha, by omega, rfl, fun _ => rfl⟩
        · have dh := decode_high s k hk ha
          have dl := decode_le s k
          rcases HA.out with h | h
          · have := h (s[k]) (by have : s[k] ∈ s.data.toList.drop k := by rw [hd]; simp
                                 exact List.mem_of_mem_drop this)
            omega
          · refine ⟨(Utf8.decode s k).1, (Utf8.decode s k).2, rfl, by omega, (h st _ _ dh.1 ha).1, ?_⟩
            intro e
            rw [(h st _ _ dh.1 ha).2] at e
            exact Bool.noConfusion e
      have hnx : ∀ ty, (Instr.next (.pointer (some ⟨w.heap.size, 0, none⟩)) true ty).run Tryz.prog wr = .ok (.tuple #[.bool true, .int .i64 k, .int .i32 (r : Int)]) (setIt wr w.heap.size s (k + n)) := by
        intro ty
        have := next_at (P := Tryz.prog) wr w.heap.size s k ty hr.it hk
        rw [hdec] at this
        exact this
      have hin : In st (setIt wr w.heap.size s (k + n)) := HC.out.it _ _ _ _ _ HN.out hr.ins
      have hz1 : w.heap.size < (setIt wr w.heap.size s (k + n)).heap.size := by rw [setIt_size]; exact hz
      have hit := setIt_heap wr w.heap.size s (k + n) hz
      generalize setIt wr w.heap.size s (k + n) = w2 at *
      have hcf := HC.out.ent
      have cc := HC.out.call st r w2 (by have := HN.out; omega) hin hr31
      rw [hgr] at cc hyes
      cases hb : (g st (s[k]).toNat).2 with
      | true =>
        rw [goOn, if_pos hb] at hv
        rw [hb] at cc
        have hn := hyes hb
        subst hn
        have NX : ∀ w3, In (g st (s[k]).toNat).1 w3 → w3.heap[w.heap.size]? = some (.stringIter s (k + 1)) → RunAt N In g s w.heap.size st0 w3 (k + 1) (g st (s[k]).toNat).1 := by
          intro w3 h1 h2
          refine ⟨hk, h2, h1, ?_⟩
          rw [hv]
          congr 1
          omega
        generalize (g st (s[k]).toNat).1 = st2 at *
        have HNX : Hid (∀ w3, In st2 w3 → w3.heap[w.heap.size]? = some (.stringIter s (k + 1)) → RunAt N In g s w.heap.size st0 w3 (k + 1) st2) := NX
        have HT : Hid (w2.heap[w.heap.size]? = some (.stringIter s (k + 1))) := hit
        have HZ2 : Hid (w.heap.size < w2.heap.size) := hz1
        clear NX hit hr hv hd hdec hgr hyes hz hz1 HZ hin hb hr31
        go_wp2_with fail
        refine cc.mono ?_
        rintro e w3 ⟨rfl, h1, h2, h3⟩
        have ht := HT.out
        have hz2 := HZ2.out
        have h4 := h3 w.heap.size HN.out hz2
        rw [ht] at h4
        have R := HNX.out w3 h1 h4
        have hsz : w.heap.size < w3.heap.size := by omega
        have ip3 : w3.iterPos w.heap.size = k + 1 := by unfold World.iterPos; rw [h4]
        go_wp2_with fail
        refine ⟨⟨k + 1, st2, R, hsz⟩, ?_⟩
        have ip := HIP.out
        omega
      | false =>
        rw [goOn, if_neg (by rw [hb]; decide)] at hv
        rw [hb] at cc
        have HV : Hid (goOn g st0 s.data.toList = (k, (g st (s[k]).toNat).1)) := by show _ = _; rw [hv]; simp
        generalize (g st (s[k]).toNat).1 = st2 at *
        clear hit hr hv hd hdec hgr hyes hz hz1 HZ hin hb hr31
        go_wp2_with fail
        refine cc.mono ?_
        rintro e w3 ⟨rfl, h1, h2, h3⟩
        go_wp2_with fail
        go_ret
        rw [HV.out]
        exact ⟨rfl, h1⟩
    · have hks : k = s.size := by omega
      subst hks
      have hv := hr.val
      rw [List.drop_of_length_le (by rw [← size_len]; omega), goOn] at hv
      have HV : Hid (goOn g st0 s.data.toList = (s.size, st)) := by show _ = _; rw [hv]; simp
      have hnx : ∀ ty, (Instr.next (.pointer (some ⟨w.heap.size, 0, none⟩)) true ty).run Tryz.prog wr = .ok (.tuple #[.bool false]) wr := fun ty => next_end wr w.heap.size s s.size ty hr.it (by omega)
      have HI2 : Hid (In st wr) := hr.ins
      clear hr hv hz
      go_wp2_with fail
      go_ret
      rw [HV.out]
      exact ⟨rfl, HI2.out⟩

end Go.Proofs.YtaikkmehmiiffaaGreatDoor.Lx
