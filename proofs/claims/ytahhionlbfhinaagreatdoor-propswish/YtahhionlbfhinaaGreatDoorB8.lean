/- Words: tags and what they bear. -/
import Derived.Test.YtahhionlbfhinaaGreatDoorB1
import Derived.Laws.BitsAllLaws
import Derived.Test.YtahhionlbfhinaaGreatDoorB3
import Derived.Test.YtahhionlbfhinaaGreatDoorCN
namespace Go.Proofs.YtahhionlbfhinaaGreatDoor.Hp
open Go.RowKit
set_option linter.unusedVariables false

theorem or_tag (t n : Int) (t0 : 0 ≤ t) (t1 : t < 65536) (n0 : 0 ≤ n) (n1 : n < 4294967296) : bits .or .u64 (t * 281474976710656) n = t * 281474976710656 + n := by
  rw [u64_or _ _ (by omega) (by omega) (by omega) (by omega)]
  have e := nat_join 48 (t.toNat * 281474976710656) n.toNat (by omega) (by show n.toNat < 281474976710656; omega)
  rw [show (t * 281474976710656).toNat = t.toNat * 281474976710656 from by omega, e]
  omega

set_option maxHeartbeats 400000 in
theorem tagged_any (t n : Int) (w : World) (t0 : 0 ≤ t) (t1 : t < 65536) (n0 : 0 ≤ n) (n1 : n < 4294967296) :
    Calls Tryz.prog 91 #[.int .u64 t, .int .u32 n] w fun e w' => e = .returned (.int .u64 (t * 281474976710656 + n)) ∧ w' = w := by
  have ho := or_tag t n t0 t1 n0 n1
  have hw : IntKind.u64.wrap (t * 281474976710656) = t * 281474976710656 := by rw [IntKind.wrap_u64]; omega
  go_enter Tryz.func91, Tryz.ntmps91
  go_wp2
  go_ret
  exact ⟨rfl, rfl⟩

/-- the words of the tags -/
def intW (n : Int) : Int := 18444773748872577024 + n % 4294967296
def objW (n : Int) : Int := 18445055223849287680 + n
def txtW (n : Int) : Int := 18445618173802708992 + n
def undW : Int := 18445336698825998336
def nulW : Int := 18445336698825998337
def holW : Int := 18445336698825998340

set_option maxHeartbeats 400000 in
theorem refInt_any (n : Int) (w : World) : Calls Tryz.prog 32 #[.int .i32 n] w fun e w' => e = .returned (.int .u64 (intW n)) ∧ w' = w := by
  have hw : IntKind.u32.wrap n = n % 4294967296 := IntKind.wrap_u32 n
  unfold intW
  have m0 : 0 ≤ n % 4294967296 := by omega
  have m1 : n % 4294967296 < 4294967296 := by omega
  generalize n % 4294967296 = m at *
  go_enter Tryz.func32, Tryz.ntmps32
  go_wp2
  go_ret
  exact ⟨rfl, rfl⟩

set_option maxHeartbeats 400000 in
theorem object_any (n : Int) (w : World) (n0 : 0 ≤ n) (n1 : n < 4294967296) : Calls Tryz.prog 49 #[.int .u32 n] w fun e w' => e = .returned (.int .u64 (objW n)) ∧ w' = w := by
  have c := fun w => tagged_any 65530 n w (by omega) (by omega) n0 n1
  unfold objW
  rw [show (65530 * 281474976710656 : Int) = 18445055223849287680 from rfl] at c
  go_enter Tryz.func49, Tryz.ntmps49
  go_wp2_with (go_at_call 91; refine (c _).mono ?_; rintro e w1 ⟨rfl, rfl⟩)
  go_ret
  exact ⟨rfl, rfl⟩

/-- whether a word is of a tag -/
def isT (a t : Int) : Bool := a / 4294967296 == t * 65536

set_option maxHeartbeats 400000 in
theorem payU_any (a t : Int) (w : World) (h0 : 0 ≤ a) (h1 : a < 18446744073709551616) (t0 : 0 ≤ t) (t1 : t < 65536) :
    Calls Tryz.prog 117 #[.int .u64 a, .int .u64 t] w fun e w' => e = .returned (.tuple #[.int .u32 (if isT a t then a % 4294967296 else 0), .bool (isT a t)]) ∧ w' = w := by
  have hw : IntKind.u64.wrap (t * 65536) = t * 65536 := by rw [IntKind.wrap_u64]; omega
  have hu : IntKind.u32.wrap a = a % 4294967296 := IntKind.wrap_u32 a
  cases hc : isT a t with
  | true =>
    have hn : (a / 4294967296 != t * 65536) = false := by unfold isT at hc; rw [bne, hc]; rfl
    rw [if_pos rfl]
    clear hc
    go_enter Tryz.func117, Tryz.ntmps117
    go_wp2
    go_ret2
    exact ⟨rfl, rfl⟩
  | false =>
    have hn : (a / 4294967296 != t * 65536) = true := by unfold isT at hc; rw [bne, hc]; rfl
    rw [if_neg (by decide)]
    clear hc
    go_enter Tryz.func117, Tryz.ntmps117
    go_wp2
    go_ret2
    exact ⟨rfl, rfl⟩

/-- what a word of a tag bears; nought of another one -/
def payN (a t : Int) : Int := if isT a t then a % 4294967296 else 0

set_option maxHeartbeats 400000 in
theorem isObject_any (a : Int) (w : World) (h0 : 0 ≤ a) (h1 : a < 18446744073709551616) :
    Calls Tryz.prog 92 #[.int .u64 a] w fun e w' => e = .returned (.tuple #[.int .u32 (payN a 65530), .bool (isT a 65530)]) ∧ w' = w := by
  have c := fun w => payU_any a 65530 w h0 h1 (by omega) (by omega)
  unfold payN
  generalize (if isT a 65530 then a % 4294967296 else 0) = x at *
  generalize isT a 65530 = y at *
  go_enter Tryz.func92, Tryz.ntmps92
  go_wp2_with (go_at_call 117; refine (c _).mono ?_; rintro e w1 ⟨rfl, rfl⟩)
  go_ret2
  exact ⟨rfl, rfl⟩

theorem payN_bd (a t : Int) : 0 ≤ payN a t ∧ payN a t < 4294967296 := by unfold payN; split <;> omega
theorem isT_iff (a t : Int) : isT a t = true ↔ a / 4294967296 = t * 65536 := by unfold isT; exact beq_iff_eq
theorem isT_obj (n : Int) (h0 : 0 ≤ n) (h1 : n < 4294967296) : isT (objW n) 65530 = true ∧ payN (objW n) 65530 = n := by
  have h : isT (objW n) 65530 = true := by rw [isT_iff]; unfold objW; omega
  refine ⟨h, ?_⟩
  unfold payN
  rw [h, if_pos rfl]
  unfold objW
  omega
theorem isT_txt (n : Int) (h0 : 0 ≤ n) (h1 : n < 4294967296) : isT (txtW n) 65532 = true ∧ payN (txtW n) 65532 = n := by
  have h : isT (txtW n) 65532 = true := by rw [isT_iff]; unfold txtW; omega
  refine ⟨h, ?_⟩
  unfold payN
  rw [h, if_pos rfl]
  unfold txtW
  omega
theorem obj_of (a : Int) (h : isT a 65530 = true) : a = objW (payN a 65530) := by
  unfold payN objW
  rw [if_pos h]
  rw [isT_iff] at h
  omega
theorem isT_nul : isT nulW 65530 = false := by decide

end Go.Proofs.YtahhionlbfhinaaGreatDoor.Hp

/- The heap in memory. -/
namespace Go.Proofs.YtahhionlbfhinaaGreatDoor.Hp
open Go.RowKit
set_option linter.unusedVariables false

structure De where
  va : Int
  se : Int
  fl : Int
structure Pr where
  key : ByteArray
  came : Int
  de : De
structure Ob where
  kind : Int
  proto : Int
  shut : Bool
  above : Bool
  ps : List Pr
  next : Int
  el : List Int
  inn : List Int
  shape : Int
  shaped : Bool
  cell : Int
  hm : Bool
  mp : List (ByteArray × Int)
structure He where
  tx : List ByteArray
  obs : List Ob
  most : Int
  L : List Sp.Sh
  C : List Ce.Cel
  br : Int

/-- a slice's own value -/
structure SV where
  ad : Option Addr
  len : Nat
  cap : Nat
def SV.val (s : SV) : Value := .slice s.ad s.len s.cap
def SV.nil : SV := ⟨none, 0, 0⟩
/-- what of an object leads to memory -/
structure OV where
  vl : SV
  vm : Option Nat
  ve : SV
  vi : SV
def OV.none : OV := ⟨.nil, Option.none, .nil, .nil⟩
structure HV where
  vt : SV
  mb : Nat
  vo : SV
  tb : Nat
  cb : Nat
  ovs : List OV

def strC (k : ByteArray) : List Value := [.string k]
def wC (z : Int) : List Value := [.int .u64 z]
def prC (p : Pr) : List Value := [.string p.key, .int .i64 p.came, .int .u64 p.de.va, .int .u64 p.de.se, .int .i64 p.de.fl]
def obC (x : Ob × OV) : List Value := [.int .i64 x.1.kind, .int .u64 x.1.proto, .bool x.1.shut, .bool x.1.above, x.2.vl.val, .map x.2.vm, .int .i64 x.1.next, x.2.ve.val, x.2.vi.val, .int .i64 x.1.shape, .bool x.1.shaped, .int .i64 x.1.cell]

theorem rtStr : RT strC 26 9 1 16 := ⟨fun _ => rfl, Tryz.underlying26, rt_inf (z := .string ⟨#[]⟩) (by kernel_rfl) rfl, by decide, fun y u h => by simp [strC] at h; subst h; rfl⟩
theorem rtW : RT wC 95 33 1 8 := ⟨fun _ => rfl, Tryz.underlying95, rt_inf (z := .int .u64 0) (by kernel_rfl) rfl, by decide, fun y u h => by simp [wC] at h; subst h; rfl⟩
theorem rtPr : RT prC 91 129 5 48 := ⟨fun _ => rfl, Tryz.underlying91, rt_inf (z := .agg #[.string ⟨#[]⟩, .int .i64 0, .int .u64 0, .int .u64 0, .int .i64 0]) (by kernel_rfl) rfl, by decide, fun y u h => by simp [prC] at h; rcases h with rfl | rfl | rfl | rfl | rfl <;> rfl⟩
theorem rtOb : RT obC 73 97 12 136 := ⟨fun _ => rfl, Tryz.underlying73, rt_inf (z := .agg #[.int .i64 0, .int .u64 0, .bool false, .bool false, .slice none 0 0, .map none, .int .i64 0, .slice none 0 0, .slice none 0 0, .int .i64 0, .bool false, .int .i64 0]) (by kernel_rfl) rfl, by decide, fun y u h => by
  simp [obC, SV.val] at h
  rcases h with rfl | rfl | rfl | rfl | rfl | rfl | rfl | rfl | rfl | rfl | rfl | rfl <;> rfl⟩

/-- a row, its block among O -/
def RowIn {β : Type} (enc : β → List Value) (k : Nat) (e : TypeId) (B : Nat) (w : World) (O : Nat → Prop) (s : SV) (xs : List β) : Prop := OwnR enc k e B w s.val xs ∧ ∀ b, s.val.ownBlock = some b → O b

/-- a map from texts to numbers -/
def MpIs (w : World) (mb : Nat) (k : IntKind) (b : List (ByteArray × Int)) : Prop := ∃ es clock, w.heap[mb]? = some (.map es clock) ∧ es.toList.map (fun e => (e.key, e.val)) = b.map (fun x => ((.string x.1 : Value), (.int k x.2 : Value)))

def numd (tx : List ByteArray) : List (ByteArray × Int) := tx.zipIdx.map (fun x => (x.1, (x.2 : Int)))
def camd (ps : List Pr) : List (ByteArray × Int) := ps.map (fun p => (p.key, p.came))

def ObP (w : World) (B : Nat) (O : Nat → Prop) (ob : Ob) (ov : OV) : Nat → Prop
  | 0 => RowIn prC 5 129 B w O ov.vl ob.ps
  | 1 => ov.vm.isSome = ob.hm ∧ ∀ mb, ov.vm = some mb → O mb ∧ MpIs w mb .i64 ob.mp
  | 2 => RowIn wC 1 33 B w O ov.ve ob.el
  | _ => RowIn wC 1 33 B w O ov.vi ob.inn

def hpC (H : He) (M : HV) : Array Value := #[M.vt.val, .map (some M.mb), M.vo.val, .pointer (some ⟨M.tb, 0, none⟩), .pointer (some ⟨M.cb, 0, none⟩), .int .i64 H.br]

/-- the heap's parts: each has blocks of its own -/
def Prt (w : World) (B hb : Nat) (H : He) (M : HV) (O : Nat → Prop) : Nat → Prop
  | 0 => True
  | 1 => O hb ∧ w.heap[hb]? = some (.cells (hpC H M) 75 (0, 0))
  | 2 => RowIn strC 1 9 B w O M.vt H.tx
  | 3 => O M.mb ∧ MpIs w M.mb .u32 (numd H.tx)
  | 4 => RowIn obC 12 97 B w O M.vo (H.obs.zip M.ovs)
  | 5 => ∃ Ot, Sp.Tree w B M.tb Ot H.most H.L ∧ ∀ b, Ot b → O b
  | 6 => ∃ Oc, Ce.Cs w B M.cb Oc H.C ∧ ∀ b, Oc b → O b
  | j + 7 => ∀ ob ov, H.obs[j / 4]? = some ob → M.ovs[j / 4]? = some ov → ObP w B O ob ov (j % 4)

structure Ob.wf (o : Ob) : Prop where
  kd : 0 ≤ o.kind ∧ o.kind ≤ 6
  pr : 0 ≤ o.proto ∧ o.proto < 18446744073709551616
  ks : ∀ p ∈ o.ps, p.key.size ≤ maxLen
  fl : ∀ p ∈ o.ps, 0 ≤ p.de.fl ∧ p.de.fl ≤ 15
  nx : 0 ≤ o.next ∧ o.next ≤ 2000000000001 ∧ o.ps.length ≤ 2000000000001
  el : o.el.length ≤ 4096
  inn : o.inn.length ≤ 17592186044416

/-- an object's properties are in order -/
structure Ob.neat (o : Ob) : Prop where
  kn : (o.ps.map Pr.key).Nodup
  cm : o.ps.Pairwise (fun a b => a.came < b.came)
  c0 : ∀ p ∈ o.ps, 0 ≤ p.came ∧ p.came < o.next
  pl : (o.ps.length : Int) ≤ o.next
  mp : o.hm = true → o.mp = camd o.ps

structure He.wf (H : He) : Prop where
  ob : ∀ o ∈ H.obs, o.wf
  ol : H.obs.length ≤ 65536
  tn : H.tx.Nodup
  ts : ∀ t ∈ H.tx, t.size ≤ 4096
  tl : H.tx.length ≤ 16384
  mo : H.most ≤ 256
  br : 0 ≤ H.br ∧ H.br + (H.C.countP Ce.Cel.ok : Int) ≤ (H.C.length : Int)

structure HeapAt (w : World) (B hb : Nat) (tg : Nat → Nat) (H : He) (M : HV) : Prop where
  prt : ∀ j, Prt w B hb H M (fun b => tg b = j) j
  lt : ∀ b, tg b ≠ 0 → B ≤ b ∧ b < w.heap.size
  len : M.ovs.length = H.obs.length
  wf : H.wf

def Heap (w : World) (B hb : Nat) (O : Nat → Prop) (H : He) : Prop := ∃ tg M, HeapAt w B hb tg H M ∧ ∀ b, O b ↔ tg b ≠ 0

section
variable {w w' : World} {B hb : Nat} {O O' S : Nat → Prop} {H H' : He} {M M' : HV} {tg : Nat → Nat}

theorem RowIn.kept {β : Type} {enc : β → List Value} {k : Nat} {e : TypeId} {s : SV} {xs : List β} (h : RowIn enc k e B w O s xs) (hc : Chg S w w') (hs : ∀ b, O b → ¬ S b) : RowIn enc k e B w' O s xs :=
  ⟨h.1.kept hc (fun b q => hs b (h.2 b q)), h.2⟩
theorem RowIn.mono {β : Type} {enc : β → List Value} {k : Nat} {e : TypeId} {s : SV} {xs : List β} (h : RowIn enc k e B w O s xs) (hs : ∀ b, b < w.heap.size → O b → O' b) : RowIn enc k e B w O' s xs :=
  ⟨h.1, fun b q => hs b (h.1.lt b q).2 (h.2 b q)⟩
theorem MpIs.kept {mb : Nat} {k : IntKind} {b : List (ByteArray × Int)} (h : MpIs w mb k b) (hc : Chg S w w') (hs : ¬ S mb) : MpIs w' mb k b := by
  obtain ⟨es, cl, h1, h2⟩ := h
  exact ⟨es, cl, by rw [hc.block mb (Array.getElem?_eq_some_iff.1 h1).1 hs]; exact h1, h2⟩
theorem MpIs.lt {mb : Nat} {k : IntKind} {b : List (ByteArray × Int)} (h : MpIs w mb k b) : mb < w.heap.size := by
  obtain ⟨es, cl, h1, h2⟩ := h
  exact (Array.getElem?_eq_some_iff.1 h1).1

theorem ObP.kept {ob : Ob} {ov : OV} : ∀ (j : Nat), ObP w B O ob ov j → Chg S w w' → (∀ b, O b → ¬ S b) → ObP w' B O ob ov j
  | 0, h, hc, hs => RowIn.kept h hc hs
  | 1, h, hc, hs => ⟨h.1, fun mb e => ⟨(h.2 mb e).1, (h.2 mb e).2.kept hc (hs mb (h.2 mb e).1)⟩⟩
  | 2, h, hc, hs => RowIn.kept h hc hs
  | _ + 3, h, hc, hs => RowIn.kept (xs := ob.inn) h hc hs
theorem ObP.mono {ob : Ob} {ov : OV} : ∀ (j : Nat), ObP w B O ob ov j → (∀ b, b < w.heap.size → O b → O' b) → ObP w B O' ob ov j
  | 0, h, hs => RowIn.mono h hs
  | 1, h, hs => ⟨h.1, fun mb e => ⟨hs mb (h.2 mb e).2.lt (h.2 mb e).1, (h.2 mb e).2⟩⟩
  | 2, h, hs => RowIn.mono h hs
  | _ + 3, h, hs => RowIn.mono (xs := ob.inn) h hs

theorem Prt.kept : ∀ (j : Nat), Prt w B hb H M O j → Chg S w w' → (∀ b, O b → ¬ S b) → Prt w' B hb H M O j
  | 0, h, hc, hs => trivial
  | 1, h, hc, hs => ⟨h.1, by rw [hc.block hb (Array.getElem?_eq_some_iff.1 h.2).1 (hs hb h.1)]; exact h.2⟩
  | 2, h, hc, hs => RowIn.kept h hc hs
  | 3, h, hc, hs => ⟨h.1, h.2.kept hc (hs _ h.1)⟩
  | 4, h, hc, hs => RowIn.kept h hc hs
  | 5, h, hc, hs => by
    obtain ⟨Ot, h1, h2⟩ := h
    exact ⟨Ot, h1.kept hc (fun b q => hs b (h2 b q)), h2⟩
  | 6, h, hc, hs => by
    obtain ⟨Ot, h1, h2⟩ := h
    exact ⟨Ot, h1.kept hc (fun b q => hs b (h2 b q)), h2⟩
  | j + 7, h, hc, hs => fun ob ov e1 e2 => ObP.kept _ (h ob ov e1 e2) hc hs

theorem Prt.mono : ∀ (j : Nat), Prt w B hb H M O j → (∀ b, b < w.heap.size → O b → O' b) → Prt w B hb H M O' j
  | 0, h, hs => trivial
  | 1, h, hs => ⟨hs hb (Array.getElem?_eq_some_iff.1 h.2).1 h.1, h.2⟩
  | 2, h, hs => RowIn.mono h hs
  | 3, h, hs => ⟨hs _ h.2.lt h.1, h.2⟩
  | 4, h, hs => RowIn.mono h hs
  | 5, h, hs => by
    obtain ⟨Ot, h1, h2⟩ := h
    exact ⟨Ot, h1, fun b q => hs b (h1.lt b q).2 (h2 b q)⟩
  | 6, h, hs => by
    obtain ⟨Ot, h1, h2⟩ := h
    exact ⟨Ot, h1, fun b q => hs b (h1.lt b q).2 (h2 b q)⟩
  | j + 7, h, hs => fun ob ov e1 e2 => ObP.mono _ (h ob ov e1 e2) hs

/-- new blocks are of the part k -/
def rtg (tg : Nat → Nat) (lo hi k : Nat) (b : Nat) : Nat := if b < lo then tg b else if b < hi then k else 0
theorem rtg_old {tg : Nat → Nat} {lo hi k b : Nat} (h : b < lo) : rtg tg lo hi k b = tg b := by unfold rtg; rw [if_pos h]
theorem rtg_new {tg : Nat → Nat} {lo hi k b : Nat} (h : lo ≤ b) (h2 : b < hi) : rtg tg lo hi k b = k := by unfold rtg; rw [if_neg (by omega), if_pos h2]

theorem HeapAt.B0 (h : HeapAt w B hb tg H M) : tg hb = 1 ∧ hb < w.heap.size ∧ B ≤ hb := by
  have h1 := (h.prt 1).1
  have h2 := h.lt hb (by omega)
  exact ⟨h1, h2.2, h2.1⟩

/-- some parts are others now -/
theorem HeapAt.up (h : HeapAt w B hb tg H M) (hc : Chg S w w') (K : Nat → Prop) (k0 : Nat) (hS : ∀ b, b < w.heap.size → S b → K (tg b) ∧ tg b ≠ 0)
    (hnew : ∀ j, K j → Prt w' B hb H' M' (fun b => rtg tg w.heap.size w'.heap.size k0 b = j) j)
    (hold : ∀ j O, ¬ K j → Prt w' B hb H M O j → Prt w' B hb H' M' O j) (hl : M'.ovs.length = H'.obs.length) (hw : H'.wf) :
    HeapAt w' B hb (rtg tg w.heap.size w'.heap.size k0) H' M' := by
  have hB : B ≤ w.heap.size := by have := h.B0; omega
  refine ⟨fun j => ?_, fun b q => ?_, hl, hw⟩
  · by_cases c : K j
    · exact hnew j c
    · cases j with
      | zero => trivial
      | succ j =>
        refine hold _ _ c (Prt.mono _ (Prt.kept (O := fun b => tg b = j + 1 ∧ b < w.heap.size) _ (Prt.mono _ (h.prt (j + 1)) (fun b hb q => ⟨q, hb⟩)) hc (fun b q s => c (q.1 ▸ (hS b q.2 s).1))) (fun b _ q => ?_))
        rw [rtg_old q.2]
        exact q.1
  · by_cases c : b < w.heap.size
    · rw [rtg_old c] at q
      have := h.lt b q
      have := hc.size
      omega
    · unfold rtg at q
      rw [if_neg c] at q
      by_cases c2 : b < w'.heap.size
      · omega
      · rw [if_neg c2] at q
        exact absurd rfl q

theorem HeapAt.kept (h : HeapAt w B hb tg H M) (hc : Chg S w w') (hs : ∀ b, tg b ≠ 0 → ¬ S b) : HeapAt w' B hb tg H M := by
  refine ⟨fun j => ?_, fun b q => ?_, h.len, h.wf⟩
  · cases j with
    | zero => trivial
    | succ j => exact Prt.kept _ (h.prt _) hc (fun b q => hs b (by omega))
  · have := h.lt b q
    have := hc.size
    omega
theorem HeapAt.below (h : HeapAt w B hb tg H M) (hb' : Below w.heap.size w w') : HeapAt w' B hb tg H M := h.kept (S := fun _ => False) (Chg.of_below hb') (fun _ _ q => q)

theorem Heap.kept (h : Heap w B hb O H) (hc : Chg S w w') (hs : ∀ b, O b → ¬ S b) : Heap w' B hb O H := by
  obtain ⟨tg, M, h1, h2⟩ := h
  exact ⟨tg, M, h1.kept hc (fun b q => hs b ((h2 b).2 q)), h2⟩
theorem Heap.below (h : Heap w B hb O H) (hb' : Below w.heap.size w w') : Heap w' B hb O H := h.kept (S := fun _ => False) (Chg.of_below hb') (fun _ _ q => q)
theorem Heap.lt (h : Heap w B hb O H) : ∀ b, O b → B ≤ b ∧ b < w.heap.size := by
  obtain ⟨tg, M, h1, h2⟩ := h
  exact fun b q => h1.lt b ((h2 b).1 q)
theorem Heap.wf (h : Heap w B hb O H) : H.wf := by
  obtain ⟨tg, M, h1, h2⟩ := h
  exact h1.wf

/-- what a call leaves -/
def Went (w : World) (B hb : Nat) (O : Nat → Prop) (H : He) (w' : World) : Prop := ∃ O', Heap w' B hb O' H ∧ Chg O w w' ∧ ∀ b, O' b → O b ∨ w.heap.size ≤ b

theorem Went.same (h : Heap w B hb O H) (hb' : Below w.heap.size w w') : Went w B hb O H w' := ⟨O, h.below hb', Chg.of_below hb', fun b q => Or.inl q⟩
theorem Went.drew (h : Went w B hb O H w') : Went w B hb O H w'.drew := by
  obtain ⟨O', h1, h2, h3⟩ := h
  exact ⟨O', h1.below ((Below.refl _ _).drew), h2.drew, h3⟩
theorem Went.behind {w1 : World} (hb' : Below w.heap.size w w1) (h : Went w1 B hb O H w') : Went w B hb O H w' := by
  obtain ⟨O', g1, g2, g3⟩ := h
  exact ⟨O', g1, (Chg.of_below hb').trans g2 (fun _ _ q => q), fun b q => (g3 b q).imp id (fun q => Nat.le_trans hb'.size q)⟩
theorem Went.then {w1 : World} (hb' : Below w1.heap.size w1 w') (h : Went w B hb O H w1) : Went w B hb O H w' := by
  obtain ⟨O', g1, g2, g3⟩ := h
  exact ⟨O', g1.below hb', g2.trans (Chg.of_below (S := O) hb') (fun _ _ q => q), g3⟩
theorem Went.trans {w1 : World} (h : Went w B hb O H w1) (k : ∀ O', Heap w1 B hb O' H → Went w1 B hb O' H' w') : Went w B hb O H' w' := by
  obtain ⟨O1, h1, h2, h3⟩ := h
  obtain ⟨O2, k1, k2, k3⟩ := k O1 h1
  refine ⟨O2, k1, h2.trans k2 (fun i hi q => ?_), fun b q => ?_⟩
  · rcases h3 i q with c | c
    · exact c
    · omega
  · rcases k3 b q with c | c
    · exact h3 b c
    · exact Or.inr (Nat.le_trans h2.size c)

/-- a heap whose parts were told anew -/
theorem HeapAt.went (h : HeapAt w B hb tg H M) {k0 : Nat} (hc : Chg S w w') (hS : ∀ b, b < w.heap.size → S b → tg b ≠ 0) (h' : HeapAt w' B hb (rtg tg w.heap.size w'.heap.size k0) H' M') (hO : ∀ b, O b ↔ tg b ≠ 0) : Went w B hb O H' w' := by
  refine ⟨fun b => rtg tg w.heap.size w'.heap.size k0 b ≠ 0, ⟨_, _, h', fun b => Iff.rfl⟩, ⟨hc.os, hc.tape, hc.output, hc.size, fun k hk hn => hc.block k hk (fun s => hn ((hO k).2 (hS k hk s)))⟩, fun b q => ?_⟩
  have q : rtg tg w.heap.size w'.heap.size k0 b ≠ 0 := q
  by_cases c : b < w.heap.size
  · rw [rtg_old c] at q
    exact Or.inl ((hO b).2 q)
  · exact Or.inr (by omega)

end

end Go.Proofs.YtahhionlbfhinaaGreatDoor.Hp
