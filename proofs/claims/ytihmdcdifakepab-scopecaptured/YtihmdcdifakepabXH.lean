/- The program's rightHere. -/
import Derived.Test.YtihmdcdifakepabB8
import Derived.Deep.RegionWith
namespace Go.Proofs.Ytihmdcdifakepab.Sc
open Go.RowKit
set_option linter.unusedVariables false

set_option maxRecDepth 100000 in
set_option maxHeartbeats 1000000 in
theorem here_3 {B cb mu md : Nat} {W0 : World} (pl num : Int) (name op : ByteArray) (ad : Option Addr) (len cap : Nat) (hwf : (Lit.int .i64 pl).wf = true) (hl : len ≤ 2 ^ 63 - 1) (w : World) (hb : Below B W0 w) (hBE : B = W0.heap.size) (star : Bool) (st : St) (m : Nat) (hck : CkAt B cb mu md w star st m) (hm : m + 1 ≤ 1000000)  :
    Calls Try.prog 16 #[.pointer (some ⟨cb, 0, none⟩), .agg #[.int .i64 3, .int .i64 pl, .string name, .int .u64 num, .string op, .slice ad len cap]] w (PcPost B cb mu md w star (takeU st pl) (m + 1)) := by
  obtain ⟨wb, hwb⟩ : ∃ wb, wb = w.alloc (.cells #[.int .i64 3, .int .i64 pl, .string name, .int .u64 num, .string op, .slice ad len cap] 25) := ⟨_, rfl⟩
  have hbl : Below w.heap.size w wb := by rw [hwb]; exact (Below.refl _ _).alloc (Nat.le_refl _) _
  have HF : Hid (Fp B W0 w (Cs cb mu md) w.heap.size #[.int .i64 3, .int .i64 pl, .string name, .int .u64 num, .string op, .slice ad len cap] wb) := by rw [hwb]; exact Fp.start hb hck.size hck.lts _ _
  have HCK : Hid (CkAt B cb mu md wb star st m) := hck.new hbl
  have HM : Hid (m + 1 ≤ 1000000 ∧ (Lit.int .i64 pl).wf = true ∧ Below w.heap.size w wb) := ⟨hm, hwf, hbl⟩
  obtain ⟨c0, f0, c1, c2⟩ := HCK.out.cells
  have b0 : wb.cell? ⟨w.heap.size, 0, none⟩ = some (.int .i64 3) := HF.out.box 0 _ rfl
  have b1 : wb.cell? ⟨w.heap.size, 1, none⟩ = some (.int .i64 pl) := HF.out.box 1 _ rfl
  have b2 : wb.cell? ⟨w.heap.size, 2, none⟩ = some (.string name) := HF.out.box 2 _ rfl
  have b3 : wb.cell? ⟨w.heap.size, 3, none⟩ = some (.int .u64 num) := HF.out.box 3 _ rfl
  have b4 : wb.cell? ⟨w.heap.size, 4, none⟩ = some (.string op) := HF.out.box 4 _ rfl
  have b5 : wb.cell? ⟨w.heap.size, 5, none⟩ = some (.slice ad len cap) := HF.out.box 5 _ rfl
  clear hbl hck hm hwf hb
  have hc := takeU_ck (HCK.out.new (Below.refl wb.heap.size wb).drew) HM.out.1 pl HM.out.2.1
  go_enter Try.func16, Try.ntmps16
  go_upto_region 1 with fail
  rw [← hwb]
  clear hwb
  go_wp2_with fail
  go_region_held_law (fun w' => w'.cell? ⟨cb, 1, none⟩ = some (.map (some mu)) ∧ w'.cell? ⟨w.heap.size, 1, none⟩ = some (.int .i64 pl)) (first | exact ⟨k1, k2⟩ | go_keep)
    ((go_at_call 24; refine hc.mono ?_; rintro e w2 ⟨⟨rfl, h3, h4⟩, k1, _⟩; have k2 : w2.cell? ⟨w.heap.size, 1, none⟩ = some (.int .i64 pl) := (HF.out.call (Chg.of_below (Below.refl wb.heap.size wb).drew)).call h3 |>.box 1 _ rfl; have HX : Hid (PcPost B cb mu md w star (takeU st pl) (m + 1) (.returned (.bool (takeU st pl).isSome)) w2) := ⟨rfl, (HF.out.call (Chg.of_below (Below.refl wb.heap.size wb).drew)).call h3 |>.chg, h4⟩; clear h3 h4))
  go_wp2_with fail
  go_ret
  exact HX.out

set_option maxRecDepth 100000 in
set_option maxHeartbeats 1000000 in
theorem here_17a {B cb mu md : Nat} {W0 : World} (pl num : Int) (name op : ByteArray) (ad : Option Addr) (len cap : Nat) (hwf : (Lit.int .i64 pl).wf = true) (hl : len ≤ 2 ^ 63 - 1) (w : World) (hb : Below B W0 w) (hBE : B = W0.heap.size) (star : Bool) (st : St) (m : Nat) (hck : CkAt B cb mu md w star st m) (hm : m + 1 ≤ 1000000) (hn1 : isS name preS = true) :
    Calls Try.prog 16 #[.pointer (some ⟨cb, 0, none⟩), .agg #[.int .i64 17, .int .i64 pl, .string name, .int .u64 num, .string op, .slice ad len cap]] w (PcPost B cb mu md w star (some st) (m + 1)) := by
  obtain ⟨wb, hwb⟩ : ∃ wb, wb = w.alloc (.cells #[.int .i64 17, .int .i64 pl, .string name, .int .u64 num, .string op, .slice ad len cap] 25) := ⟨_, rfl⟩
  have hbl : Below w.heap.size w wb := by rw [hwb]; exact (Below.refl _ _).alloc (Nat.le_refl _) _
  have HF : Hid (Fp B W0 w (Cs cb mu md) w.heap.size #[.int .i64 17, .int .i64 pl, .string name, .int .u64 num, .string op, .slice ad len cap] wb) := by rw [hwb]; exact Fp.start hb hck.size hck.lts _ _
  have HCK : Hid (CkAt B cb mu md wb star st m) := hck.new hbl
  have HM : Hid (m + 1 ≤ 1000000 ∧ (Lit.int .i64 pl).wf = true ∧ Below w.heap.size w wb) := ⟨hm, hwf, hbl⟩
  obtain ⟨c0, f0, c1, c2⟩ := HCK.out.cells
  have b0 : wb.cell? ⟨w.heap.size, 0, none⟩ = some (.int .i64 17) := HF.out.box 0 _ rfl
  have b1 : wb.cell? ⟨w.heap.size, 1, none⟩ = some (.int .i64 pl) := HF.out.box 1 _ rfl
  have b2 : wb.cell? ⟨w.heap.size, 2, none⟩ = some (.string name) := HF.out.box 2 _ rfl
  have b3 : wb.cell? ⟨w.heap.size, 3, none⟩ = some (.int .u64 num) := HF.out.box 3 _ rfl
  have b4 : wb.cell? ⟨w.heap.size, 4, none⟩ = some (.string op) := HF.out.box 4 _ rfl
  have b5 : wb.cell? ⟨w.heap.size, 5, none⟩ = some (.slice ad len cap) := HF.out.box 5 _ rfl
  clear hbl hck hm hwf hb
  unfold isS preS at hn1
  go_enter Try.func16, Try.ntmps16
  go_upto_region 1 with fail
  rw [← hwb]
  clear hwb
  go_wp2_with fail
  go_ret
  exact ⟨rfl, HF.out.chg, fun st' q => by cases q; exact HCK.out.more (by omega)⟩

set_option maxRecDepth 100000 in
set_option maxHeartbeats 1000000 in
theorem here_17b {B cb mu md : Nat} {W0 : World} (pl num : Int) (name op : ByteArray) (ad : Option Addr) (len cap : Nat) (hwf : (Lit.int .i64 pl).wf = true) (hl : len ≤ 2 ^ 63 - 1) (w : World) (hb : Below B W0 w) (hBE : B = W0.heap.size) (star : Bool) (st : St) (m : Nat) (hck : CkAt B cb mu md w star st m) (hm : m + 1 ≤ 1000000) (hn1 : isS name preS = false) (hn2 : isS name postS = true) :
    Calls Try.prog 16 #[.pointer (some ⟨cb, 0, none⟩), .agg #[.int .i64 17, .int .i64 pl, .string name, .int .u64 num, .string op, .slice ad len cap]] w (PcPost B cb mu md w star (some st) (m + 1)) := by
  obtain ⟨wb, hwb⟩ : ∃ wb, wb = w.alloc (.cells #[.int .i64 17, .int .i64 pl, .string name, .int .u64 num, .string op, .slice ad len cap] 25) := ⟨_, rfl⟩
  have hbl : Below w.heap.size w wb := by rw [hwb]; exact (Below.refl _ _).alloc (Nat.le_refl _) _
  have HF : Hid (Fp B W0 w (Cs cb mu md) w.heap.size #[.int .i64 17, .int .i64 pl, .string name, .int .u64 num, .string op, .slice ad len cap] wb) := by rw [hwb]; exact Fp.start hb hck.size hck.lts _ _
  have HCK : Hid (CkAt B cb mu md wb star st m) := hck.new hbl
  have HM : Hid (m + 1 ≤ 1000000 ∧ (Lit.int .i64 pl).wf = true ∧ Below w.heap.size w wb) := ⟨hm, hwf, hbl⟩
  obtain ⟨c0, f0, c1, c2⟩ := HCK.out.cells
  have b0 : wb.cell? ⟨w.heap.size, 0, none⟩ = some (.int .i64 17) := HF.out.box 0 _ rfl
  have b1 : wb.cell? ⟨w.heap.size, 1, none⟩ = some (.int .i64 pl) := HF.out.box 1 _ rfl
  have b2 : wb.cell? ⟨w.heap.size, 2, none⟩ = some (.string name) := HF.out.box 2 _ rfl
  have b3 : wb.cell? ⟨w.heap.size, 3, none⟩ = some (.int .u64 num) := HF.out.box 3 _ rfl
  have b4 : wb.cell? ⟨w.heap.size, 4, none⟩ = some (.string op) := HF.out.box 4 _ rfl
  have b5 : wb.cell? ⟨w.heap.size, 5, none⟩ = some (.slice ad len cap) := HF.out.box 5 _ rfl
  clear hbl hck hm hwf hb
  unfold isS preS at hn1
  unfold isS postS at hn2
  go_enter Try.func16, Try.ntmps16
  go_upto_region 1 with fail
  rw [← hwb]
  clear hwb
  go_wp2_with fail
  go_ret
  exact ⟨rfl, HF.out.chg, fun st' q => by cases q; exact HCK.out.more (by omega)⟩

set_option maxRecDepth 100000 in
set_option maxHeartbeats 1000000 in
theorem here_17c {B cb mu md : Nat} {W0 : World} (pl num : Int) (name op : ByteArray) (ad : Option Addr) (len cap : Nat) (hwf : (Lit.int .i64 pl).wf = true) (hl : len ≤ 2 ^ 63 - 1) (w : World) (hb : Below B W0 w) (hBE : B = W0.heap.size) (star : Bool) (st : St) (m : Nat) (hck : CkAt B cb mu md w star st m) (hm : m + 1 ≤ 1000000) (hn1 : isS name preS = false) (hn2 : isS name postS = false) :
    Calls Try.prog 16 #[.pointer (some ⟨cb, 0, none⟩), .agg #[.int .i64 17, .int .i64 pl, .string name, .int .u64 num, .string op, .slice ad len cap]] w (PcPost B cb mu md w star (none) (m + 1)) := by
  obtain ⟨wb, hwb⟩ : ∃ wb, wb = w.alloc (.cells #[.int .i64 17, .int .i64 pl, .string name, .int .u64 num, .string op, .slice ad len cap] 25) := ⟨_, rfl⟩
  have hbl : Below w.heap.size w wb := by rw [hwb]; exact (Below.refl _ _).alloc (Nat.le_refl _) _
  have HF : Hid (Fp B W0 w (Cs cb mu md) w.heap.size #[.int .i64 17, .int .i64 pl, .string name, .int .u64 num, .string op, .slice ad len cap] wb) := by rw [hwb]; exact Fp.start hb hck.size hck.lts _ _
  have HCK : Hid (CkAt B cb mu md wb star st m) := hck.new hbl
  have HM : Hid (m + 1 ≤ 1000000 ∧ (Lit.int .i64 pl).wf = true ∧ Below w.heap.size w wb) := ⟨hm, hwf, hbl⟩
  obtain ⟨c0, f0, c1, c2⟩ := HCK.out.cells
  have b0 : wb.cell? ⟨w.heap.size, 0, none⟩ = some (.int .i64 17) := HF.out.box 0 _ rfl
  have b1 : wb.cell? ⟨w.heap.size, 1, none⟩ = some (.int .i64 pl) := HF.out.box 1 _ rfl
  have b2 : wb.cell? ⟨w.heap.size, 2, none⟩ = some (.string name) := HF.out.box 2 _ rfl
  have b3 : wb.cell? ⟨w.heap.size, 3, none⟩ = some (.int .u64 num) := HF.out.box 3 _ rfl
  have b4 : wb.cell? ⟨w.heap.size, 4, none⟩ = some (.string op) := HF.out.box 4 _ rfl
  have b5 : wb.cell? ⟨w.heap.size, 5, none⟩ = some (.slice ad len cap) := HF.out.box 5 _ rfl
  clear hbl hck hm hwf hb
  unfold isS preS at hn1
  unfold isS postS at hn2
  go_enter Try.func16, Try.ntmps16
  go_upto_region 1 with fail
  rw [← hwb]
  clear hwb
  go_wp2_with fail
  go_ret
  exact ⟨rfl, HF.out.chg, fun st' q => by cases q⟩

set_option maxRecDepth 100000 in
set_option maxHeartbeats 1000000 in
theorem here_22a {B cb mu md : Nat} {W0 : World} (pl num : Int) (name op : ByteArray) (ad : Option Addr) (len cap : Nat) (hwf : (Lit.int .i64 pl).wf = true) (hl : len ≤ 2 ^ 63 - 1) (w : World) (hb : Below B W0 w) (hBE : B = W0.heap.size) (star : Bool) (st : St) (m : Nat) (hck : CkAt B cb mu md w star st m) (hm : m + 1 ≤ 1000000) (hs : star = true) :
    Calls Try.prog 16 #[.pointer (some ⟨cb, 0, none⟩), .agg #[.int .i64 22, .int .i64 pl, .string name, .int .u64 num, .string op, .slice ad len cap]] w (PcPost B cb mu md w star (some st) (m + 1)) := by
  obtain ⟨wb, hwb⟩ : ∃ wb, wb = w.alloc (.cells #[.int .i64 22, .int .i64 pl, .string name, .int .u64 num, .string op, .slice ad len cap] 25) := ⟨_, rfl⟩
  have hbl : Below w.heap.size w wb := by rw [hwb]; exact (Below.refl _ _).alloc (Nat.le_refl _) _
  have HF : Hid (Fp B W0 w (Cs cb mu md) w.heap.size #[.int .i64 22, .int .i64 pl, .string name, .int .u64 num, .string op, .slice ad len cap] wb) := by rw [hwb]; exact Fp.start hb hck.size hck.lts _ _
  have HCK : Hid (CkAt B cb mu md wb star st m) := hck.new hbl
  have HM : Hid (m + 1 ≤ 1000000 ∧ (Lit.int .i64 pl).wf = true ∧ Below w.heap.size w wb) := ⟨hm, hwf, hbl⟩
  obtain ⟨c0, f0, c1, c2⟩ := HCK.out.cells
  have b0 : wb.cell? ⟨w.heap.size, 0, none⟩ = some (.int .i64 22) := HF.out.box 0 _ rfl
  have b1 : wb.cell? ⟨w.heap.size, 1, none⟩ = some (.int .i64 pl) := HF.out.box 1 _ rfl
  have b2 : wb.cell? ⟨w.heap.size, 2, none⟩ = some (.string name) := HF.out.box 2 _ rfl
  have b3 : wb.cell? ⟨w.heap.size, 3, none⟩ = some (.int .u64 num) := HF.out.box 3 _ rfl
  have b4 : wb.cell? ⟨w.heap.size, 4, none⟩ = some (.string op) := HF.out.box 4 _ rfl
  have b5 : wb.cell? ⟨w.heap.size, 5, none⟩ = some (.slice ad len cap) := HF.out.box 5 _ rfl
  clear hbl hck hm hwf hb
  rw [hs] at c0
  go_enter Try.func16, Try.ntmps16
  go_upto_region 1 with fail
  rw [← hwb]
  clear hwb
  go_wp2_with fail
  go_ret
  exact ⟨rfl, HF.out.chg, fun st' q => by cases q; exact HCK.out.more (by omega)⟩

set_option maxRecDepth 100000 in
set_option maxHeartbeats 1000000 in
theorem here_22b {B cb mu md : Nat} {W0 : World} (pl num : Int) (name op : ByteArray) (ad : Option Addr) (len cap : Nat) (hwf : (Lit.int .i64 pl).wf = true) (hl : len ≤ 2 ^ 63 - 1) (w : World) (hb : Below B W0 w) (hBE : B = W0.heap.size) (star : Bool) (st : St) (m : Nat) (hck : CkAt B cb mu md w star st m) (hm : m + 1 ≤ 1000000) (hs : star = false) :
    Calls Try.prog 16 #[.pointer (some ⟨cb, 0, none⟩), .agg #[.int .i64 22, .int .i64 pl, .string name, .int .u64 num, .string op, .slice ad len cap]] w (PcPost B cb mu md w star (none) (m + 1)) := by
  obtain ⟨wb, hwb⟩ : ∃ wb, wb = w.alloc (.cells #[.int .i64 22, .int .i64 pl, .string name, .int .u64 num, .string op, .slice ad len cap] 25) := ⟨_, rfl⟩
  have hbl : Below w.heap.size w wb := by rw [hwb]; exact (Below.refl _ _).alloc (Nat.le_refl _) _
  have HF : Hid (Fp B W0 w (Cs cb mu md) w.heap.size #[.int .i64 22, .int .i64 pl, .string name, .int .u64 num, .string op, .slice ad len cap] wb) := by rw [hwb]; exact Fp.start hb hck.size hck.lts _ _
  have HCK : Hid (CkAt B cb mu md wb star st m) := hck.new hbl
  have HM : Hid (m + 1 ≤ 1000000 ∧ (Lit.int .i64 pl).wf = true ∧ Below w.heap.size w wb) := ⟨hm, hwf, hbl⟩
  obtain ⟨c0, f0, c1, c2⟩ := HCK.out.cells
  have b0 : wb.cell? ⟨w.heap.size, 0, none⟩ = some (.int .i64 22) := HF.out.box 0 _ rfl
  have b1 : wb.cell? ⟨w.heap.size, 1, none⟩ = some (.int .i64 pl) := HF.out.box 1 _ rfl
  have b2 : wb.cell? ⟨w.heap.size, 2, none⟩ = some (.string name) := HF.out.box 2 _ rfl
  have b3 : wb.cell? ⟨w.heap.size, 3, none⟩ = some (.int .u64 num) := HF.out.box 3 _ rfl
  have b4 : wb.cell? ⟨w.heap.size, 4, none⟩ = some (.string op) := HF.out.box 4 _ rfl
  have b5 : wb.cell? ⟨w.heap.size, 5, none⟩ = some (.slice ad len cap) := HF.out.box 5 _ rfl
  clear hbl hck hm hwf hb
  rw [hs] at c0
  go_enter Try.func16, Try.ntmps16
  go_upto_region 1 with fail
  rw [← hwb]
  clear hwb
  go_wp2_with fail
  go_ret
  exact ⟨rfl, HF.out.chg, fun st' q => by cases q⟩

set_option maxRecDepth 100000 in
set_option maxHeartbeats 1000000 in
theorem here_43n {B cb mu md : Nat} {W0 : World} (pl num : Int) (name op : ByteArray) (ad : Option Addr) (len cap : Nat) (hwf : (Lit.int .i64 pl).wf = true) (hl : len ≤ 2 ^ 63 - 1) (w : World) (hb : Below B W0 w) (hBE : B = W0.heap.size) (star : Bool) (st : St) (m : Nat) (hck : CkAt B cb mu md w star st m) (hm : m + 1 ≤ 1000000) (h2 : Two W0 ad len 0 0) :
    Calls Try.prog 16 #[.pointer (some ⟨cb, 0, none⟩), .agg #[.int .i64 43, .int .i64 pl, .string name, .int .u64 num, .string op, .slice ad len cap]] w (PcPost B cb mu md w star (none) (m + 1)) := by
  obtain ⟨hl3, b, off, rfl, hcc⟩ := h2
  obtain ⟨wb, hwb⟩ : ∃ wb, wb = w.alloc (.cells #[.int .i64 43, .int .i64 pl, .string name, .int .u64 num, .string op, .slice (some ⟨b, off, none⟩) len cap] 25) := ⟨_, rfl⟩
  have hbl : Below w.heap.size w wb := by rw [hwb]; exact (Below.refl _ _).alloc (Nat.le_refl _) _
  have HF : Hid (Fp B W0 w (Cs cb mu md) w.heap.size #[.int .i64 43, .int .i64 pl, .string name, .int .u64 num, .string op, .slice (some ⟨b, off, none⟩) len cap] wb) := by rw [hwb]; exact Fp.start hb hck.size hck.lts _ _
  have HCK : Hid (CkAt B cb mu md wb star st m) := hck.new hbl
  have HM : Hid (m + 1 ≤ 1000000 ∧ (Lit.int .i64 pl).wf = true ∧ Below w.heap.size w wb) := ⟨hm, hwf, hbl⟩
  obtain ⟨c0, f0, c1, c2⟩ := HCK.out.cells
  have b0 : wb.cell? ⟨w.heap.size, 0, none⟩ = some (.int .i64 43) := HF.out.box 0 _ rfl
  have b1 : wb.cell? ⟨w.heap.size, 1, none⟩ = some (.int .i64 pl) := HF.out.box 1 _ rfl
  have b2 : wb.cell? ⟨w.heap.size, 2, none⟩ = some (.string name) := HF.out.box 2 _ rfl
  have b3 : wb.cell? ⟨w.heap.size, 3, none⟩ = some (.int .u64 num) := HF.out.box 3 _ rfl
  have b4 : wb.cell? ⟨w.heap.size, 4, none⟩ = some (.string op) := HF.out.box 4 _ rfl
  have b5 : wb.cell? ⟨w.heap.size, 5, none⟩ = some (.slice (some ⟨b, off, none⟩) len cap) := HF.out.box 5 _ rfl
  clear hbl hck hm hwf hb
  have lt1 : 1 < len := by omega
  have lt2 : 2 < len := by omega
  have z1 := (hcc wb (hBE ▸ HF.out.bel)).1
  have z2 := (hcc wb (hBE ▸ HF.out.bel)).2
  clear hcc
  go_enter Try.func16, Try.ntmps16
  go_upto_region 1 with fail
  rw [← hwb]
  clear hwb
  go_wp2_with fail
  go_ret
  exact ⟨rfl, HF.out.chg, fun st' q => by cases q⟩

set_option maxRecDepth 100000 in
set_option maxHeartbeats 1000000 in
theorem here_other0 {B cb mu md : Nat} {W0 : World} (kind pl num : Int) (name op : ByteArray) (ad : Option Addr) (len cap : Nat) (hwf : (Lit.int .i64 pl).wf = true) (hl : len ≤ 2 ^ 63 - 1) (w : World) (hb : Below B W0 w) (hBE : B = W0.heap.size) (star : Bool) (st : St) (m : Nat) (hck : CkAt B cb mu md w star st m) (hm : m + 1 ≤ 1000000) (h3 : kind ≠ 3) (h17 : kind ≠ 17) (h22 : kind ≠ 22) (h43 : kind ≠ 43) (q1 q2 : Int) (hdd : declI ⟨kind, pl, name, num, op⟩ q1 = false) :
    Calls Try.prog 16 #[.pointer (some ⟨cb, 0, none⟩), .agg #[.int .i64 kind, .int .i64 pl, .string name, .int .u64 num, .string op, .slice ad len cap]] w (PcPost B cb mu md w star (some st) (m + 1)) := by
  obtain ⟨wb, hwb⟩ : ∃ wb, wb = w.alloc (.cells #[.int .i64 kind, .int .i64 pl, .string name, .int .u64 num, .string op, .slice ad len cap] 25) := ⟨_, rfl⟩
  have hbl : Below w.heap.size w wb := by rw [hwb]; exact (Below.refl _ _).alloc (Nat.le_refl _) _
  have HF : Hid (Fp B W0 w (Cs cb mu md) w.heap.size #[.int .i64 kind, .int .i64 pl, .string name, .int .u64 num, .string op, .slice ad len cap] wb) := by rw [hwb]; exact Fp.start hb hck.size hck.lts _ _
  have HCK : Hid (CkAt B cb mu md wb star st m) := hck.new hbl
  have HM : Hid (m + 1 ≤ 1000000 ∧ (Lit.int .i64 pl).wf = true ∧ Below w.heap.size w wb) := ⟨hm, hwf, hbl⟩
  obtain ⟨c0, f0, c1, c2⟩ := HCK.out.cells
  have b0 : wb.cell? ⟨w.heap.size, 0, none⟩ = some (.int .i64 kind) := HF.out.box 0 _ rfl
  have b1 : wb.cell? ⟨w.heap.size, 1, none⟩ = some (.int .i64 pl) := HF.out.box 1 _ rfl
  have b2 : wb.cell? ⟨w.heap.size, 2, none⟩ = some (.string name) := HF.out.box 2 _ rfl
  have b3 : wb.cell? ⟨w.heap.size, 3, none⟩ = some (.int .u64 num) := HF.out.box 3 _ rfl
  have b4 : wb.cell? ⟨w.heap.size, 4, none⟩ = some (.string op) := HF.out.box 4 _ rfl
  have b5 : wb.cell? ⟨w.heap.size, 5, none⟩ = some (.slice ad len cap) := HF.out.box 5 _ rfl
  clear hbl hck hm hwf hb
  have n3 : (kind == 3) = false := by simpa using h3
  have n17 : (kind == 17) = false := by simpa using h17
  have n22 : (kind == 22) = false := by simpa using h22
  have n43 : (kind == 43) = false := by simpa using h43
  have hdc := declares_any (⟨kind, pl, name, num, op⟩ : Nd) ad len cap W0 wb.drew (hBE ▸ (HF.out.bel).drew) hl q1 q2 (fun q => absurd q h43)
  rw [hdd] at hdc
  unfold ndA at hdc
  simp only at hdc
  have HD : Hid (CkAt B cb mu md wb star st m) := HCK.out
  go_enter Try.func16, Try.ntmps16
  go_upto_region 1 with fail
  rw [← hwb]
  clear hwb
  go_wp2_with fail
  first
   | (go_region_with ((go_at_call 25; refine hdc.mono ?_; rintro e w2 ⟨rfl, hb2⟩; have FD : Fp B W0 w (Cs cb mu md) w.heap.size #[.int .i64 kind, .int .i64 pl, .string name, .int .u64 num, .string op, .slice ad len cap] w2 := (HF.out.call (Chg.of_below (Below.refl wb.heap.size wb).drew)).call (Chg.of_below hb2); have CD : CkAt B cb mu md w2 star st m := (HCK.out.new (Below.refl wb.heap.size wb).drew).new hb2; have HX : Hid (PcPost B cb mu md w star (some st) (m + 1) (.returned (.bool true)) w2) := ⟨rfl, FD.chg, fun st' q => by cases q; exact CD.more (by omega)⟩; clear hb2 FD CD)))
   | fail
  all_goals
    go_wp2_with fail
    go_ret
    exact HX.out

set_option maxRecDepth 100000 in
set_option maxHeartbeats 1000000 in
theorem here_other1 {B cb mu md : Nat} {W0 : World} (kind pl num : Int) (name op : ByteArray) (ad : Option Addr) (len cap : Nat) (hwf : (Lit.int .i64 pl).wf = true) (hl : len ≤ 2 ^ 63 - 1) (w : World) (hb : Below B W0 w) (hBE : B = W0.heap.size) (star : Bool) (st : St) (m : Nat) (hck : CkAt B cb mu md w star st m) (hm : m + 1 ≤ 1000000) (h3 : kind ≠ 3) (h17 : kind ≠ 17) (h22 : kind ≠ 22) (h43 : kind ≠ 43) (q1 q2 : Int) (hdd : declI ⟨kind, pl, name, num, op⟩ q1 = true) :
    Calls Try.prog 16 #[.pointer (some ⟨cb, 0, none⟩), .agg #[.int .i64 kind, .int .i64 pl, .string name, .int .u64 num, .string op, .slice ad len cap]] w (PcPost B cb mu md w star (takeD st pl) (m + 1)) := by
  obtain ⟨wb, hwb⟩ : ∃ wb, wb = w.alloc (.cells #[.int .i64 kind, .int .i64 pl, .string name, .int .u64 num, .string op, .slice ad len cap] 25) := ⟨_, rfl⟩
  have hbl : Below w.heap.size w wb := by rw [hwb]; exact (Below.refl _ _).alloc (Nat.le_refl _) _
  have HF : Hid (Fp B W0 w (Cs cb mu md) w.heap.size #[.int .i64 kind, .int .i64 pl, .string name, .int .u64 num, .string op, .slice ad len cap] wb) := by rw [hwb]; exact Fp.start hb hck.size hck.lts _ _
  have HCK : Hid (CkAt B cb mu md wb star st m) := hck.new hbl
  have HM : Hid (m + 1 ≤ 1000000 ∧ (Lit.int .i64 pl).wf = true ∧ Below w.heap.size w wb) := ⟨hm, hwf, hbl⟩
  obtain ⟨c0, f0, c1, c2⟩ := HCK.out.cells
  have b0 : wb.cell? ⟨w.heap.size, 0, none⟩ = some (.int .i64 kind) := HF.out.box 0 _ rfl
  have b1 : wb.cell? ⟨w.heap.size, 1, none⟩ = some (.int .i64 pl) := HF.out.box 1 _ rfl
  have b2 : wb.cell? ⟨w.heap.size, 2, none⟩ = some (.string name) := HF.out.box 2 _ rfl
  have b3 : wb.cell? ⟨w.heap.size, 3, none⟩ = some (.int .u64 num) := HF.out.box 3 _ rfl
  have b4 : wb.cell? ⟨w.heap.size, 4, none⟩ = some (.string op) := HF.out.box 4 _ rfl
  have b5 : wb.cell? ⟨w.heap.size, 5, none⟩ = some (.slice ad len cap) := HF.out.box 5 _ rfl
  clear hbl hck hm hwf hb
  have n3 : (kind == 3) = false := by simpa using h3
  have n17 : (kind == 17) = false := by simpa using h17
  have n22 : (kind == 22) = false := by simpa using h22
  have n43 : (kind == 43) = false := by simpa using h43
  have hdc := declares_any (⟨kind, pl, name, num, op⟩ : Nd) ad len cap W0 wb.drew (hBE ▸ (HF.out.bel).drew) hl q1 q2 (fun q => absurd q h43)
  rw [hdd] at hdc
  unfold ndA at hdc
  simp only at hdc
  have HD : Hid (CkAt B cb mu md wb star st m) := HCK.out
  go_enter Try.func16, Try.ntmps16
  go_upto_region 1 with fail
  rw [← hwb]
  clear hwb
  go_wp2_with fail
  go_region_held_law (fun w' => w'.cell? ⟨w.heap.size, 0, none⟩ = some (.int .i64 kind) ∧ w'.cell? ⟨w.heap.size, 1, none⟩ = some (.int .i64 pl) ∧ w'.cell? ⟨w.heap.size, 2, none⟩ = some (.string name) ∧ w'.cell? ⟨w.heap.size, 3, none⟩ = some (.int .u64 num) ∧ w'.cell? ⟨w.heap.size, 4, none⟩ = some (.string op) ∧ w'.cell? ⟨w.heap.size, 5, none⟩ = some (.slice ad len cap) ∧ w'.cell? ⟨cb, 2, none⟩ = some (.map (some md))) (first | exact kk2 | exact kk | go_keep)
    (first
      | (go_at_call 25; refine hdc.mono ?_; rintro e w2 ⟨rfl, hb2⟩; have FD : Fp B W0 w (Cs cb mu md) w.heap.size #[.int .i64 kind, .int .i64 pl, .string name, .int .u64 num, .string op, .slice ad len cap] w2 := (HF.out.call (Chg.of_below (Below.refl wb.heap.size wb).drew)).call (Chg.of_below hb2); have CD : CkAt B cb mu md w2 star st m := (HCK.out.new (Below.refl wb.heap.size wb).drew).new hb2; have kk := And.intro (FD.box 0 _ rfl) (And.intro (FD.box 1 _ rfl) (And.intro (FD.box 2 _ rfl) (And.intro (FD.box 3 _ rfl) (And.intro (FD.box 4 _ rfl) (And.intro (FD.box 5 _ rfl) CD.cells.2.2.2))))); have hc := takeD_ck CD HM.out.1 pl HM.out.2.1)
      | (go_at_call 24; refine hc.mono ?_; rintro e w3 ⟨⟨rfl, h3, h4⟩, k1, k2⟩; have FE := FD.call h3; have kk2 := And.intro (FE.box 0 _ rfl) (And.intro (FE.box 1 _ rfl) (And.intro (FE.box 2 _ rfl) (And.intro (FE.box 3 _ rfl) (And.intro (FE.box 4 _ rfl) (And.intro (FE.box 5 _ rfl) k2))))); have HX : Hid (PcPost B cb mu md w star (takeD st pl) (m + 1) (.returned (.bool (takeD st pl).isSome)) w3) := ⟨rfl, FE.chg, h4⟩; clear h3 h4))
  go_wp2_with fail
  go_ret
  exact HX.out

set_option maxRecDepth 100000 in
set_option maxHeartbeats 1000000 in
theorem here_43a {B cb mu md : Nat} {W0 : World} (pl num : Int) (name op : ByteArray) (ad : Option Addr) (len cap : Nat) (hwf : (Lit.int .i64 pl).wf = true) (hl : len ≤ 2 ^ 63 - 1) (w : World) (hb : Below B W0 w) (hBE : B = W0.heap.size) (star : Bool) (st : St) (m : Nat) (hck : CkAt B cb mu md w star st m) (hm : m + 1 ≤ 1000000) (q1 q2 : Int) (h2 : Two W0 ad len q1 q2) (hq1 : q1 ≠ 0) (hdd : declI ⟨43, pl, name, num, op⟩ q1 = true) :
    Calls Try.prog 16 #[.pointer (some ⟨cb, 0, none⟩), .agg #[.int .i64 43, .int .i64 pl, .string name, .int .u64 num, .string op, .slice ad len cap]] w (PcPost B cb mu md w star (takeD st pl) (m + 1)) := by
  have hall := h2
  obtain ⟨hl3, b, off, rfl, hcc⟩ := h2
  obtain ⟨wb, hwb⟩ : ∃ wb, wb = w.alloc (.cells #[.int .i64 43, .int .i64 pl, .string name, .int .u64 num, .string op, .slice (some ⟨b, off, none⟩) len cap] 25) := ⟨_, rfl⟩
  have hbl : Below w.heap.size w wb := by rw [hwb]; exact (Below.refl _ _).alloc (Nat.le_refl _) _
  have HF : Hid (Fp B W0 w (Cs cb mu md) w.heap.size #[.int .i64 43, .int .i64 pl, .string name, .int .u64 num, .string op, .slice (some ⟨b, off, none⟩) len cap] wb) := by rw [hwb]; exact Fp.start hb hck.size hck.lts _ _
  have HCK : Hid (CkAt B cb mu md wb star st m) := hck.new hbl
  have HM : Hid (m + 1 ≤ 1000000 ∧ (Lit.int .i64 pl).wf = true ∧ Below w.heap.size w wb) := ⟨hm, hwf, hbl⟩
  obtain ⟨c0, f0, c1, c2⟩ := HCK.out.cells
  have b0 : wb.cell? ⟨w.heap.size, 0, none⟩ = some (.int .i64 43) := HF.out.box 0 _ rfl
  have b1 : wb.cell? ⟨w.heap.size, 1, none⟩ = some (.int .i64 pl) := HF.out.box 1 _ rfl
  have b2 : wb.cell? ⟨w.heap.size, 2, none⟩ = some (.string name) := HF.out.box 2 _ rfl
  have b3 : wb.cell? ⟨w.heap.size, 3, none⟩ = some (.int .u64 num) := HF.out.box 3 _ rfl
  have b4 : wb.cell? ⟨w.heap.size, 4, none⟩ = some (.string op) := HF.out.box 4 _ rfl
  have b5 : wb.cell? ⟨w.heap.size, 5, none⟩ = some (.slice (some ⟨b, off, none⟩) len cap) := HF.out.box 5 _ rfl
  clear hbl hck hm hwf hb
  have lt1 : 1 < len := by omega
  have lt2 : 2 < len := by omega
  have z1 := (hcc wb (hBE ▸ HF.out.bel)).1
  have z2 := (hcc wb (hBE ▸ HF.out.bel)).2
  have HALL : Hid (Two W0 (some ⟨b, off, none⟩) len q1 q2) := hall
  clear hcc hall
  have nq1 : (q1 == 0) = false := by simpa using hq1
  clear hq1
  have hdc := declares_any (⟨43, pl, name, num, op⟩ : Nd) (some ⟨b, off, none⟩) len cap W0 wb.drew (hBE ▸ (HF.out.bel).drew) hl q1 q2 (fun _ => HALL.out)
  rw [hdd] at hdc
  unfold ndA at hdc
  simp only at hdc
  have HD : Hid (CkAt B cb mu md wb star st m) := HCK.out
  go_enter Try.func16, Try.ntmps16
  go_upto_region 1 with fail
  rw [← hwb]
  clear hwb
  go_wp2_with fail
  go_region_held_law (fun w' => w'.cell? ⟨w.heap.size, 0, none⟩ = some (.int .i64 43) ∧ w'.cell? ⟨w.heap.size, 1, none⟩ = some (.int .i64 pl) ∧ w'.cell? ⟨w.heap.size, 2, none⟩ = some (.string name) ∧ w'.cell? ⟨w.heap.size, 3, none⟩ = some (.int .u64 num) ∧ w'.cell? ⟨w.heap.size, 4, none⟩ = some (.string op) ∧ w'.cell? ⟨w.heap.size, 5, none⟩ = some (.slice (some ⟨b, off, none⟩) len cap) ∧ w'.cell? ⟨cb, 2, none⟩ = some (.map (some md))) (first | exact kk2 | exact kk | go_keep)
    (first
      | (go_at_call 25; refine hdc.mono ?_; rintro e w2 ⟨rfl, hb2⟩; have FD : Fp B W0 w (Cs cb mu md) w.heap.size #[.int .i64 43, .int .i64 pl, .string name, .int .u64 num, .string op, .slice (some ⟨b, off, none⟩) len cap] w2 := (HF.out.call (Chg.of_below (Below.refl wb.heap.size wb).drew)).call (Chg.of_below hb2); have CD : CkAt B cb mu md w2 star st m := (HCK.out.new (Below.refl wb.heap.size wb).drew).new hb2; have kk := And.intro (FD.box 0 _ rfl) (And.intro (FD.box 1 _ rfl) (And.intro (FD.box 2 _ rfl) (And.intro (FD.box 3 _ rfl) (And.intro (FD.box 4 _ rfl) (And.intro (FD.box 5 _ rfl) CD.cells.2.2.2))))); have hc := takeD_ck CD HM.out.1 pl HM.out.2.1)
      | (go_at_call 24; refine hc.mono ?_; rintro e w3 ⟨⟨rfl, h3, h4⟩, k1, k2⟩; have FE := FD.call h3; have kk2 := And.intro (FE.box 0 _ rfl) (And.intro (FE.box 1 _ rfl) (And.intro (FE.box 2 _ rfl) (And.intro (FE.box 3 _ rfl) (And.intro (FE.box 4 _ rfl) (And.intro (FE.box 5 _ rfl) k2))))); have HX : Hid (PcPost B cb mu md w star (takeD st pl) (m + 1) (.returned (.bool (takeD st pl).isSome)) w3) := ⟨rfl, FE.chg, h4⟩; clear h3 h4))
  go_wp2_with fail
  go_ret
  exact HX.out

set_option maxRecDepth 100000 in
set_option maxHeartbeats 1000000 in
theorem here_43b {B cb mu md : Nat} {W0 : World} (pl num : Int) (name op : ByteArray) (ad : Option Addr) (len cap : Nat) (hwf : (Lit.int .i64 pl).wf = true) (hl : len ≤ 2 ^ 63 - 1) (w : World) (hb : Below B W0 w) (hBE : B = W0.heap.size) (star : Bool) (st : St) (m : Nat) (hck : CkAt B cb mu md w star st m) (hm : m + 1 ≤ 1000000) (q1 q2 : Int) (h2 : Two W0 ad len q1 q2) (hq1 : q1 = 0) (hq2 : q2 ≠ 0) (hdd : declI ⟨43, pl, name, num, op⟩ q1 = false) :
    Calls Try.prog 16 #[.pointer (some ⟨cb, 0, none⟩), .agg #[.int .i64 43, .int .i64 pl, .string name, .int .u64 num, .string op, .slice ad len cap]] w (PcPost B cb mu md w star (some st) (m + 1)) := by
  have hall := h2
  obtain ⟨hl3, b, off, rfl, hcc⟩ := h2
  obtain ⟨wb, hwb⟩ : ∃ wb, wb = w.alloc (.cells #[.int .i64 43, .int .i64 pl, .string name, .int .u64 num, .string op, .slice (some ⟨b, off, none⟩) len cap] 25) := ⟨_, rfl⟩
  have hbl : Below w.heap.size w wb := by rw [hwb]; exact (Below.refl _ _).alloc (Nat.le_refl _) _
  have HF : Hid (Fp B W0 w (Cs cb mu md) w.heap.size #[.int .i64 43, .int .i64 pl, .string name, .int .u64 num, .string op, .slice (some ⟨b, off, none⟩) len cap] wb) := by rw [hwb]; exact Fp.start hb hck.size hck.lts _ _
  have HCK : Hid (CkAt B cb mu md wb star st m) := hck.new hbl
  have HM : Hid (m + 1 ≤ 1000000 ∧ (Lit.int .i64 pl).wf = true ∧ Below w.heap.size w wb) := ⟨hm, hwf, hbl⟩
  obtain ⟨c0, f0, c1, c2⟩ := HCK.out.cells
  have b0 : wb.cell? ⟨w.heap.size, 0, none⟩ = some (.int .i64 43) := HF.out.box 0 _ rfl
  have b1 : wb.cell? ⟨w.heap.size, 1, none⟩ = some (.int .i64 pl) := HF.out.box 1 _ rfl
  have b2 : wb.cell? ⟨w.heap.size, 2, none⟩ = some (.string name) := HF.out.box 2 _ rfl
  have b3 : wb.cell? ⟨w.heap.size, 3, none⟩ = some (.int .u64 num) := HF.out.box 3 _ rfl
  have b4 : wb.cell? ⟨w.heap.size, 4, none⟩ = some (.string op) := HF.out.box 4 _ rfl
  have b5 : wb.cell? ⟨w.heap.size, 5, none⟩ = some (.slice (some ⟨b, off, none⟩) len cap) := HF.out.box 5 _ rfl
  clear hbl hck hm hwf hb
  have lt1 : 1 < len := by omega
  have lt2 : 2 < len := by omega
  have z1 := (hcc wb (hBE ▸ HF.out.bel)).1
  have z2 := (hcc wb (hBE ▸ HF.out.bel)).2
  have HALL : Hid (Two W0 (some ⟨b, off, none⟩) len q1 q2) := hall
  clear hcc hall
  have nq2 : (q2 == 0) = false := by simpa using hq2
  rw [hq1] at z1
  have hdc := declares_any (⟨43, pl, name, num, op⟩ : Nd) (some ⟨b, off, none⟩) len cap W0 wb.drew (hBE ▸ (HF.out.bel).drew) hl q1 q2 (fun _ => HALL.out)
  rw [hdd] at hdc
  unfold ndA at hdc
  simp only at hdc
  have HD : Hid (CkAt B cb mu md wb star st m) := HCK.out
  go_enter Try.func16, Try.ntmps16
  go_upto_region 1 with fail
  rw [← hwb]
  clear hwb
  go_wp2_with fail
  first
   | (go_region_with ((go_at_call 25; refine hdc.mono ?_; rintro e w2 ⟨rfl, hb2⟩; have FD : Fp B W0 w (Cs cb mu md) w.heap.size #[.int .i64 43, .int .i64 pl, .string name, .int .u64 num, .string op, .slice (some ⟨b, off, none⟩) len cap] w2 := (HF.out.call (Chg.of_below (Below.refl wb.heap.size wb).drew)).call (Chg.of_below hb2); have CD : CkAt B cb mu md w2 star st m := (HCK.out.new (Below.refl wb.heap.size wb).drew).new hb2; have HX : Hid (PcPost B cb mu md w star (some st) (m + 1) (.returned (.bool true)) w2) := ⟨rfl, FD.chg, fun st' q => by cases q; exact CD.more (by omega)⟩; clear hb2 FD CD)))
   | fail
  all_goals
    go_wp2_with fail
    go_ret
    exact HX.out

end Go.Proofs.Ytihmdcdifakepab.Sc
