/- Caches: the arguments. -/
import Derived.Test.YtfhdmglfpkmjbaaHV
import Derived.Test.YtfhdmglfpkmjbaaNC
namespace Go.Proofs.Ytfhdmglfpkmjbaa.Hp
open Go.RowKit Go.ChangeShapes Go.WideShapes
set_option linter.unusedVariables false

section
variable {H : Type} {enc : TypeId × Value → H} {w : World} {base b0 : Nat} {spare : Nat → Bool} {held : Bool} {r : Reach} {v : Value}

theorem open_en {n : Nat} {cs : List Value} {x : DataW H × List MemPlace} (h : DataW.trod enc Try.prog w base spare held n 26 cs = some x) : ∃ y : En, cs = encE y ∧ True := by
  obtain ⟨xs, k, hk, hxy, hlen, hxl, hf⟩ := DataW.trod_struct Try.underlying26 h
  rw [show Try.prog.cellsOf 26 = 4 by kernel_rfl] at hlen
  have hxl : xs.length = 4 := hxl
  match cs, hlen, xs, hxl with
  | [v0, v1, v2, v3], _, [y0, y1, y2, y3], _ =>
    have g0 : DataW.trod enc Try.prog w base spare held k 3 [v0] = some y0 := hf 0 _ rfl
    obtain ⟨a0, e0, _, _⟩ := DataW.trod_int Try.underlying3 g0
    obtain rfl : v0 = _ := by simpa using e0
    have g1 : DataW.trod enc Try.prog w base spare held k 3 [v1] = some y1 := hf 1 _ rfl
    obtain ⟨a1, e1, _, _⟩ := DataW.trod_int Try.underlying3 g1
    obtain rfl : v1 = _ := by simpa using e1
    have g2 : DataW.trod enc Try.prog w base spare held k 3 [v2] = some y2 := hf 2 _ rfl
    obtain ⟨a2, e2, _, _⟩ := DataW.trod_int Try.underlying3 g2
    obtain rfl : v2 = _ := by simpa using e2
    have g3 : DataW.trod enc Try.prog w base spare held k 3 [v3] = some y3 := hf 3 _ rfl
    obtain ⟨a3, e3, _, _⟩ := DataW.trod_int Try.underlying3 g3
    obtain rfl : v3 = _ := by simpa using e3
    exact ⟨⟨a0, a1, a2, a3⟩, rfl, trivial⟩

theorem agg_of {t : TypeId} {d : TypeDesc} {l : List Value} {cs : Array Value} (h : (Value.agg cs).cells.toList = l) : Value.agg cs = .agg l.toArray := by
  have : cs.toList = l := h
  rw [← this]

theorem agg_en (hval : Value.okWide Try.prog w r b0 26 v) {y : En} (h : v.cells.toList = encE y) : v = y.val := by
  obtain ⟨cs, rfl, hc⟩ := okWide_struct Try.underlying26 hval
  have : cs.toList = encE y := h
  obtain ⟨cl⟩ := cs
  simp only at this
  subst this
  rfl

theorem open_site {n : Nat} {cs : List Value} {x : DataW H × List MemPlace} (h : DataW.trod enc Try.prog w base spare held n 24 cs = some x) :
    ∃ (st : Int) (s : Sli En), cs = [.int .i64 st, s.val] ∧ s.ok encE 4 w ∧ (s.xs = [] ∨ ∃ st' els sp, x.1 = .agg [st', .slice els sp] ∧ els.length = s.xs.length) := by
  obtain ⟨xs, k, hk, hxy, hlen, hxl, hf⟩ := DataW.trod_struct Try.underlying24 h
  rw [show Try.prog.cellsOf 24 = 2 by kernel_rfl] at hlen
  have hxl : xs.length = 2 := hxl
  match cs, hlen, xs, hxl with
  | [v0, v1], _, [y0, y1], _ =>
    have g0 : DataW.trod enc Try.prog w base spare held k 3 [v0] = some y0 := hf 0 _ rfl
    obtain ⟨a0, e0, _, _⟩ := DataW.trod_int Try.underlying3 g0
    obtain rfl : v0 = _ := by simpa using e0
    have g1 : DataW.trod enc Try.prog w base spare held k 22 [v1] = some y1 := hf 1 _ rfl
    obtain ⟨s, e1, e2, e3, e4⟩ := open_sl encE (fun _ => True) Try.underlying22 (show Try.prog.cellsOf 26 = 4 by kernel_rfl) (by omega) (fun _ => rfl) (fun n cs' x' h => open_en h) g1
    obtain rfl : v1 = _ := by simpa using e1
    refine ⟨a0, s, rfl, e2, e4.imp id ?_⟩
    rintro ⟨els, sp, h1, h2⟩
    refine ⟨y0.1, els, sp, ?_, h2⟩
    rw [hxy, ← h1]
    rfl

theorem agg_site (hval : Value.okWide Try.prog w r b0 24 v) {st : Int} {s : Sli En} (h : v.cells.toList = [.int .i64 st, s.val]) : v = .agg #[.int .i64 st, s.val] := by
  obtain ⟨cs, rfl, hc⟩ := okWide_struct Try.underlying24 hval
  have : cs.toList = _ := h
  obtain ⟨cl⟩ := cs
  simp only at this
  subst this
  rfl
end

/-- how long a slice may be -/
theorem ents_len {H : Type} {ts : List TypeId} {ds : List (DataW H)} (hw : (DataW.weightsEach Try.prog ts ds).all (· ≤ reachBytes) = true) {j : Nat} (ht : ts[j]? = some 22) {d : DataW H} (hd : ds[j]? = some d) {xs : List En} (h : xs = [] ∨ ∃ els sp, d = .slice els sp ∧ els.length = xs.length) : xs.length ≤ 4398046511104 := by
  rcases h with h | ⟨els, sp, rfl, h⟩
  · rw [h]; exact Nat.zero_le _
  · have h3 := sized_slice hw ht hd Try.underlying22
    rw [show Try.prog.bytesOf 26 = 32 by kernel_rfl] at h3
    have h4 : reachBytes = 140737488351232 := rfl
    rw [h4] at h3
    have h5 : els.length * 32 ≤ 140737488351232 := Nat.le_trans (Nat.mul_le_mul_right _ (by omega)) h3
    omega
theorem site_len {H : Type} {ts : List TypeId} {ds : List (DataW H)} (hw : (DataW.weightsEach Try.prog ts ds).all (· ≤ reachBytes) = true) {j : Nat} (ht : ts[j]? = some 24) {d : DataW H} (hd : ds[j]? = some d) {xs : List En} (h : xs = [] ∨ ∃ st els sp, d = .agg [st, .slice els sp] ∧ els.length = xs.length) : xs.length ≤ 4398046511104 := by
  rcases h with h | ⟨st, els, sp, rfl, h⟩
  · rw [h]; exact Nat.zero_le _
  · have hm := List.all_eq_true.1 hw _ (DataW.weights_mem_each ht hd ((els.length + sp.length) * Try.prog.bytesOf 26) (by simp [DataW.weights, DataW.weightsEach, Try.underlying24, Try.underlying22]))
    have h3 : (els.length + sp.length) * Try.prog.bytesOf 26 ≤ reachBytes := by simpa using hm
    rw [show Try.prog.bytesOf 26 = 32 by kernel_rfl] at h3
    have h4 : reachBytes = 140737488351232 := rfl
    rw [h4] at h3
    have h5 : els.length * 32 ≤ 140737488351232 := Nat.le_trans (Nat.mul_le_mul_right _ (by omega)) h3
    omega

theorem some_bulk {H : Type} (d : DataW H) : 1 ≤ Rows.uptoBulk d := by
  cases d with
  | lit l => cases l <;> simp [Rows.uptoBulk]
  | _ => simp [Rows.uptoBulk]

/-- a list has no more parts than its bulk -/
theorem list_bulk {H : Type} : ∀ l : List (DataW H), l.length ≤ Rows.uptoBulkAll l
  | [] => Nat.zero_le _
  | d :: l => by
    have h1 := some_bulk d
    have h2 := list_bulk l
    simp only [Rows.uptoBulkAll, List.length_cons]
    omega

theorem slice_bulk {H : Type} (els sp : List (DataW H)) : els.length + 1 ≤ Rows.uptoBulk (.slice els sp) := by
  have := list_bulk els
  simp only [Rows.uptoBulk]
  omega
theorem site_bulk {H : Type} (d : DataW H) (els sp : List (DataW H)) : els.length + 1 ≤ Rows.uptoBulk (.agg [d, .slice els sp]) := by
  have := slice_bulk els sp
  simp only [Rows.uptoBulk, Rows.uptoBulkAll] at *
  omega
end Go.Proofs.Ytfhdmglfpkmjbaa.Hp
