/- Text, TextOf. -/
import Derived.Test.YtkpdpdllbnihgaaHR
import Derived.Test.YtkpdpdllbnihgaaHH
namespace Go.Proofs.Ytkpdpdllbnihgaa.Hp
open Go.RowKit
set_option linter.unusedVariables false

def txI (tx : List ByteArray) (s : ByteArray) : Option Nat := tx.findIdx? (fun t => decide (t = s))

theorem txI_some {tx : List ByteArray} {s : ByteArray} {i : Nat} (h : txI tx s = some i) : tx[i]? = some s := by
  unfold txI at h
  rw [List.findIdx?_eq_some_iff_getElem] at h
  obtain ⟨h1, h2, _⟩ := h
  rw [List.getElem?_eq_getElem h1]
  simpa using h2
theorem txI_none {tx : List ByteArray} {s : ByteArray} (h : txI tx s = none) : s ∉ tx := by
  intro hp
  unfold txI at h
  rw [List.findIdx?_eq_none_iff] at h
  have := h s hp
  simp at this

theorem numd_fst (tx : List ByteArray) : (numd tx).map Prod.fst = tx := by
  unfold numd
  rw [List.map_map]
  show tx.zipIdx.map (fun x => x.1) = tx
  exact List.zipIdx_map_fst 0 tx
theorem numd_ok {tx : List ByteArray} (hn : tx.Nodup) (hs : ∀ t ∈ tx, t.size ≤ 4096) : BkOk (numd tx) := by
  refine ⟨by rw [numd_fst]; exact hn, fun e he => ?_⟩
  have : e.1 ∈ tx := by rw [← numd_fst tx]; exact List.mem_map.2 ⟨e, he, rfl⟩
  have := hs _ this
  unfold maxLen
  omega
theorem numd_mem {tx : List ByteArray} {i : Nat} {s : ByteArray} (h : tx[i]? = some s) : (s, (i : Int)) ∈ numd tx := by
  unfold numd
  refine List.mem_map.2 ⟨(s, i), ?_, rfl⟩
  rw [List.mem_iff_getElem?]
  exact ⟨i, by rw [List.getElem?_zipIdx, h]; simp⟩
theorem numd_lk {tx : List ByteArray} (hn : tx.Nodup) (s : ByteArray) : lk (numd tx) s = (txI tx s).map (fun n => (s, (n : Int))) := by
  cases h : txI tx s with
  | some i =>
    rw [lk_some (by rw [numd_fst]; exact hn) (s, (i : Int)) (numd_mem (txI_some h)) rfl]
    rfl
  | none =>
    rw [lk_none (fun x hx e => txI_none h (by rw [← e, ← numd_fst tx]; exact List.mem_map.2 ⟨x, hx, rfl⟩))]
    rfl
theorem numd_push (tx : List ByteArray) (s : ByteArray) : numd (tx ++ [s]) = numd tx ++ [(s, (tx.length : Int))] := by
  unfold numd
  rw [List.zipIdx_append, List.map_append]
  simp

theorem zero62 (w : World) : (zeroValue 62).run Try.prog w = .ok (.int .u32 0) w := by
  kernel_rfl

section
variable {w w' w1 : World} {B hb : Nat} {O S : Nat → Prop} {H H' : He} {M M' : HV} {tg : Nat → Nat}

/-- a text more: its row, the heap's own cell, the map -/
theorem HeapAt.text (h : HeapAt w B hb tg H M) {s : ByteArray} (hs : s.size ≤ 4096) (hno : txI H.tx s = none) (hl : H.tx.length < 16384) {w6 : World} {g6 c6 : Nat} (q1 : OwnR strC 1 9 B w6 (.slice (some ⟨g6, 0, none⟩) (H.tx.length + 1) c6) (H.tx ++ [s])) (q2 : Chg (fun b => M.vt.val.ownBlock = some b) w w6) (q3 : M.vt.val.ownBlock = some g6 ∨ w.heap.size ≤ g6) :
    ∃ w8, (Instr.mapUpdate 51 (.map (some M.mb)) (.string s) (.int .u32 (H.tx.length : Int))).run Try.prog (w6.setCell ⟨hb, 0, none⟩ (.slice (some ⟨g6, 0, none⟩) (H.tx.length + 1) c6)) = .ok () w8 ∧ (w6.setCell ⟨hb, 0, none⟩ (.slice (some ⟨g6, 0, none⟩) (H.tx.length + 1) c6)).cell? ⟨hb, 1, none⟩ = some (.map (some M.mb)) ∧ WentM w B hb tg { H with tx := H.tx ++ [s] } { M with vt := ⟨some ⟨g6, 0, none⟩, H.tx.length + 1, c6⟩ } w8 := by
  have hp2 : RowIn strC 1 9 B w _ M.vt H.tx := h.prt 2
  have ht : ∀ b, M.vt.val.ownBlock = some b → tg b = 2 := hp2.2
  have hp3 : tg M.mb = 3 ∧ MpIs w M.mb .u32 (numd H.tx) := h.prt 3
  have hB0 := h.B0
  have hmb := h.lt M.mb (by omega)
  have hnm : M.mb ≠ hb := fun e => by have := hp3.1; rw [e] at this; omega
  have hg6 := (q1.lt g6 rfl).2
  have hgm : g6 ≠ M.mb := fun e => by
    rcases q3 with c | c
    · have := ht g6 c; rw [e] at this; omega
    · omega
  have hgh : g6 ≠ hb := fun e => by
    rcases q3 with c | c
    · have := ht g6 c; rw [e] at this; omega
    · omega
  have hbx6 : w6.heap[hb]? = some (.cells (hpC H M) 58 (0, 0)) := by
    rw [q2.block hb hB0.2.1 (fun q => by have := ht hb q; omega)]
    exact (h.prt 1).2
  have hset := heap_setCell_same w6 hb 0 _ _ (.slice (some ⟨g6, 0, none⟩) (H.tx.length + 1) c6) hbx6
  generalize hw7 : w6.setCell ⟨hb, 0, none⟩ (.slice (some ⟨g6, 0, none⟩) (H.tx.length + 1) c6) = w7 at *
  have c7 : Chg (fun b => b = hb) w6 w7 := by rw [← hw7]; exact Chg.set (S := fun b => b = hb) w6 ⟨hb, 0, none⟩ _ rfl
  have hm7 : MpIs w7 M.mb .u32 (numd H.tx) := (hp3.2.kept q2 (fun q => by have := ht M.mb q; omega)).kept c7 hnm
  have hmx : s.size ≤ maxLen := by unfold maxLen; omega
  obtain ⟨w8, r1, r2, r3, r4⟩ := hm7.put (numd_ok h.wf.tn h.wf.ts) Try.underlying51 hmx (fun x hx e => txI_none hno (by rw [← e, ← numd_fst H.tx]; exact List.mem_map.2 ⟨x, hx, rfl⟩)) (H.tx.length : Int)
  have c8 : Chg (fun b => b = M.mb) w7 w8 := Chg.of_grown r3 (fun k q => by cases q; rfl)
  refine ⟨w8, r1, ?_, ?_⟩
  · rw [cell_of_row w7 hb 1 _ _ (0, 0) hset]
    rfl
  · have hcc : Chg (fun b => tg b = 2 ∨ tg b = 1 ∨ tg b = 3) w w8 := ((q2.mono (S' := fun b => tg b = 2 ∨ tg b = 1 ∨ tg b = 3) (fun b q => Or.inl (ht b q))).trans c7 (fun b _ q => Or.inr (Or.inl (by rw [show b = hb from q]; exact hB0.1)))).trans c8 (fun b _ q => Or.inr (Or.inr (by rw [show b = M.mb from q]; exact hp3.1)))
    have hsz8 : w8.heap.size = w6.heap.size := by rw [r4, ← hw7]; simp
    refine h.wentM (k0 := 2) hcc (fun b _ q => by omega) ?_
    refine h.up (H' := { H with tx := H.tx ++ [s] }) (M' := { M with vt := ⟨some ⟨g6, 0, none⟩, H.tx.length + 1, c6⟩ }) hcc (fun k => k = 2 ∨ k = 1 ∨ k = 3) 2 (fun b _ q => ⟨q, by omega⟩) (fun k q => ?_) (fun k O q hk => ?_) h.len ⟨h.wf.ob, h.wf.ol, ?_, ?_, ?_, h.wf.mo, h.wf.br⟩
    · rcases q with rfl | rfl | rfl
      · refine ⟨(q1.kept c7 (fun b q e => ?_)).kept c8 (fun b q e => ?_), fun b q => ?_⟩
        · simp [Value.ownBlock] at q; subst q; exact hgh e
        · simp [Value.ownBlock] at q; subst q; exact hgm e
        · have hbg : b = g6 := by simpa [SV.val, Value.ownBlock] using q.symm
          subst hbg
          show rtg _ _ _ _ _ = 2
          by_cases c : b < w.heap.size
          · rw [rtg_old c]
            rcases q3 with q | q
            · exact ht b q
            · omega
          · rw [rtg_new (by omega) (by omega)]
      · refine ⟨by show rtg _ _ _ _ _ = 1; rw [rtg_old hB0.2.1]; exact hB0.1, ?_⟩
        rw [c8.block hb (by rw [← hw7]; simp; have := q2.size; omega) (fun e => hnm e.symm)]
        exact hset
      · refine ⟨by show rtg _ _ _ _ _ = 3; rw [rtg_old hmb.2]; exact hp3.1, ?_⟩
        show MpIs w8 M.mb .u32 (numd (H.tx ++ [s]))
        rw [numd_push]
        exact r2
    · match k, hk, q with
      | 0, hk, q => trivial
      | 1, hk, q => exact absurd (Or.inr (Or.inl rfl)) q
      | 2, hk, q => exact absurd (Or.inl rfl) q
      | 3, hk, q => exact absurd (Or.inr (Or.inr rfl)) q
      | 4, hk, q => exact hk
      | 5, hk, q => exact hk
      | 6, hk, q => exact hk
      | k + 7, hk, q => exact hk
    · show (H.tx ++ [s]).Nodup
      rw [List.nodup_append]
      refine ⟨h.wf.tn, by simp, fun a ha b hb e => ?_⟩
      rw [List.mem_singleton.1 hb] at e
      rw [e] at ha
      exact txI_none hno ha
    · intro t ht'
      rcases List.mem_append.1 ht' with q | q
      · exact h.wf.ts t q
      · rw [List.mem_singleton.1 q]; exact hs
    · show (H.tx ++ [s]).length ≤ 16384
      rw [List.length_append, List.length_singleton]
      omega

end

end Go.Proofs.Ytkpdpdllbnihgaa.Hp
