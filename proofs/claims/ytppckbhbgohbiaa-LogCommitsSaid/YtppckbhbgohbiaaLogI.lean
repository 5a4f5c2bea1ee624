/- Logs: what the statements themselves call: Entries, Fits, rises; the document's Meet. -/
import Derived.Test.YtppckbhbgohbiaaLogH
namespace Go.Proofs.Ytppckbhbgohbiaa.Lg
open Go.RowKit Go.Proofs.Ytppckbhbgohbiaa
set_option linter.unusedVariables false

def seven (ts : List Int) : List Ent := ts.map fun t => (t, [7])
theorem seven_take_succ (ts : List Int) (k : Nat) (h : k < ts.length) : seven (ts.take (k + 1)) = seven (ts.take k) ++ [(at0 ts k, [7])] := by
  unfold seven
  rw [List.take_succ_eq_append_getElem h, List.map_append]
  simp [at0, List.getD_eq_getElem?_getD, h]

/-- a fresh entry, whose byte lies in a block of its own -/
theorem ent_fresh {w w1 : World} {row : Option Nat} (T : TypeId) (t : Int) (ht : (Lit.int .i64 t).wf = true) (hx : Ext (w.alloc (.cells #[.int .u8 7] T)) w1) (hr : ∀ k, row = some k → k < w.heap.size) :
    LEnt.AllK w1 row [.int .i64 t, .slice (some ⟨w.heap.size, 0, none⟩) 1 1] [(t, [7])] := by
  intro w' hg
  refine Lay.All.single ⟨[.int .i64 t], [.slice (some ⟨w.heap.size, 0, none⟩) 1 1], rfl, ⟨rfl, ht⟩, _, rfl, _, _, _, rfl, ?_, by omega, by omega, fun _ => ⟨_, _, rfl⟩⟩
  refine ⟨rfl, by omega, [.int .u8 7], ⟨[.int .u8 7], [], rfl, ⟨rfl, by decide⟩, rfl⟩, fun _ => ⟨_, 0, rfl, fun j u hu => ?_⟩⟩
  have h1 : w1.heap[w.heap.size]? = some (.cells #[.int .u8 7] T (0, 0)) := by
    rw [hx.block _ (by simp), heap_alloc_new]
  have h2 : w'.heap[w.heap.size]? = some (.cells #[.int .u8 7] T (0, 0)) := by
    rw [hg.block _ (Nat.lt_of_lt_of_le (by simp) hx.size) (fun e => by have := hr _ e.symm; omega), h1]
  rw [cell_of_row _ _ _ _ _ _ h2, Nat.zero_add]
  simpa using hu

def EntriesR (w : World) (ts : List Int) (n : Nat) (v i : Value) (wr : World) : Prop := ∃ k : Nat, k ≤ n ∧ i = .int .i64 k ∧ LEnt.Own wr w.heap.size 34 v (seven (ts.take k)) ∧ Ext w wr

set_option maxRecDepth 100000 in
set_option maxHeartbeats 1000000 in
theorem entries_any (p : Option Addr) (n c : Nat) (ts : List Int) (w : World) (h : RowI .i64 w p n ts) (hw : ∀ t ∈ ts, (Lit.int .i64 t).wf = true) (hn : n ≤ 1000) :
    Calls Try.prog 25 #[.slice p n c] w fun e w' => (∃ v, e = .returned v ∧ LEnt.Own w' w.heap.size 34 v (seven ts)) ∧ Ext w w' := by
  obtain ⟨i0, hi0, hz0, hz1, hz2⟩ := info_parts info_elem
  have HP := Lib.hid h
  have HW := Lib.hid hw
  clear h hw
  have HO := Lib.hid (Lay.Own.made (E := LEnt) w #[] 0 w.heap.size 34 (Nat.le_refl _) (by decide) rfl)
  go_enter Try.func25, Try.ntmps25
  go_wp2
  go_loopw [3, 4] (fun v i wr => EntriesR w ts n v i wr) (fun _ i _ => n - (intOf i).toNat)
  case atStart => exact ⟨0, by omega, rfl, HO.out, Ext.alloc _ _⟩
  case round =>
    obtain ⟨k, hk, rfl, hown, hx⟩ := hrel
    have HO2 := Lib.hid hown
    clear hown HO
    by_cases hlt : k < n
    · obtain ⟨b, off, rfl, hc⟩ := HP.out.2.2 (by omega)
      have cx := hx.cell (hc k hlt)
      have cx2 : ∀ o, (wr.alloc o).cell? ⟨b, off + k, none⟩ = some (.int .i64 (at0 ts k)) := fun o => (Ext.alloc wr o).cell cx
      have hlt' : (k : Int) < (n : Int) := by omega
      have hlt0 : (0 : Int) ≤ (k : Int) := by omega
      have hwf : (Lit.int .i64 (at0 ts k)).wf = true := HW.out _ (by
        have hk2 : k < ts.length := by rw [HP.out.1]; exact hlt
        rw [show at0 ts k = ts[k] by simp [at0, List.getD_eq_getElem?_getD, hk2]]
        exact List.getElem_mem hk2)
      have HS := Lib.hid (seven_take_succ ts k (by rw [HP.out.1]; exact hlt))
      have HLN : Hid ((seven (ts.take k)).length + 1 ≤ 2000) := Lib.hid (by unfold seven; simp [HP.out.1]; omega)
      have HWF := Lib.hid hwf
      clear hc hwf
      generalize at0 ts k = t at cx cx2 HS HWF
      have X2 : Ext wr ((wr.alloc (.cells #[.int .u8 7] 5)).alloc (.cells #[.int .i64 t, .slice (some ⟨wr.heap.size, 0, none⟩) 1 1] 34)) := Ext.trans (Ext.alloc _ _) (Ext.alloc _ _)
      have HO3 := Lib.hid (HO2.out.ext X2)
      have HRK : Hid (∀ row, (∀ k, row = some k → k < wr.heap.size) → LEnt.RowK ((wr.alloc (.cells #[.int .u8 7] 5)).alloc (.cells #[.int .i64 t, .slice (some ⟨wr.heap.size, 0, none⟩) 1 1] 34)) row (some ⟨wr.heap.size + 1, 0, none⟩) 1 [(t, [7])]) := Lib.hid fun row hr => Lay.RowK.lit (Ext.refl _) (ent_fresh _ t HWF.out (Ext.alloc _ _) hr) (by simp) rfl (by omega)
      go_wp2_with (at_builtin; go_loud (refine Lay.wpList_append (E := LEnt) rfl (.tmp 12) (.tmp 19) 22 rfl w.heap.size 34 i0 (.agg #[.int .i64 0, .slice none 0 0]) 32 Try.underlying22 hi0 hz0 hz1 hz2 rfl _ (seven (ts.take k)) rfl HO3.out (some ⟨wr.heap.size + 1, 0, none⟩) 1 1 [(t, [7])] rfl (fun _ => ⟨_, _, rfl⟩) (by omega) (HRK.out _ (fun k hk => (HO2.out.lt k hk).2)) (by have := HLN.out; unfold maxLen; omega) (by have := HLN.out; omega) (Ext.trans hx X2).size ?_); intro v2 w2 hown2 hg2)
      have X := HO3.out.below (Ext.trans hx X2) (Nat.le_refl _) hg2
      rw [← HS.out] at hown2
      have HO4 := Lib.hid hown2
      clear hown2 hg2 HO3 X2 HRK
      go_wp2
      go_roundw
      case rel => exact ⟨k + 1, by omega, by go_num, HO4.out, X⟩
      case measure => simp [intOf]; omega
    · obtain rfl : k = n := by omega
      have hO := HO2.out
      rw [List.take_of_length_le (by rw [HP.out.1]; omega)] at hO
      have HO5 := Lib.hid hO
      clear hO
      go_wp2
      go_ret
      exact ⟨⟨_, rfl, HO5.out⟩, hx⟩

def Small (l : List Ent) : Prop := l.length ≤ 60 ∧ ∀ x ∈ l, x.2.length ≤ 40
def FitsR (w : World) (l : List Ent) (n : Nat) (i : Value) (wr : World) : Prop := ∃ k : Nat, k ≤ n ∧ i = .int .i64 k ∧ Hid (∀ j x, j < k → l[j]? = some x → x.2.length ≤ 40) ∧ Ext w wr

set_option maxRecDepth 100000 in
set_option maxHeartbeats 1000000 in
theorem small_any (p : Option Addr) (n c : Nat) (l : List Ent) (w : World) (h : LEnt.Row w p n l) :
    Calls Try.prog 11 #[.slice p n c] w fun e w' => Tells (Small l) w e w' := by
  have HP := Lib.hid h
  have hn := h.2.1
  clear h
  by_cases h60 : n ≤ 60
  · have h60' : (n : Int) ≤ 60 := by omega
    go_enter Try.func11, Try.ntmps11
    go_wp2
    go_loopw [3] (fun i wr => FitsR w l n i wr) (fun i _ => n - (intOf i).toNat)
    case atStart => exact ⟨0, by omega, rfl, Lib.hid (by intro j x hj; omega), Ext.refl _⟩
    case round =>
      obtain ⟨k, hk, rfl, HE, hx⟩ := hrel
      by_cases hlt : k < n
      · have gx := ent_get (l := l) (j := k) (by rw [HP.out.1]; exact hlt)
        generalize l.getD k (0, []) = x at gx
        obtain ⟨b, off, q, m, d, rfl, x0, x1, _, rx, _⟩ := ent_at (HP.out.ext hx) gx
        have HX : Hid (x.2.length = m) := rx.1
        have hm := rx.2.1
        have GX := Lib.hid gx
        have hlt' : (k : Int) < (n : Int) := by omega
        have hlt0 : (0 : Int) ≤ (k : Int) := by omega
        clear rx gx
        by_cases h40 : m ≤ 40
        · have h40' : (m : Int) ≤ 40 := by omega
          go_wp2
          go_roundw
          case rel => exact ⟨k + 1, by omega, by go_num, Lib.hid (fun j y hj hy => by
            by_cases e : j = k
            · subst e
              have h1 := GX.out
              rw [hy] at h1
              simp only [Option.some.injEq] at h1
              rw [h1, HX.out]; exact h40
            · exact HE.out j y (by omega) hy), hx⟩
          case measure => simp [intOf]; omega
        · have h40' : (40 : Int) < (m : Int) := by omega
          go_wp2
          go_ret
          exact Tells.no (fun h => h40 (by rw [← HX.out]; exact h.2 x (List.mem_of_getElem? GX.out))) hx
      · obtain rfl : k = n := by omega
        go_wp2
        go_ret
        refine Tells.yes ⟨by rw [HP.out.1]; exact h60, fun x hm => ?_⟩ hx
        obtain ⟨j, hj, he⟩ := List.mem_iff_getElem.1 hm
        exact HE.out j x (by rw [← HP.out.1]; exact hj) (by rw [List.getElem?_eq_getElem hj, he])
  · have h60' : (60 : Int) < (n : Int) := by omega
    go_enter Try.func11, Try.ntmps11
    go_wp2
    go_ret
    exact Tells.no (fun h => h60 (by rw [← HP.out.1]; exact h.1)) (Ext.refl _)
end Go.Proofs.Ytppckbhbgohbiaa.Lg
