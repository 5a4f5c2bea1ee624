/- Messages: one taken out of a row. -/
import Derived.Test.YtifbmkcfgpfefaaWiI
namespace Go.Proofs.Ytifbmkcfgpfefaa
open Go.RowKit
set_option linter.unusedVariables false
namespace Lay
variable {P : Program}
theorem step_append_run {w : World} {ops : Array Oper} {o : Oper} {a : Act} {K : Act → World → Prop} {Q : Exit → Act → World → Prop} {X : Prop} (hgd : Region.wanted o (yielded ops a.tmps) = true) (x y : Operand) (t t' : TypeId)
    (ho : o.op = .call { callee := .builtin .append, args := #[x, y], argTypes := #[t, t'] }) (u1 u2 : Value) (hx : a.eval x = u1) (hy : a.eval y = u2) {v' : Value} {w' : World}
    (hr : (Builtin.append_ #[t, t'] o.type #[u1, u2]).run P w = .ok v' w') (h : K (a.put o.dst v') w') : if Region.wanted o (yielded ops a.tmps) = true then Oper.wp P o a w K Q else X := by
  rw [if_pos hgd]
  unfold Oper.wp execOp
  simp only [ho, resolve, invoke, builtin, Sem.run_bind, Sem.run_pure, Result.andThen_ok, List.map_toArray, List.map_cons, List.map_nil, hx, hy, hr]
  exact h
end Lay
namespace Wi
open Go.RowKit Go.Proofs.Ytifbmkcfgpfefaa
def delA1 (cur : Array Value) (n i : Nat) : Array Value := (cur.toList.take (i * 5) ++ (cur.toList.drop ((i + 1) * 5)).take ((n - (i + 1)) * 5) ++ cur.toList.drop (i * 5 + ((cur.toList.drop ((i + 1) * 5)).take ((n - (i + 1)) * 5)).length)).toArray
def zCells : List Value := [.int .i64 0, .int .i64 0, .int .i64 0, .slice none 0 0, .slice none 0 0]
def delA2 (A : Array Value) (n : Nat) : Array Value := (A.toList.take ((n - 1) * 5) ++ zCells ++ A.toList.drop ((n - 1) * 5 + 5)).toArray
theorem delA1_size {cur : Array Value} {n i c : Nat} (hs : cur.size = c * 5) (hi : i < n) (hn : n ≤ c) : (delA1 cur n i).size = c * 5 := by
  unfold delA1
  simp only [List.size_toArray, List.length_append, List.length_take, List.length_drop, Array.length_toList, hs]
  omega
theorem delA2_size {A : Array Value} {n c : Nat} (hs : A.size = c * 5) (h0 : 0 < n) (hn : n ≤ c) : (delA2 A n).size = c * 5 := by
  unfold delA2 zCells
  simp only [List.size_toArray, List.length_append, List.length_take, List.length_drop, Array.length_toList, hs, List.length_cons, List.length_nil]
  omega
theorem del_take {cur : Array Value} {vs : List Value} {n i c : Nat} (hs : cur.size = c * 5) (hi : i < n) (hn : n ≤ c) (hv : cur.toList.take (n * 5) = vs) :
    (delA2 (delA1 cur n i) n).toList.take ((n - 1) * 5) = vs.take (i * 5) ++ vs.drop ((i + 1) * 5) := by
  have h1 := delA1_size hs hi hn
  have hcl : cur.toList.length = c * 5 := by rw [Array.length_toList, hs]
  have e1 : (delA2 (delA1 cur n i) n).toList.take ((n - 1) * 5) = (delA1 cur n i).toList.take ((n - 1) * 5) := by
    unfold delA2
    simp only
    rw [List.append_assoc, List.take_append_of_le_length (by rw [List.length_take, Array.length_toList, h1]; omega), List.take_take, Nat.min_self]
  rw [e1]
  unfold delA1
  simp only
  rw [← hv]
  generalize cur.toList = C at hcl
  have hl : ((C.drop ((i + 1) * 5)).take ((n - (i + 1)) * 5)).length = (n - (i + 1)) * 5 := by rw [List.length_take, List.length_drop]; omega
  rw [List.take_append_of_le_length (by rw [List.length_append, hl, List.length_take]; omega)]
  rw [List.take_of_length_le (by rw [List.length_append, hl, List.length_take]; omega)]
  rw [List.take_take, Nat.min_eq_left (by omega), List.drop_take]
  congr 2
  omega
theorem zero_run (w : World) : (zeroValue 26).run Try.prog w = .ok (.agg #[.int .i64 0, .int .i64 0, .int .i64 0, .slice none 0 0, .slice none 0 0]) w := by
  obtain ⟨i0, hi0, hzi0, hzi1, hzi2⟩ := info_parts info_mg
  simp [zeroValue, typeInfo, hi0, hzi0]
theorem run_clear1 (W : World) (ty : TypeId) (g k c : Nat) (A : Array Value) (hg : W.heap[g]? = some (.cells A 26 (0, 0))) (hfit : k * 5 + 5 ≤ A.size) :
    (Builtin.clear_ #[22] ty #[.slice (some ⟨g, k * 5, none⟩) 1 c]).run Try.prog W = .ok (.tuple #[]) (W.setRow g (A.toList.take (k * 5) ++ zCells ++ A.toList.drop (k * 5 + 5)).toArray) := by
  have hst := run_storeCells_at Try.prog g (k * 5) 26 zCells 0 A W hg (by simpa [zCells] using hfit) (by intro u hu; simp [zCells] at hu; rcases hu with rfl | rfl | rfl <;> rfl)
  simp only [Nat.add_zero, zCells, List.length_cons, List.length_nil, Nat.zero_add, Nat.reduceAdd] at hst
  have hz : (Builtin.zeroCells (Value.agg #[.int .i64 0, .int .i64 0, .int .i64 0, .slice none 0 0, .slice none 0 0]).cells 1).toList = zCells := by kernel_rfl
  simp [Builtin.clear_, run_underlying Try.underlying22, zero_run, hz, zCells, hst]
set_option maxRecDepth 100000 in
set_option maxHeartbeats 4000000 in
theorem delete_v (g n c i base : Nat) (vs : List Value) (w : World) (hv : w.ownsRow base 26 5 (.slice (some ⟨g, 0, none⟩) n c) n vs) (hone : ∀ u ∈ vs, u.oneCell' = true) (hi : i < n) (hn : n ≤ 1000) :
    Calls Try.prog 25 #[.slice (some ⟨g, 0, none⟩) n c, .int .i64 (i : Int), .int .i64 ((i : Int) + 1)] w fun e w' =>
      (e = .returned (.slice (some ⟨g, 0, none⟩) (n - 1) c) ∧ w'.ownsRow base 26 5 (.slice (some ⟨g, 0, none⟩) (n - 1) c) (n - 1) (vs.take (i * 5) ++ vs.drop ((i + 1) * 5))) ∧ w.grownBy w' (some g) := by
  obtain ⟨i0, hi0, hzi0, hzi1, hzi2⟩ := info_parts info_mg
  obtain ⟨cur, hcur, hcs, htk, hbg, hnc, hcm⟩ : ∃ cur, w.heap[g]? = some (.cells cur 26 (0, 0)) ∧ cur.size = c * 5 ∧ cur.toList.take (n * 5) = vs ∧ base ≤ g ∧ n ≤ c ∧ c ≤ maxLen := by
    rcases hv.2 with ⟨h', _⟩ | ⟨g', cap', cur, h', hb, hg, hnc, hcm, hsz, htake⟩
    · simp at h'
    · simp only [Value.slice.injEq, Option.some.injEq, Addr.mk.injEq, and_true, true_and] at h'
      obtain ⟨rfl, rfl⟩ := h'
      exact ⟨cur, hg, hsz, htake, hb, hnc, hcm⟩
  have hvl : vs.length = n * 5 := hv.1
  have hcs5 : cur.size = c * 5 := hcs
  have htk5 : cur.toList.take (n * 5) = vs := htk
  have hs1 := delA1_size hcs5 hi hnc
  have hc63 : c ≤ 9223372036854775807 := by unfold maxLen at hcm; omega
  obtain ⟨A, hA, hsrc⟩ : ∃ A : Addr, cutP (some ⟨g, 0, none⟩) c (i + 1) 5 = some A ∧ ∀ (W : World), W.heap[g]? = some (.cells cur 26 (0, 0)) → ∀ j u, ((cur.toList.drop ((i + 1) * 5)).take ((n - (i + 1)) * 5))[j]? = some u → W.cell? (A.add j) = some u := by
    by_cases h : c = i + 1
    · refine ⟨⟨g, 0, none⟩, by simp [cutP, h], fun W hW j u hj => ?_⟩
      have : n - (i + 1) = 0 := by omega
      rw [this] at hj
      simp at hj
    · refine ⟨⟨g, (i + 1) * 5, none⟩, by simp [cutP, h, addN], fun W hW j u hj => ?_⟩
      rw [addN, cell_of_row _ _ _ _ _ _ hW]
      rw [List.getElem?_take] at hj
      split at hj
      · rw [List.getElem?_drop] at hj; simpa using hj
      · cases hj
  have hsl1 : ∀ W, (Instr.slice 22 (.slice (some ⟨g, 0, none⟩) n c) none (some (.int .i64 (i : Int))) none).run Try.prog W = .ok (.slice (some ⟨g, 0, none⟩) i c) W := fun W =>
    run_cut_to (P := Try.prog) (t := 22) (e := 26) Try.underlying22 rowsize_mg (some ⟨g, 0, none⟩) n c i (i : Int) rfl (by omega) (fun _ => ⟨_, _, rfl⟩) W
  have hsl2 : ∀ W, (Instr.slice 22 (.slice (some ⟨g, 0, none⟩) n c) (some (.int .i64 ((i : Int) + 1))) none none).run Try.prog W = .ok (.slice (some A) (n - (i + 1)) (c - (i + 1))) W := fun W => by
    have h := run_cut_from (P := Try.prog) (t := 22) (e := 26) Try.underlying22 rowsize_mg (some ⟨g, 0, none⟩) n c (i + 1) ((i : Int) + 1) (by omega) (by omega) hnc W
    rwa [hA] at h
  have hsl3 : ∀ W, (Instr.slice 22 (.slice (some ⟨g, 0, none⟩) (n - 1) c) (some (.int .i64 ((n - 1 : Nat) : Int))) (some (.int .i64 (n : Int))) none).run Try.prog W = .ok (.slice (some ⟨g, (n - 1) * 5, none⟩) 1 (c - (n - 1))) W := fun W => by
    have h := run_cut (P := Try.prog) (t := 22) (e := 26) Try.underlying22 rowsize_mg (some ⟨g, 0, none⟩) (n - 1) c (n - 1) n ((n - 1 : Nat) : Int) (n : Int) rfl rfl (by omega) hnc W
    rw [show n - (n - 1) = 1 by omega] at h
    simpa [cutP, addN, show ¬ c = n - 1 by omega] using h
  obtain ⟨X0, hsl0⟩ : ∃ X0, ∀ W : World, (Instr.slice 22 (.slice (some ⟨g, 0, none⟩) n c) (some (.int .i64 (i : Int))) (some (.int .i64 ((i : Int) + 1))) (some (.int .i64 (n : Int)))).run Try.prog W = .ok X0 W := by
    obtain ⟨j0, hj0, hz0⟩ := Option.map_eq_some_iff.1 rowsize_mg
    have e2 : ((i : Int) + 1).toNat = i + 1 := by omega
    have b1 : (0 : Int) ≤ (i : Int) + 1 := by omega
    have b2 : (i : Int) + 1 ≤ (n : Int) := by omega
    have b3 : ∀ (k : BoundsCode) (W : World), (Instr.sliceBound (.int .i64 (i : Int)) (i + 1) k).run Try.prog W = .ok i W := fun k W => by
      have h := run_sliceBound (P := Try.prog) W .i64 (i : Int) (i + 1) k (by omega) (by omega)
      simpa using h
    refine ⟨.slice (if n = i then some ⟨g, 0, none⟩ else (some ⟨g, 0, none⟩ : Option Addr).map (·.add (i * 5))) (i + 1 - i) (n - i), fun W => ?_⟩
    simp [Instr.slice, run_underlying Try.underlying22, Instr.sliceBounds, run_sliceBound, sizeOf, typeInfo, hj0, hz0, hnc, e2, b1, b2, b3]
  have hap : ∀ (W : World), W.heap[g]? = some (.cells cur 26 (0, 0)) → (Builtin.append_ #[22, 22] 22 #[.slice (some ⟨g, 0, none⟩) i c, .slice (some A) (n - (i + 1)) (c - (i + 1))]).run Try.prog W = .ok (.slice (some ⟨g, 0, none⟩) (n - 1) c) (W.setRow g (delA1 cur n i)) := fun W hW => by
    have hl5 : ((cur.toList.drop ((i + 1) * 5)).take ((n - (i + 1)) * 5)).length = (n - (i + 1)) * 5 := by rw [List.length_take, List.length_drop, Array.length_toList, hcs5]; omega
    have h := run_append_room (P := Try.prog) W 22 22 26 i0 Try.underlying22 hi0 g i c cur hW A (n - (i + 1)) (c - (i + 1)) _ (by rw [hl5, hzi1]; rfl) (hsrc W hW) (fun u hu => by
      refine hone u ?_
      have h1 := List.mem_of_mem_take hu
      have h2 : (cur.toList.drop ((i + 1) * 5)).take ((n - (i + 1)) * 5) = vs.drop ((i + 1) * 5) := by rw [← htk5, List.drop_take]; congr 1; omega
      rw [h2] at hu
      exact List.mem_of_mem_drop hu) (by omega) (by rw [hl5, hzi1, hcs5]; show i * 5 + _ ≤ _; omega)
    rw [show i + (n - (i + 1)) = n - 1 by omega, hzi1] at h
    exact h
  have HCUR := Lib.hid hcur
  have HAP := Lib.hid hap
  have HFIN : Hid (∀ W' : World, W'.heap[g]? = some (.cells (delA2 (delA1 cur n i) n) 26 (0, 0)) → W'.ownsRow base 26 5 (.slice (some ⟨g, 0, none⟩) (n - 1) c) (n - 1) (vs.take (i * 5) ++ vs.drop ((i + 1) * 5))) := Lib.hid fun W' h =>
    ⟨by rw [List.length_append, List.length_take, List.length_drop]; omega, .inr ⟨g, c, _, rfl, hbg, h, by omega, hcm, delA2_size hs1 (by omega) hnc, del_take hcs5 hi hnc htk5⟩⟩
  have hne : ((i : Int) == (i : Int) + 1) = false := by simp; omega
  have hi0' : (0 : Int) ≤ (i : Int) := by omega
  have hi1' : (i : Int) < (n : Int) := by omega
  have hw1 : IntKind.i64.wrap ((i : Int) + 1) = (i : Int) + 1 := IntWalk.i64_in _ (by omega)
  have HS1 := Lib.hid hs1
  have HNC := Lib.hid hnc
  clear hcur hap hcs hcs5 htk htk5 hone hvl hsrc hA hv hs1
  go_enter Try.func25, Try.ntmps25
  go_wp2
  go_region_law (refine Lay.step_append_run (by simp [Region.wanted]) (.tmp 22) (.tmp 25) 22 22 rfl (.slice (some ⟨g, 0, none⟩) i c) (.slice (some A) (n - (i + 1)) (c - (i + 1))) (by simp [Act.eval, Act.put]) (by simp [Act.eval, Act.put]) (HAP.out _ (by exact HCUR.out)) ?_)
  all_goals
    simp only [Act.put, List.getElem_toArray, List.getElem_cons_succ, List.getElem_cons_zero, List.setIfInBounds_toArray, List.set_cons_zero, List.set_cons_succ]
    obtain ⟨W1, hW1⟩ : ∃ W1, w.drew.setRow g (delA1 cur n i) = W1 := ⟨_, rfl⟩
    have hg1 : w.grownBy W1 (some g) := by rw [← hW1]; exact ⟨rfl, rfl, rfl, by simp, fun j _ hj => setRow_other _ g j _ (fun e => hj (by rw [e]))⟩
    have hh1 : W1.heap[g]? = some (.cells (delA1 cur n i) 26 (0, 0)) := by rw [← hW1]; exact setRow_heap _ _ cur _ _ _ (show w.drew.heap[g]? = _ from HCUR.out)
    rw [hW1]
    clear hW1
    have hcl : ∀ ty, (Builtin.clear_ #[22] ty #[.slice (some ⟨g, (n - 1) * 5, none⟩) 1 (c - (n - 1))]).run Try.prog W1 = .ok (.tuple #[]) (W1.setRow g (delA2 (delA1 cur n i) n)) := fun ty => run_clear1 W1 ty g (n - 1) _ _ hh1 (by rw [HS1.out]; have := HNC.out; omega)
    have HG1 := Lib.hid hg1
    have HH1 := Lib.hid hh1
    clear hg1 hh1
    go_wp2
    go_ret
    have hg2 : w.grownBy (W1.setRow g (delA2 (delA1 cur n i) n)) (some g) := Lay.grown_trans HG1.out ⟨rfl, rfl, rfl, by simp, fun j _ hj => setRow_other _ g j _ (fun e => hj (by rw [e]))⟩
    exact ⟨⟨rfl, HFIN.out _ (setRow_heap _ _ _ _ _ _ HH1.out)⟩, hg2⟩
set_option maxRecDepth 100000 in
set_option maxHeartbeats 4000000 in
theorem clone2_v (p : Option Addr) (n c : Nat) (l : List Mg) (w0 w : World) (hl : LMg.Sl w0 (.slice p n c) l) (hx : Ext w0 w) (hn : l.length ≤ 100000) :
    Calls Try.prog 26 #[.slice p n c] w fun e w' => (∃ v vs, e = .returned v ∧ w'.ownsRow w.heap.size 26 5 v n vs ∧ LMg.All w0 vs l) ∧ Ext w w' := by
  obtain ⟨i0, hi0, hzi0, hzi1, hzi2⟩ := info_parts info_mg
  obtain ⟨⟨h1, h2, vs, hall, hc⟩, hnc, hcm, hpl⟩ := sl_parts hl
  have hvl : vs.length = n * 5 := by rw [hall.length, h1]; rfl
  have HALL := Lib.hid hall
  have HVL := Lib.hid hvl
  have HPL := Lib.hid hpl
  have HN : Hid (n ≤ 100000) := Lib.hid (by rw [← h1]; exact hn)
  have HC := Lib.hid hc
  have HX := Lib.hid hx
  have hnil := fun (a : Option Addr) (n c : Nat) (w : World) => Lib.run_eql_slice_nil (P := Try.prog) w 22 26 a n c 0 0 Try.underlying22
  have hl0 : p = none → n = 0 ∧ c = 0 := fun e => by
    have h0 : c = 0 := by
      by_cases h : 0 < c
      · obtain ⟨b, off, e'⟩ := HPL.out h; rw [e] at e'; cases e'
      · omega
    exact ⟨by omega, h0⟩
  have hle : n ≤ 9223372036854775807 := h2
  clear hl hpl hall hc hx hn
  cases p with
  | none =>
    obtain ⟨rfl, rfl⟩ := hl0 rfl
    have hvs : vs = [] := List.eq_nil_of_length_eq_zero (by rw [hvl])
    have HVS := Lib.hid hvs
    clear hl0 hvl h1 hvs
    go_enter Try.func26, Try.ntmps26
    go_wp2
    go_ret
    exact ⟨⟨_, vs, rfl, by rw [HVS.out]; exact World.ownsRow_nil _ _ _ _, HALL.out⟩, Ext.refl _⟩
  | some a =>
    have hcell : ∀ j u, vs[j]? = some u → (w.alloc (.cells #[] 26)).cell? (a.add j) = some u := by
      intro j u hj
      have h0 : 0 < n := by
        have := (List.getElem?_eq_some_iff.1 hj).1
        rw [hvl] at this; omega
      obtain ⟨b, off, e, hcc⟩ := HC.out h0
      cases e
      rw [addN]
      exact (Ext.trans HX.out (Ext.alloc _ _)).cell (hcc j u hj)
    have HCELL := Lib.hid hcell
    have HL0 := Lib.hid (World.ownsRow_made (e := 26) (size := 5) (base := w.heap.size) w #[] 0 (Nat.le_refl _) (by decide) rfl)
    clear hl0 hvl h1 hcell
    go_enter Try.func26, Try.ntmps26
    go_wp2_with (at_builtin; refine wpList_append_own_at _ rfl (.tmp 5) (.tmp 6) 22 rfl w.heap.size 26 i0 (.agg #[.int .i64 0, .int .i64 0, .int .i64 0, .slice none 0 0, .slice none 0 0]) 5 72 Try.underlying22 hi0 hzi0 hzi1 hzi2 rfl (by decide) (.slice (some ⟨w.heap.size, 0, none⟩) 0 0) 0 [] rfl HL0.out a n c vs rfl HVL.out HCELL.out HALL.out.one (by have := HN.out; unfold maxLen; omega) (by have := HN.out; omega) (by simp) ?_; intro v2 w3 hown2 hg2 _ _)
    have X3 := Lib.hid (below_grown (Ext.alloc w (.cells #[] 26)) (Nat.le_refl _) hg2 HL0.out)
    have HO := Lib.hid hown2
    clear hown2 hg2
    go_wp2
    go_ret
    exact ⟨⟨_, vs, rfl, by have := HO.out; simpa using this, HALL.out⟩, X3.out⟩
end Wi
end Go.Proofs.Ytifbmkcfgpfefaa
