/- Messages: slices.Repeat. -/
import Derived.Test.YtifbmkcfgpfefaaWiI
namespace Go.Proofs.Ytifbmkcfgpfefaa.Wi
open Go.RowKit Go.Proofs.Ytifbmkcfgpfefaa
set_option linter.unusedVariables false

theorem mul64_1 (w : World) : Calls Try.prog 42 #[.int .u64 1, .int .u64 1] w fun e w' => e = .returned (.tuple #[.int .u64 0, .int .u64 1]) ∧ w = w' := by
  go_enter Try.func42, Try.ntmps42
  go_wp2
  go_ret2
  exact ⟨rfl, rfl⟩
theorem mul_1 (w : World) : Calls Try.prog 36 #[.int .u64 1, .int .u64 1] w fun e w' => e = .returned (.tuple #[.int .u64 0, .int .u64 1]) ∧ w = w' := by
  go_enter Try.func36, Try.ntmps36
  go_wp2_with (go_at_call 42; refine (mul64_1 _).mono ?_; rintro e w' ⟨rfl, rfl⟩)
  go_ret2
  exact ⟨rfl, rfl⟩
theorem mul64_2 (w : World) : Calls Try.prog 42 #[.int .u64 1, .int .u64 2] w fun e w' => e = .returned (.tuple #[.int .u64 0, .int .u64 2]) ∧ w = w' := by
  go_enter Try.func42, Try.ntmps42
  go_wp2
  go_ret2
  exact ⟨rfl, rfl⟩
theorem mul_2 (w : World) : Calls Try.prog 36 #[.int .u64 1, .int .u64 2] w fun e w' => e = .returned (.tuple #[.int .u64 0, .int .u64 2]) ∧ w = w' := by
  go_enter Try.func36, Try.ntmps36
  go_wp2_with (go_at_call 42; refine (mul64_2 _).mono ?_; rintro e w' ⟨rfl, rfl⟩)
  go_ret2
  exact ⟨rfl, rfl⟩

/-- a row that lies in a block of the call's own, whole -/
theorem own_whole {w0 w : World} {base g n : Nat} {cs : Array Value} {l : List Mg} (h : w.heap[g]? = some (.cells cs 26 (0, 0))) (hb : base ≤ g) (hn : l.length = n) (hm : n ≤ maxLen) (ha : LMg.All w0 cs.toList l) (hx : Ext w0 w) (hw : w0.heap.size ≤ g) :
    LMg.Own w base 26 (.slice (some ⟨g, 0, none⟩) n n) l := by
  have hlen := ha.length
  have hs : cs.size = n * 5 := by rw [← Array.length_toList, hlen, hn]; rfl
  subst hn
  exact ⟨cs.toList, ⟨hlen, .inr ⟨g, _, cs, rfl, hb, h, Nat.le_refl _, hm, hs, List.take_of_length_le (by rw [hlen]; exact Nat.le_refl _)⟩⟩, fun w' hg => ha.ext (Lay.grown_old hx (fun k hk => by cases hk; exact hw) hg)⟩
def RRep1 (w0 : World) (g : Nat) (A : Array Value) (o : Value) (wr : World) : Prop := o = .int .i64 1 ∧ wr.heap[g]? = some (.cells A 26 (0, 0)) ∧ Ext w0 wr
def RRep2 (w0 : World) (g : Nat) (A B : Array Value) (o : Value) (wr : World) : Prop := (o = .int .i64 1 ∧ wr.heap[g]? = some (.cells A 26 (0, 0)) ∧ Ext w0 wr) ∨ (o = .int .i64 2 ∧ wr.heap[g]? = some (.cells B 26 (0, 0)) ∧ Ext w0 wr)
set_option maxRecDepth 100000 in
set_option maxHeartbeats 4000000 in
theorem repeat_1 (x : Mg) (p1 : Option Addr) (n1 c1 : Nat) (q1 : Option Addr) (m1 d1 b : Nat) (w0 w : World) (hx0 : MgC w0 x p1 n1 c1 q1 m1 d1) (hxw : Ext w0 w) (hb : w.heap[b]? = some (.cells #[.int .i64 x.a, .int .i64 x.b, .int .i64 x.k, .slice p1 n1 c1, .slice q1 m1 d1] 26 (0, 0))) :
    Calls Try.prog 28 #[.slice (some ⟨b, 0, none⟩) 1 1, .int .i64 1] w fun e w' => (∃ v, e = .returned v ∧ LMg.Own w' w.heap.size 26 v (List.replicate 1 x)) ∧ Ext w w' := by
  obtain ⟨i0, hi0, hzi0, hzi1, hzi2⟩ := info_parts info_mg
  have hmk : ∀ W : World, (Instr.makeSlice 22 (.int .i64 1) (.int .i64 1)).run Try.prog W = .ok (.slice (some ⟨W.heap.size, 0, none⟩) 1 1) (W.alloc (.cells #[.int .i64 0, .int .i64 0, .int .i64 0, .slice none 0 0, .slice none 0 0] 26)) := fun W => by kernel_rfl
  have hnew := heap_alloc_new w (.cells #[.int .i64 0, .int .i64 0, .int .i64 0, .slice none 0 0, .slice none 0 0] 26)
  have hold : (w.alloc (.cells #[.int .i64 0, .int .i64 0, .int .i64 0, .slice none 0 0, .slice none 0 0] 26)).heap[b]? = some (.cells #[.int .i64 x.a, .int .i64 x.b, .int .i64 x.k, .slice p1 n1 c1, .slice q1 m1 d1] 26 (0, 0)) := heap_ext hb (Ext.alloc _ _)
  have hcp : (Builtin.copy_ #[22, 22] 3 #[.slice (some ⟨w.heap.size, 0, none⟩) 1 1, .slice (some ⟨b, 0, none⟩) 1 1]).run Try.prog (w.alloc (.cells #[.int .i64 0, .int .i64 0, .int .i64 0, .slice none 0 0, .slice none 0 0] 26)) = .ok (goInt 1) ((w.alloc (.cells #[.int .i64 0, .int .i64 0, .int .i64 0, .slice none 0 0, .slice none 0 0] 26)).setRow w.heap.size #[.int .i64 x.a, .int .i64 x.b, .int .i64 x.k, .slice p1 n1 c1, .slice q1 m1 d1]) := by
    have h := Lay.run_copy_row (P := Try.prog) (w.alloc (.cells #[.int .i64 0, .int .i64 0, .int .i64 0, .slice none 0 0, .slice none 0 0] 26)) 22 22 3 26 i0 Try.underlying22 hi0 w.heap.size 0 1 1 ⟨b, 0, none⟩ 1 1 1 [.int .i64 x.a, .int .i64 x.b, .int .i64 x.k, .slice p1 n1 c1, .slice q1 m1 d1] rfl (by rw [hzi1]; rfl) (fun j v hj => by rw [addN, Nat.zero_add, cell_of_row _ _ _ _ _ _ hold]; simpa using hj) _ hnew (by simp) (by intro u hu; simp at hu; rcases hu with rfl | rfl | rfl | rfl | rfl <;> rfl)
    simpa using h
  have hA1 : ((w.alloc (.cells #[.int .i64 0, .int .i64 0, .int .i64 0, .slice none 0 0, .slice none 0 0] 26)).setRow w.heap.size #[.int .i64 x.a, .int .i64 x.b, .int .i64 x.k, .slice p1 n1 c1, .slice q1 m1 d1]).heap[w.heap.size]? = some (.cells #[.int .i64 x.a, .int .i64 x.b, .int .i64 x.k, .slice p1 n1 c1, .slice q1 m1 d1] 26 (0, 0)) := setRow_heap _ _ _ _ _ _ hnew
  have hxA : Ext w ((w.alloc (.cells #[.int .i64 0, .int .i64 0, .int .i64 0, .slice none 0 0, .slice none 0 0] 26)).setRow w.heap.size #[.int .i64 x.a, .int .i64 x.b, .int .i64 x.k, .slice p1 n1 c1, .slice q1 m1 d1]) := Lay.grown_old (Ext.alloc w (.cells #[.int .i64 0, .int .i64 0, .int .i64 0, .slice none 0 0, .slice none 0 0] 26)) (fun k hk => by cases hk; exact Nat.le_refl _) (⟨rfl, rfl, rfl, by simp, fun j _ hj => setRow_other _ w.heap.size j _ (fun e => hj (by rw [e]))⟩ : (w.alloc (.cells #[.int .i64 0, .int .i64 0, .int .i64 0, .slice none 0 0, .slice none 0 0] 26)).grownBy ((w.alloc (.cells #[.int .i64 0, .int .i64 0, .int .i64 0, .slice none 0 0, .slice none 0 0] 26)).setRow w.heap.size #[.int .i64 x.a, .int .i64 x.b, .int .i64 x.k, .slice p1 n1 c1, .slice q1 m1 d1]) (some w.heap.size))
  have HA1 := Lib.hid hA1
  have HXA := Lib.hid hxA
  have HX0 := Lib.hid hx0
  have HXW := Lib.hid hxw
  clear hb hnew hold hA1 hxA hx0 hxw
  go_enter Try.func28, Try.ntmps28
  go_wp2_with (go_at_call 36; refine (mul_1 _).mono ?_; rintro e w' ⟨rfl, rfl⟩)
  go_loopw [8] (fun o wr => RRep1 w w.heap.size #[.int .i64 x.a, .int .i64 x.b, .int .i64 x.k, .slice p1 n1 c1, .slice q1 m1 d1] o wr) (fun _ _ => 0)
  case atStart => exact ⟨rfl, HA1.out, HXA.out⟩
  case round =>
    obtain ⟨rfl, h1, hx⟩ := hrel
    have H1 := Lib.hid h1
    have HX := Lib.hid hx
    clear h1 hx
    go_wp2
    go_ret
    exact ⟨⟨_, rfl, own_whole (w0 := w0) H1.out (Nat.le_refl _) rfl (by decide) ⟨[.int .i64 x.a, .int .i64 x.b, .int .i64 x.k, .slice p1 n1 c1, .slice q1 m1 d1], [], rfl, HX0.out.r, rfl⟩ (Ext.trans HXW.out HX.out) HXW.out.size⟩, HX.out⟩
set_option maxRecDepth 100000 in
set_option maxHeartbeats 4000000 in
theorem repeat_2 (x : Mg) (p1 : Option Addr) (n1 c1 : Nat) (q1 : Option Addr) (m1 d1 b : Nat) (w0 w : World) (hx0 : MgC w0 x p1 n1 c1 q1 m1 d1) (hxw : Ext w0 w) (hb : w.heap[b]? = some (.cells #[.int .i64 x.a, .int .i64 x.b, .int .i64 x.k, .slice p1 n1 c1, .slice q1 m1 d1] 26 (0, 0))) :
    Calls Try.prog 28 #[.slice (some ⟨b, 0, none⟩) 1 1, .int .i64 2] w fun e w' => (∃ v, e = .returned v ∧ LMg.Own w' w.heap.size 26 v (List.replicate 2 x)) ∧ Ext w w' := by
  obtain ⟨i0, hi0, hzi0, hzi1, hzi2⟩ := info_parts info_mg
  have hmk : ∀ W : World, (Instr.makeSlice 22 (.int .i64 2) (.int .i64 2)).run Try.prog W = .ok (.slice (some ⟨W.heap.size, 0, none⟩) 2 2) (W.alloc (.cells #[.int .i64 0, .int .i64 0, .int .i64 0, .slice none 0 0, .slice none 0 0, .int .i64 0, .int .i64 0, .int .i64 0, .slice none 0 0, .slice none 0 0] 26)) := fun W => by kernel_rfl
  have hnew := heap_alloc_new w (.cells #[.int .i64 0, .int .i64 0, .int .i64 0, .slice none 0 0, .slice none 0 0, .int .i64 0, .int .i64 0, .int .i64 0, .slice none 0 0, .slice none 0 0] 26)
  have hold : (w.alloc (.cells #[.int .i64 0, .int .i64 0, .int .i64 0, .slice none 0 0, .slice none 0 0, .int .i64 0, .int .i64 0, .int .i64 0, .slice none 0 0, .slice none 0 0] 26)).heap[b]? = some (.cells #[.int .i64 x.a, .int .i64 x.b, .int .i64 x.k, .slice p1 n1 c1, .slice q1 m1 d1] 26 (0, 0)) := heap_ext hb (Ext.alloc _ _)
  have hcp : (Builtin.copy_ #[22, 22] 3 #[.slice (some ⟨w.heap.size, 0, none⟩) 2 2, .slice (some ⟨b, 0, none⟩) 1 1]).run Try.prog (w.alloc (.cells #[.int .i64 0, .int .i64 0, .int .i64 0, .slice none 0 0, .slice none 0 0, .int .i64 0, .int .i64 0, .int .i64 0, .slice none 0 0, .slice none 0 0] 26)) = .ok (goInt 1) ((w.alloc (.cells #[.int .i64 0, .int .i64 0, .int .i64 0, .slice none 0 0, .slice none 0 0, .int .i64 0, .int .i64 0, .int .i64 0, .slice none 0 0, .slice none 0 0] 26)).setRow w.heap.size #[.int .i64 x.a, .int .i64 x.b, .int .i64 x.k, .slice p1 n1 c1, .slice q1 m1 d1, .int .i64 0, .int .i64 0, .int .i64 0, .slice none 0 0, .slice none 0 0]) := by
    have h := Lay.run_copy_row (P := Try.prog) (w.alloc (.cells #[.int .i64 0, .int .i64 0, .int .i64 0, .slice none 0 0, .slice none 0 0, .int .i64 0, .int .i64 0, .int .i64 0, .slice none 0 0, .slice none 0 0] 26)) 22 22 3 26 i0 Try.underlying22 hi0 w.heap.size 0 2 2 ⟨b, 0, none⟩ 1 1 1 [.int .i64 x.a, .int .i64 x.b, .int .i64 x.k, .slice p1 n1 c1, .slice q1 m1 d1] rfl (by rw [hzi1]; rfl) (fun j v hj => by rw [addN, Nat.zero_add, cell_of_row _ _ _ _ _ _ hold]; simpa using hj) _ hnew (by simp) (by intro u hu; simp at hu; rcases hu with rfl | rfl | rfl | rfl | rfl <;> rfl)
    simpa using h
  have hA1 : ((w.alloc (.cells #[.int .i64 0, .int .i64 0, .int .i64 0, .slice none 0 0, .slice none 0 0, .int .i64 0, .int .i64 0, .int .i64 0, .slice none 0 0, .slice none 0 0] 26)).setRow w.heap.size #[.int .i64 x.a, .int .i64 x.b, .int .i64 x.k, .slice p1 n1 c1, .slice q1 m1 d1, .int .i64 0, .int .i64 0, .int .i64 0, .slice none 0 0, .slice none 0 0]).heap[w.heap.size]? = some (.cells #[.int .i64 x.a, .int .i64 x.b, .int .i64 x.k, .slice p1 n1 c1, .slice q1 m1 d1, .int .i64 0, .int .i64 0, .int .i64 0, .slice none 0 0, .slice none 0 0] 26 (0, 0)) := setRow_heap _ _ _ _ _ _ hnew
  have hxA : Ext w ((w.alloc (.cells #[.int .i64 0, .int .i64 0, .int .i64 0, .slice none 0 0, .slice none 0 0, .int .i64 0, .int .i64 0, .int .i64 0, .slice none 0 0, .slice none 0 0] 26)).setRow w.heap.size #[.int .i64 x.a, .int .i64 x.b, .int .i64 x.k, .slice p1 n1 c1, .slice q1 m1 d1, .int .i64 0, .int .i64 0, .int .i64 0, .slice none 0 0, .slice none 0 0]) := Lay.grown_old (Ext.alloc w (.cells #[.int .i64 0, .int .i64 0, .int .i64 0, .slice none 0 0, .slice none 0 0, .int .i64 0, .int .i64 0, .int .i64 0, .slice none 0 0, .slice none 0 0] 26)) (fun k hk => by cases hk; exact Nat.le_refl _) (⟨rfl, rfl, rfl, by simp, fun j _ hj => setRow_other _ w.heap.size j _ (fun e => hj (by rw [e]))⟩ : (w.alloc (.cells #[.int .i64 0, .int .i64 0, .int .i64 0, .slice none 0 0, .slice none 0 0, .int .i64 0, .int .i64 0, .int .i64 0, .slice none 0 0, .slice none 0 0] 26)).grownBy ((w.alloc (.cells #[.int .i64 0, .int .i64 0, .int .i64 0, .slice none 0 0, .slice none 0 0, .int .i64 0, .int .i64 0, .int .i64 0, .slice none 0 0, .slice none 0 0] 26)).setRow w.heap.size #[.int .i64 x.a, .int .i64 x.b, .int .i64 x.k, .slice p1 n1 c1, .slice q1 m1 d1, .int .i64 0, .int .i64 0, .int .i64 0, .slice none 0 0, .slice none 0 0]) (some w.heap.size))
  have HA1 := Lib.hid hA1
  have HXA := Lib.hid hxA
  have HX0 := Lib.hid hx0
  have HXW := Lib.hid hxw
  clear hb hnew hold hA1 hxA hx0 hxw
  go_enter Try.func28, Try.ntmps28
  go_wp2_with (go_at_call 36; refine (mul_2 _).mono ?_; rintro e w' ⟨rfl, rfl⟩)
  go_loopw [8] (fun o wr => RRep2 w w.heap.size #[.int .i64 x.a, .int .i64 x.b, .int .i64 x.k, .slice p1 n1 c1, .slice q1 m1 d1, .int .i64 0, .int .i64 0, .int .i64 0, .slice none 0 0, .slice none 0 0] #[.int .i64 x.a, .int .i64 x.b, .int .i64 x.k, .slice p1 n1 c1, .slice q1 m1 d1, .int .i64 x.a, .int .i64 x.b, .int .i64 x.k, .slice p1 n1 c1, .slice q1 m1 d1] o wr) (fun o _ => 2 - (intOf o).toNat)
  case atStart => exact .inl ⟨rfl, HA1.out, HXA.out⟩
  case round =>
    rcases hrel with ⟨rfl, h1, hx⟩ | ⟨rfl, h1, hx⟩
    · have H1 := Lib.hid h1
      have HX := Lib.hid hx
      have hs1 : ∀ W, (Instr.slice 22 (.slice (some ⟨w.heap.size, 0, none⟩) 2 2) (some (.int .i64 1)) none none).run Try.prog W = .ok (.slice (some ⟨w.heap.size, 5, none⟩) 1 1) W := fun W => by
        have h := run_cut_from (P := Try.prog) (t := 22) (e := 26) Try.underlying22 rowsize_mg (some ⟨w.heap.size, 0, none⟩) 2 2 1 1 rfl (by omega) (by omega) W
        simpa [cutP, addN] using h
      have hs2 : ∀ W, (Instr.slice 22 (.slice (some ⟨w.heap.size, 0, none⟩) 2 2) none (some (.int .i64 1)) none).run Try.prog W = .ok (.slice (some ⟨w.heap.size, 0, none⟩) 1 2) W := fun W =>
        run_cut_to (P := Try.prog) (t := 22) (e := 26) Try.underlying22 rowsize_mg (some ⟨w.heap.size, 0, none⟩) 2 2 1 1 rfl (by omega) (fun _ => ⟨_, _, rfl⟩) W
      have hc2 : (Builtin.copy_ #[22, 22] 3 #[.slice (some ⟨w.heap.size, 5, none⟩) 1 1, .slice (some ⟨w.heap.size, 0, none⟩) 1 2]).run Try.prog wr.drew = .ok (goInt 1) (wr.drew.setRow w.heap.size #[.int .i64 x.a, .int .i64 x.b, .int .i64 x.k, .slice p1 n1 c1, .slice q1 m1 d1, .int .i64 x.a, .int .i64 x.b, .int .i64 x.k, .slice p1 n1 c1, .slice q1 m1 d1]) := by
        have h := Lay.run_copy_row (P := Try.prog) wr.drew 22 22 3 26 i0 Try.underlying22 hi0 w.heap.size 5 1 1 ⟨w.heap.size, 0, none⟩ 1 2 1 [.int .i64 x.a, .int .i64 x.b, .int .i64 x.k, .slice p1 n1 c1, .slice q1 m1 d1] rfl (by rw [hzi1]; rfl) (fun j v hj => by
          rw [addN, Nat.zero_add, cell_of_row wr.drew _ _ _ _ _ h1]
          have hlt := (List.getElem?_eq_some_iff.1 hj).1
          simp only [List.length_cons, List.length_nil] at hlt
          match j, hlt with
          | 0, _ => simpa using hj
          | 1, _ => simpa using hj
          | 2, _ => simpa using hj
          | 3, _ => simpa using hj
          | 4, _ => simpa using hj) _ (show wr.drew.heap[w.heap.size]? = _ from h1) (by simp) (by intro u hu; simp at hu; rcases hu with rfl | rfl | rfl | rfl | rfl <;> rfl)
        simpa using h
      have h2 : (wr.drew.setRow w.heap.size #[.int .i64 x.a, .int .i64 x.b, .int .i64 x.k, .slice p1 n1 c1, .slice q1 m1 d1, .int .i64 x.a, .int .i64 x.b, .int .i64 x.k, .slice p1 n1 c1, .slice q1 m1 d1]).heap[w.heap.size]? = some (.cells #[.int .i64 x.a, .int .i64 x.b, .int .i64 x.k, .slice p1 n1 c1, .slice q1 m1 d1, .int .i64 x.a, .int .i64 x.b, .int .i64 x.k, .slice p1 n1 c1, .slice q1 m1 d1] 26 (0, 0)) := setRow_heap _ _ _ _ _ _ (show wr.drew.heap[w.heap.size]? = _ from h1)
      have hx2 : Ext w (wr.drew.setRow w.heap.size #[.int .i64 x.a, .int .i64 x.b, .int .i64 x.k, .slice p1 n1 c1, .slice q1 m1 d1, .int .i64 x.a, .int .i64 x.b, .int .i64 x.k, .slice p1 n1 c1, .slice q1 m1 d1]) := Lay.grown_old (Ext.trans hx (Ext.drew (Ext.refl _))) (fun k hk => by cases hk; exact Nat.le_refl _) (⟨rfl, rfl, rfl, by simp, fun j _ hj => setRow_other _ w.heap.size j _ (fun e => hj (by rw [e]))⟩ : wr.drew.grownBy (wr.drew.setRow w.heap.size #[.int .i64 x.a, .int .i64 x.b, .int .i64 x.k, .slice p1 n1 c1, .slice q1 m1 d1, .int .i64 x.a, .int .i64 x.b, .int .i64 x.k, .slice p1 n1 c1, .slice q1 m1 d1]) (some w.heap.size))
      have H2 := Lib.hid h2
      have HX2 := Lib.hid hx2
      have HC2 := Lib.hid hc2
      clear h1 hx h2 hx2 hc2
      have hw2 : IntKind.i64.wrap 2 = 2 := by decide
      go_wp2
      go_region_law (refine Lay.step_copy_run (by simp [Region.wanted]) (.tmp 41) (.tmp 44) 22 22 rfl (.slice (some ⟨w.heap.size, 5, none⟩) 1 1) (.slice (some ⟨w.heap.size, 0, none⟩) 1 2) (by simp [Act.eval, Act.put]) (by simp [Act.eval, Act.put]) HC2.out ?_)
      all_goals
        simp only [Act.put, List.getElem_toArray, List.getElem_cons_succ, List.getElem_cons_zero, List.setIfInBounds_toArray, List.set_cons_zero, List.set_cons_succ]
        go_wp2
        go_roundw
        case rel => exact .inr ⟨by go_num, H2.out, HX2.out⟩
        case measure => simp [intOf]
    · have H1 := Lib.hid h1
      have HX := Lib.hid hx
      clear h1 hx
      go_wp2
      go_ret
      exact ⟨⟨_, rfl, own_whole (w0 := w0) H1.out (Nat.le_refl _) rfl (by decide) ⟨[.int .i64 x.a, .int .i64 x.b, .int .i64 x.k, .slice p1 n1 c1, .slice q1 m1 d1], [.int .i64 x.a, .int .i64 x.b, .int .i64 x.k, .slice p1 n1 c1, .slice q1 m1 d1], rfl, HX0.out.r, [.int .i64 x.a, .int .i64 x.b, .int .i64 x.k, .slice p1 n1 c1, .slice q1 m1 d1], [], rfl, HX0.out.r, rfl⟩ (Ext.trans HXW.out HX.out) HXW.out.size⟩, HX.out⟩
end Go.Proofs.Ytifbmkcfgpfefaa.Wi
