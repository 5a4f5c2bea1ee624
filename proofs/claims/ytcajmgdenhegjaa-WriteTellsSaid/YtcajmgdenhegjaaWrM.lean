/- Written bytes: what is to be written back next. -/
import Derived.Test.YtcajmgdenhegjaaWrL
namespace Go.Proofs.Ytcajmgdenhegjaa.Wr
open Go.RowKit Go.Proofs.Ytcajmgdenhegjaa
set_option linter.unusedVariables false

theorem results_cell_row3 {P : Program} {fn : Func} {p u v : Tmp} {ty : TypeId} (h : fn.results = #[.cell p ty, .tmp u, .tmp v]) (tmps : Array Value) (w : World) (g : Nat) (t : TypeId) (cs : Array Value) (fr : Nat × Nat) (d : TypeDesc)
    (hp : tmps.getD p undef = .pointer (some ⟨g, 0, none⟩)) (hg : w.heap[g]? = some (.cells cs t fr))
    (hu : P.underlying ty = some d) (hd : (match d with | .struct _ | .array _ _ => true | _ => false) = true) (hi : (P.info? ty).map (·.size) = some cs.size) :
    (results fn tmps).run P w = .ok (.tuple #[.agg cs, tmps.getD u undef, tmps.getD v undef]) w := by
  have hp' : tmps[p]?.getD undef = .pointer (some ⟨g, 0, none⟩) := by simpa using hp
  simp [results, h, hp', asAddr, run_loadVar_row w g t ty cs fr d hg hu hd hi]
/-- what Next tells -/
def RetNext (w : World) (l : List Pc) (e : Ending) : Prop :=
  (l = [] → e = .returned (.tuple #[.agg #[.int .i64 0, .int .i64 0, .slice none 0 0], .slice none 0 0, .bool false])) ∧
  (∀ x l', l = x :: l' → ∃ p n c q m d, e = .returned (.tuple #[.agg #[.int .i64 x.i, .int .i64 x.f, .slice p n c], .slice q m d, .bool true]) ∧ TriC w [.int .i64 x.i, .int .i64 x.f, .slice p n c] x.i x.f x.d p n c ∧ LPc.Sl w (.slice q m d) l')
theorem rowsize_pc : (Try.prog.info? 30).map (·.size) = some 3 := by kernel_rfl
theorem cut_one (b off c : Nat) (h : 1 ≤ c) : ∃ off', cutP (some ⟨b, off, none⟩) c 1 3 = some ⟨b, off', none⟩ := by
  unfold cutP
  split
  · exact ⟨_, rfl⟩
  · exact ⟨off + 1 * 3, by simp only [Option.map_some, addN]⟩
set_option maxRecDepth 100000 in
set_option maxHeartbeats 4000000 in
theorem next_v (p : Option Addr) (n c : Nat) (l : List Pc) (w : World) (hl : LPc.Sl w (.slice p n c) l) :
    Calls Try.prog 13 #[.slice p n c] w fun e w' => RetNext w' l e ∧ Ext w w' := by
  have HL := Lib.hid hl
  obtain ⟨hr, hnc, hcm, hpl⟩ := sl_parts hl
  have hx1 : Ext w (w.alloc (.cells #[.int .i64 0, .int .i64 0, .slice none 0 0] 30)) := Ext.alloc _ _
  have HX1 := Lib.hid hx1
  have hb1 := Lib.hid (heap_alloc_new w (.cells #[.int .i64 0, .int .i64 0, .slice none 0 0] 30))
  cases l with
  | nil =>
    obtain rfl : n = 0 := hr.1.symm
    clear hl hr hnc hcm hpl
    go_enter Try.func13, Try.ntmps13
    go_wp2
    refine bodyPost_ret (results_cell_row3 rfl _ _ w.heap.size 30 #[.int .i64 0, .int .i64 0, .slice none 0 0] (0, 0) _ rfl hb1.out Try.underlying30 rfl (by kernel_rfl)) rfl ⟨⟨fun _ => rfl, fun x l' h => (by cases h)⟩, HX1.out⟩
  | cons x l' =>
    have hn : n = l'.length + 1 := hr.1.symm
    have hn0 : 0 < n := by omega
    have hn0' : ¬ (n : Int) = 0 := by omega
    have hn1 : (1 : Int) ≤ (n : Int) := by omega
    have hn2 : (0 : Int) < (n : Int) := by omega
    obtain ⟨b, off, p1, n1, c1, rfl, x0, x1, x2, tx⟩ := pc_at hr (j := 0) (x := x) rfl
    obtain ⟨off', hcut⟩ := cut_one b off c (by omega)
    have hsl : ∀ W, (Instr.slice 22 (.slice (some ⟨b, off, none⟩) n c) (some (.int .i64 1)) none none).run Try.prog W = .ok (.slice (some ⟨b, off', none⟩) (n - 1) (c - 1)) W := fun W => by
      have h := run_cut_from (P := Try.prog) (t := 22) (e := 30) Try.underlying22 rowsize_pc (some ⟨b, off, none⟩) n c 1 1 rfl (by omega) hnc W
      rw [hcut] at h
      exact h
    have hrest : LPc.Row w (some ⟨b, off', none⟩) (n - 1) l' := by
      have h := hr.cut_from hnc hpl 1 (by omega)
      have e : cutP (some ⟨b, off, none⟩) c 1 LPc.size = cutP (some ⟨b, off, none⟩) c 1 3 := rfl
      rw [e, hcut] at h
      exact h
    have HR := Lib.hid (Lay.Sl.mk hrest (show n - 1 ≤ c - 1 by omega) (by omega) (fun _ => ⟨_, _, rfl⟩))
    have HT := Lib.hid tx
    simp only [Nat.zero_mul, Nat.add_zero] at x0 x1 x2
    have z0 : (w.alloc (.cells #[.int .i64 0, .int .i64 0, .slice none 0 0] 30)).cell? ⟨w.heap.size, 0, none⟩ = some (.int .i64 0) := cell_of_row _ _ 0 _ _ _ hb1.out
    have z1 : (w.alloc (.cells #[.int .i64 0, .int .i64 0, .slice none 0 0] 30)).cell? ⟨w.heap.size, 1, none⟩ = some (.int .i64 0) := cell_of_row _ _ 1 _ _ _ hb1.out
    have y0 := hx1.cell x0
    have y1 := hx1.cell x1
    have y2 := hx1.cell x2
    clear hl hr hcut hrest tx hpl hn
    go_enter Try.func13, Try.ntmps13
    go_wp2
    go_region_with (fail)
    all_goals
      have hx2 : Ext w (w.alloc (.cells #[.int .i64 x.i, .int .i64 x.f, .slice p1 n1 c1] 30)).drew := Ext.drew (Ext.alloc _ _)
      have hb2 : (w.alloc (.cells #[.int .i64 x.i, .int .i64 x.f, .slice p1 n1 c1] 30)).drew.heap[w.heap.size]? = some (.cells #[.int .i64 x.i, .int .i64 x.f, .slice p1 n1 c1] 30 (0, 0)) := heap_alloc_new w _
      generalize (w.alloc (.cells #[.int .i64 x.i, .int .i64 x.f, .slice p1 n1 c1] 30)).drew = w9 at hx2 hb2 ⊢
      have HB2 := Lib.hid hb2
      clear hb2
      go_wp2
      refine bodyPost_ret (results_cell_row3 rfl _ _ w.heap.size 30 #[.int .i64 x.i, .int .i64 x.f, .slice p1 n1 c1] (0, 0) _ rfl HB2.out Try.underlying30 rfl (by kernel_rfl)) rfl ⟨⟨fun h => (by cases h), fun y m' h => ?_⟩, hx2⟩
      cases h
      exact ⟨_, _, _, _, _, _, rfl, HT.out.at_ hx2 _ HT.out.wb, HR.out.ext hx2⟩
end Go.Proofs.Ytcajmgdenhegjaa.Wr
