/- Messages: one put into a row, in its place. -/
import Derived.Test.YtifbmkcfgpfefaaWiH
import Derived.Deep.RegionLaw
import Derived.Deep.AppendLies
import Derived.Test.YtifbmkcfgpfefaaIns
import Derived.Lib.Overlaps
import Derived.Laws.Externs
namespace Go.Proofs.Ytifbmkcfgpfefaa.Wi
open Go.RowKit Go.Proofs.Ytifbmkcfgpfefaa
set_option linter.unusedVariables false

theorem cut_some {g c k : Nat} (h : k < c) : cutP (some ⟨g, 0, none⟩) c k 5 = some ⟨g, k * 5, none⟩ := by
  simp only [cutP, if_neg (Nat.ne_of_gt h), Option.map_some, addN, Nat.zero_add]
def zeroM : Mg := ⟨0, 0, 0, [], []⟩
theorem zero_mg (w : World) : LMg.R w (Value.agg #[.int .i64 0, .int .i64 0, .int .i64 0, .slice none 0 0, .slice none 0 0]).cells.toList zeroM :=
  MgC.r (x := zeroM) ⟨by decide, by decide, by decide, Lay.Row.nil _ _ _, by omega, by omega, fun h => by omega, Lay.Row.nil _ _ _, by omega, by omega, fun h => by omega⟩
theorem sizeOf_mg (w : World) : (Go.sizeOf 26).run Try.prog w = .ok 5 w := by
  obtain ⟨i0, hi0, hzi0, hzi1, hzi2⟩ := info_parts info_mg
  simp [Go.sizeOf, typeInfo, hi0, hzi1]; rfl
theorem shape_row {w : World} {g : Nat} {cs : Array Value} {t : TypeId} {fr : Nat × Nat} (h : w.heap[g]? = some (.cells cs t fr)) : w.shape? g = some (t, cs.size) := by
  unfold World.shape?; rw [h]
/-- what is written into a block that is new -/
theorem grown_new {a b c : World} {row : Option Nat} (h : Ext a b) (hg : b.grownBy c (some a.heap.size)) : a.grownBy c row :=
  ⟨hg.os.trans h.os, hg.tape.trans h.tape, hg.output.trans h.output, Nat.le_trans h.size hg.size, fun k hk _ => by
    rw [hg.block k (Nat.lt_of_lt_of_le hk h.size) (fun e => by simp only [Option.some.injEq] at e; omega)]
    exact h.block k hk⟩
/-- behind the growing append: the new row, the new file in it, and what is left to copy -/
theorem ins_after {i0 : TypeInfo} (hi0 : Try.prog.info? 26 = some i0) (hzi1 : i0.size = LMg.size) {W0 w6 : World} {v6 : Value} {l : List Mg} {i n N M base vb : Nat} {w0 : World} {x : Mg} {p1 : Option Addr} {n1 c1 : Nat} {q1 : Option Addr} {m1 d1 : Nat} (hln : l.length = n) (hin : i < n) (hN : n + 1 = N) (hM : n + 1 - i = M)
    (h6 : LMg.Own w6 base 26 v6 (l.take i ++ List.replicate M zeroM)) (hx : Ext W0 w6) (hb : v6.ownBlock = some W0.heap.size) (hx0 : MgC w0 x p1 n1 c1 q1 m1 d1) (hxw : Ext w0 W0)
    (hvb : W0.heap[vb]? = some (.cells #[.int .i64 x.a, .int .i64 x.b, .int .i64 x.k, .slice p1 n1 c1, .slice q1 m1 d1] 26 (0, 0))) :
    ∃ c6 w7, v6 = .slice (some ⟨W0.heap.size, 0, none⟩) N c6 ∧ N ≤ c6 ∧
      (∀ W, (Instr.slice 22 (.slice (some ⟨W0.heap.size, 0, none⟩) N c6) (some (.int .i64 (i : Int))) none none).run Try.prog W = .ok (.slice (some ⟨W0.heap.size, i * 5, none⟩) (N - i) (c6 - i)) W) ∧
      (∀ W, (Instr.slice 22 (.slice (some ⟨W0.heap.size, 0, none⟩) N c6) (some (.int .i64 ((i : Int) + 1))) none none).run Try.prog W = .ok (.slice (some ⟨W0.heap.size, (i + 1) * 5, none⟩) (N - (i + 1)) (c6 - (i + 1))) W) ∧
      (∀ dc, (Builtin.copy_ #[22, 22] 3 #[.slice (some ⟨W0.heap.size, i * 5, none⟩) (N - i) dc, .slice (some ⟨vb, 0, none⟩) 1 1]).run Try.prog w6 = .ok (goInt 1) w7) ∧
      LMg.Own w7 base 26 (.slice (some ⟨W0.heap.size, 0, none⟩) N c6) (l.take i ++ x :: List.replicate (M - 1) zeroM) ∧ Ext W0 w7 := by
  have hlen : (l.take i ++ List.replicate M zeroM).length = N := by simp; omega
  obtain ⟨g6, c6, rfl, hg6⟩ := h6.full (by rw [hlen]; omega)
  rw [hlen] at h6 hb ⊢
  obtain rfl : g6 = W0.heap.size := by simpa [Value.ownBlock] using hb
  have hNc : N ≤ c6 := by
    rcases h6.form with e | ⟨g9, c9, e, h⟩
    · cases e
    · injection e with e1 e2 e3; rw [e3]; rw [hlen] at h; exact h
  have hRK : LMg.RowK w6 (some W0.heap.size) (some ⟨vb, 0, none⟩) 1 [x] :=
    ⟨rfl, by omega, [.int .i64 x.a, .int .i64 x.b, .int .i64 x.k, .slice p1 n1 c1, .slice q1 m1 d1], mg_keep hx0 (Ext.trans hxw hx) (fun k hk => by cases hk; exact hxw.size), fun _ => ⟨vb, 0, rfl, fun j u hu => hx.cell (by rw [cell_of_row _ _ _ _ _ _ hvb, Nat.zero_add]; simpa using hu)⟩⟩
  have hcopy := fun dc => Lay.run_copy_own (E := LMg) (P := Try.prog) w6 22 22 3 26 i0 Try.underlying22 hi0 hzi1 base W0.heap.size N c6 i (N - i) dc _ h6 hlen (i * 5) rfl (some ⟨vb, 0, none⟩) 1 1 1 [x] hRK (by omega) (by omega) (by omega)
  obtain ⟨w7, hr7, hO7, hG7⟩ := hcopy (c6 - i)
  have hsame : ∀ dc, (Builtin.copy_ #[22, 22] 3 #[.slice (some ⟨W0.heap.size, i * 5, none⟩) (N - i) dc, .slice (some ⟨vb, 0, none⟩) 1 1]).run Try.prog w6 = .ok (goInt 1) w7 := fun dc => hr7
  refine ⟨c6, w7, rfl, hNc, fun W => ?_, fun W => ?_, hsame, ?_, Lay.grown_old hx (fun k hk => by cases hk; exact Nat.le_refl _) hG7⟩
  · have h := run_cut_from (P := Try.prog) (t := 22) (e := 26) Try.underlying22 rowsize_mg (some ⟨W0.heap.size, 0, none⟩) N c6 i (i : Int) rfl (by omega) hNc W
    rwa [cut_some (show i < c6 by omega)] at h
  · have h := run_cut_from (P := Try.prog) (t := 22) (e := 26) Try.underlying22 rowsize_mg (some ⟨W0.heap.size, 0, none⟩) N c6 (i + 1) ((i : Int) + 1) (by omega) (by omega) hNc W
    rwa [cut_some (show i + 1 < c6 by omega)] at h
  · have hil : (l.take i).length = i := by rw [List.length_take]; omega
    have e1 : (l.take i ++ List.replicate M zeroM).take i = l.take i := List.take_left' hil
    have e2 : (l.take i ++ List.replicate M zeroM).drop (i + 1) = List.replicate (M - 1) zeroM := by
      rw [← List.drop_drop, List.drop_left' hil, List.drop_replicate]
    rw [e1, e2] at hO7
    simpa using hO7
set_option maxRecDepth 100000 in
set_option maxHeartbeats 4000000 in
theorem insert_v (v : Value) (l : List Mg) (i : Nat) (x : Mg) (p1 : Option Addr) (n1 c1 : Nat) (q1 : Option Addr) (m1 d1 : Nat) (base vb : Nat) (w0 w : World) (hnb : w.heap[vb]? = some (.cells #[.int .i64 x.a, .int .i64 x.b, .int .i64 x.k, .slice p1 n1 c1, .slice q1 m1 d1] 26 (0, 0))) (hvb : v.ownBlock ≠ some vb) (hx0 : MgC w0 x p1 n1 c1 q1 m1 d1) (hxw : Ext w0 w) (hbb : w0.heap.size ≤ base) (hv : LMg.Own w base 26 v l) (hi : i ≤ l.length) (hn : l.length ≤ 1000) (hb : base ≤ w.heap.size) :
    Calls Try.prog 29 #[v, .int .i64 i, .slice (some ⟨vb, 0, none⟩) 1 1] w fun e w' =>
      (∃ v', e = .returned v' ∧ LMg.Own w' base 26 v' (l.take i ++ x :: l.drop i)) ∧ w.grownBy w' v.ownBlock := by
  obtain ⟨i0, hi0, hzi0, hzi1, hzi2⟩ := info_parts info_mg
  have hxA : Ext w w := Ext.refl _
  have HNB := Lib.hid hnb
  have HVB := Lib.hid hvb
  have HGA := Lib.hid (World.grownBy.refl w v.ownBlock)
  have hlt := hv.lt
  obtain ⟨p, n, c, rfl⟩ := own_form hv
  obtain ⟨hrow, hnc, hcm, hpl⟩ := sl_parts hv.sl
  have hln : l.length = n := hrow.1
  have HLN := Lib.hid hln
  have HLT := Lib.hid hlt
  have HOA := Lib.hid (hv.ext hxA)
  have HBA : Hid (base ≤ w.heap.size) := Lib.hid (Nat.le_trans hb hxA.size)
  have HX0 := Lib.hid hx0
  have HXW := Lib.hid hxw
  have HXA := Lib.hid (Ext.trans hxw hxA)
  have hn1 : n ≤ 1000 := by omega
  have hin : i ≤ n := by omega
  have hin0 : (0 : Int) ≤ (i : Int) := by omega
  have hin1 : (i : Int) ≤ (n : Int) := by omega
  have hncI : (n : Int) ≤ (c : Int) := by omega
  have hcut : ∀ W, (Instr.slice 22 (.slice p n c) (some (.int .i64 (i : Int))) none none).run Try.prog W = .ok (.slice (cutP p c i 5) (n - i) (c - i)) W := fun W =>
    run_cut_from (P := Try.prog) (t := 22) (e := 26) Try.underlying22 rowsize_mg p n c i (i : Int) rfl hin hnc W
  have HRA : Hid (∀ row, (∀ k, row = some k → w0.heap.size ≤ k) → LMg.RowK w row (some ⟨vb, 0, none⟩) 1 [x]) := Lib.hid (fun row hr => ⟨rfl, by omega, [.int .i64 x.a, .int .i64 x.b, .int .i64 x.k, .slice p1 n1 c1, .slice q1 m1 d1], mg_keep hx0 (Ext.trans hxw hxA) hr, fun _ => ⟨vb, 0, rfl, fun j u hu => by rw [Nat.zero_add, cell_of_row _ _ _ _ _ _ hnb]; simpa using hu⟩⟩)
  clear hv hlt hrow hln hnb hvb hn hi hx0 hxw
  by_cases hie : i = n
  · subst hie
    clear hcut hxA
    have hcut : ∀ W, (Instr.slice 22 (.slice p i c) (some (.int .i64 (i : Int))) none none).run Try.prog W = .ok (.slice (cutP p c i 5) (i - i) (c - i)) W := fun W =>
      run_cut_from (P := Try.prog) (t := 22) (e := 26) Try.underlying22 rowsize_mg p i c i (i : Int) rfl hin hnc W
    go_enter Try.func29, Try.ntmps29
    go_wp2_with (at_builtin; refine Lay.wpList_append (E := LMg) rfl (.tmp 23) (.tmp 24) 22 rfl base 26 i0 (.agg #[.int .i64 0, .int .i64 0, .int .i64 0, .slice none 0 0, .slice none 0 0]) 72 Try.underlying22 hi0 hzi0 hzi1 hzi2 rfl (.slice p i c) l rfl HOA.out (some ⟨vb, 0, none⟩) 1 1 [x] rfl (fun _ => ⟨_, _, rfl⟩) (Nat.le_refl _) (HRA.out _ (fun k hk => by have := (HOA.out.lt k hk).1; omega)) (by have := HLN.out; unfold maxLen; omega) (by have := HLN.out; omega) HBA.out ?_; intro v2 w3 hown2 hg2)
    have HG := Lib.hid (World.grownBy.trans HGA.out hg2)
    have HO := Lib.hid hown2
    clear hown2 hg2
    go_wp2
    go_ret
    exact ⟨⟨_, rfl, by have := HO.out; rw [List.take_of_length_le (by rw [HLN.out]; omega), List.drop_eq_nil_of_le (by rw [HLN.out]; omega)]; exact this⟩, HG.out⟩
  · have hlt : i < n := by omega
    have hlt' : ¬ (i : Int) = (n : Int) := by omega
    have hlt2 : ((i : Int) == (n : Int)) = false := by simp; omega
    obtain ⟨g, rfl⟩ : ∃ g, p = some ⟨g, 0, none⟩ := by
      rcases HOA.out.form with e | ⟨g, c9, e, _⟩
      · injection e with e1 e2 e3; omega
      · injection e with e1 e2 e3; exact ⟨g, e1⟩
    have hgv : g < w.heap.size := (HLT.out g rfl).2
    have hgbase : w0.heap.size ≤ g := Nat.le_trans hbb (HLT.out g rfl).1
    have HGK : Hid (∀ k, some g = some k → w0.heap.size ≤ k) := Lib.hid (fun k hk => by cases hk; exact hgbase)
    have hgv2 : g < w.heap.size := hgv
    have hgne : vb ≠ g := fun e => HVB.out (by rw [e]; rfl)
    have hvlt : vb < w.heap.size := (Array.getElem?_eq_some_iff.1 HNB.out).1
    rw [cut_some (show i < c by omega)] at hcut
    by_cases hroom : n + 1 ≤ c
    · have hroom' : ¬ (c : Int) < (n : Int) + 1 := by omega
      have hc1 : (n : Int) + 1 ≤ (c : Int) := by omega
      obtain ⟨cur, vs, hcur, hcs, htk, hAl, hbg, _, _, hvl⟩ := HOA.out.block HLN.out
      have HCUR := Lib.hid hcur
      have hcl : cur.size = c * 5 := hcs
      have hto : ∀ W, (Instr.slice 22 (.slice (some ⟨g, 0, none⟩) n c) none (some (.int .i64 ((n : Int) + 1))) none).run Try.prog W = .ok (.slice (some ⟨g, 0, none⟩) (n + 1) c) W := fun W =>
        run_cut_to (P := Try.prog) (t := 22) (e := 26) Try.underlying22 rowsize_mg (some ⟨g, 0, none⟩) n c (n + 1) ((n : Int) + 1) (by omega) hroom hpl W
      have hc2 : ∀ W, (Instr.slice 22 (.slice (some ⟨g, 0, none⟩) (n + 1) c) (some (.int .i64 (i : Int))) none none).run Try.prog W = .ok (.slice (some ⟨g, i * 5, none⟩) (n + 1 - i) (c - i)) W := fun W => by
        have h := run_cut_from (P := Try.prog) (t := 22) (e := 26) Try.underlying22 rowsize_mg (some ⟨g, 0, none⟩) (n + 1) c i (i : Int) rfl (by omega) hroom W
        rwa [cut_some (show i < c by omega)] at h
      have hc3 : ∀ W, (Instr.slice 22 (.slice (some ⟨g, 0, none⟩) (n + 1) c) (some (.int .i64 ((i : Int) + 1))) none none).run Try.prog W = .ok (.slice (some ⟨g, (i + 1) * 5, none⟩) (n - i) (c - (i + 1))) W := fun W => by
        have h := run_cut_from (P := Try.prog) (t := 22) (e := 26) Try.underlying22 rowsize_mg (some ⟨g, 0, none⟩) (n + 1) c (i + 1) ((i : Int) + 1) (by omega) (by omega) hroom W
        rwa [cut_some (show i + 1 < c by omega), show n + 1 - (i + 1) = n - i by omega] at h
      have hov : ∀ lb cb, (callFunc 37 #[.slice (some ⟨vb, 0, none⟩) 1 1, .slice (some ⟨g, (i + 1) * 5, none⟩) lb cb]).run Try.prog w = .ok (.value (.bool false)) w := fun lb cb => by
        rw [run_callFunc_extern Try.func37 (by kernel_rfl) (by kernel_rfl) (by kernel_rfl) (e := Extern.SlicesOverlaps.overlaps #[22, 22] #[4]) (by kernel_rfl),
          Lib.run_overlaps_apart w 22 4 26 Try.underlying22 5 sizeOf_mg ⟨vb, 0, none⟩ ⟨g, (i + 1) * 5, none⟩ 1 1 lb cb (by simp only; omega) 26 26 5 (c * 5) (shape_row HNB.out) (by rw [shape_row HCUR.out, hcl]) (by omega) (frozen_of_row _ _ _ _ _ HNB.out) (frozen_of_row _ _ _ _ _ HNB.out)]
        rfl
      have HSH : Hid (∀ W, W.heap[g]? = some (.cells cur 26 (0, 0)) → ∀ dc sc, (Builtin.copy_ #[22, 22] 3 #[.slice (some ⟨g, (i + 1) * 5, none⟩) (n - i) dc, .slice (some ⟨g, i * 5, none⟩) (n + 1 - i) sc]).run Try.prog W = .ok (goInt ((n - i : Nat) : Int)) (W.setRow g (Lay.insA1 cur n i 5))) := Lib.hid fun W hW dc sc => by
        have h := Lay.run_shift (E := LMg) (P := Try.prog) w 22 3 26 i0 Try.underlying22 hi0 hzi1 HOA.out HLN.out hlt hroom HCUR.out W hW dc sc
        rw [show n + 1 - (i + 1) = n - i by omega] at h
        exact h
      have HPT : Hid (∀ W1, W1.heap[g]? = some (.cells (Lay.insA1 cur n i 5) 26 (0, 0)) → W1.heap[vb]? = some (.cells #[.int .i64 x.a, .int .i64 x.b, .int .i64 x.k, .slice p1 n1 c1, .slice q1 m1 d1] 26 (0, 0)) → ∀ dc sc, (Builtin.copy_ #[22, 22] 3 #[.slice (some ⟨g, i * 5, none⟩) (n + 1 - i) dc, .slice (some ⟨vb, 0, none⟩) 1 sc]).run Try.prog W1 = .ok (goInt 1) (W1.setRow g (Lay.insA2 cur n i 5 [.int .i64 x.a, .int .i64 x.b, .int .i64 x.k, .slice p1 n1 c1, .slice q1 m1 d1]))) := Lib.hid fun W1 hW1 hv1 dc sc =>
        Lay.run_put1 (E := LMg) (P := Try.prog) w W1 22 3 26 i0 Try.underlying22 hi0 hzi1 HOA.out HLN.out hlt hroom HCUR.out hW1 (mg_keep HX0.out HXA.out HGK.out) vb (fun j u hj => by rw [cell_of_row _ _ _ _ _ _ hv1]; simpa using hj) dc sc
      have hw1 : IntKind.i64.wrap ((i : Int) + 1) = (i : Int) + 1 := by rw [IntKind.wrap_i64]; omega
      have hi1 : (0 : Int) ≤ (i : Int) + 1 := by omega
      clear hcur hcs htk hAl hvl hxA
      go_enter Try.func29, Try.ntmps29
      go_wp2_with (simp only [hov])
      go_region_law (refine Lay.step_copy_run (by simp [Region.wanted]) (.tmp 73) (.tmp 76) 22 22 rfl (.slice (some ⟨g, (i + 1) * 5, none⟩) (n - i) (c - (i + 1))) (.slice (some ⟨g, i * 5, none⟩) (n + 1 - i) (c - i)) (by simp [Act.eval, Act.put]) (by simp [Act.eval, Act.put]) (HSH.out _ (by exact HCUR.out) _ _) ?_)
      all_goals
        have hA1 : ((w).drew.setRow g (Lay.insA1 cur n i 5)).heap[g]? = some (.cells (Lay.insA1 cur n i 5) 26 (0, 0)) := setRow_heap _ _ cur _ _ _ HCUR.out
        have hB1 : ((w).drew.setRow g (Lay.insA1 cur n i 5)).heap[vb]? = some (.cells #[.int .i64 x.a, .int .i64 x.b, .int .i64 x.k, .slice p1 n1 c1, .slice q1 m1 d1] 26 (0, 0)) := by
          rw [setRow_other _ _ _ _ (by omega)]; exact HNB.out
        have hG1 : w.grownBy ((w).drew.setRow g (Lay.insA1 cur n i 5)) (some g) := World.grownBy.trans HGA.out ⟨rfl, rfl, rfl, by simp, fun j _ hj => setRow_other _ g j _ (fun e => hj (by rw [e]))⟩
        have hGA : (w).grownBy ((w).drew.setRow g (Lay.insA1 cur n i 5)) (some g) := ⟨rfl, rfl, rfl, by simp, fun j _ hj => setRow_other _ g j _ (fun e => hj (by rw [e]))⟩
        generalize (w).drew.setRow g (Lay.insA1 cur n i 5) = W1 at hA1 hB1 hG1 hGA ⊢
        have HA1 := Lib.hid hA1
        have HB1 := Lib.hid hB1
        have HG1 := Lib.hid hG1
        have HGA1 := Lib.hid hGA
        clear hA1 hB1 hG1 hGA
        have hput := HPT.out W1 HA1.out HB1.out (c - i) 1
        go_wp2
        have hA2 : (W1.setRow g (Lay.insA2 cur n i 5 [.int .i64 x.a, .int .i64 x.b, .int .i64 x.k, .slice p1 n1 c1, .slice q1 m1 d1])).heap[g]? = some (.cells (Lay.insA2 cur n i 5 [.int .i64 x.a, .int .i64 x.b, .int .i64 x.k, .slice p1 n1 c1, .slice q1 m1 d1]) 26 (0, 0)) := setRow_heap _ _ (Lay.insA1 cur n i 5) _ _ _ HA1.out
        have hG2 : W1.grownBy (W1.setRow g (Lay.insA2 cur n i 5 [.int .i64 x.a, .int .i64 x.b, .int .i64 x.k, .slice p1 n1 c1, .slice q1 m1 d1])) (some g) := ⟨rfl, rfl, rfl, by simp, fun j _ hj => setRow_other _ g j _ (fun e => hj (by rw [e]))⟩
        have HFIN := Lib.hid (Lay.Own.ins (E := LMg) HOA.out HLN.out HCUR.out hlt hroom (mg_keep HX0.out HXA.out HGK.out) hA2 (World.grownBy.trans HGA1.out hG2))
        have HGF := Lib.hid (World.grownBy.trans HG1.out hG2)
        clear hA2 hG2
        go_ret
        exact ⟨⟨_, rfl, HFIN.out⟩, HGF.out⟩
    · have hroom' : (c : Int) < (n : Int) + 1 := by omega
      obtain ⟨N, hN⟩ : ∃ N, n + 1 = N := ⟨_, rfl⟩
      obtain ⟨M, hM⟩ : ∃ M, n + 1 - i = M := ⟨_, rfl⟩
      have HN := Lib.hid hN
      have HM := Lib.hid hM
      have hm1 : (n : Int) + 1 - (i : Int) = (M : Int) := by omega
      have hm0 : 0 < M := by omega
      have hto : ∀ W, (Instr.slice 22 (.slice (some ⟨g, 0, none⟩) n c) none (some (.int .i64 (i : Int))) none).run Try.prog W = .ok (.slice (some ⟨g, 0, none⟩) i c) W := fun W =>
        run_cut_to (P := Try.prog) (t := 22) (e := 26) Try.underlying22 rowsize_mg (some ⟨g, 0, none⟩) n c i (i : Int) rfl (by omega) hpl W
      have HSHT := Lib.hid (HOA.out.short HLN.out i hin)
      have htl : (l.take i).length = i := by rw [List.length_take, HLN.out]; omega
      have HTL := Lib.hid htl
      have hw1 : IntKind.i64.wrap ((i : Int) + 1) = (i : Int) + 1 := by rw [IntKind.wrap_i64]; omega
      have hi1 : (0 : Int) ≤ (i : Int) + 1 := by omega
      have hiN : (i : Int) ≤ (N : Int) := by omega
      have hiN1 : (i : Int) + 1 ≤ (N : Int) := by omega
      have HROOM : Hid (c < n + 1) := Lib.hid (by omega)
      have HSRC := Lib.hid (HOA.out.sl)
      clear hN hM htl hxA hroom
      go_enter Try.func29, Try.ntmps29
      go_wp2_with (at_builtin; refine Lay.wpList_append_zeros (E := LMg) rfl (.tmp 34) (.tmp 39) 22 3 rfl base 26 i0 (.agg #[.int .i64 0, .int .i64 0, .int .i64 0, .slice none 0 0, .slice none 0 0]) zeroM .i64 .i64 72 Try.underlying22 Try.underlying3 hi0 hzi0 hzi1 hzi2 rfl (by decide) zero_mg (.slice (some ⟨g, 0, none⟩) i c) (l.take i) rfl HSHT.out M rfl hm0 (by have := HTL.out; have := HM.out; unfold maxLen; omega) (by have := HTL.out; have := HM.out; omega) HBA.out ?_; intro v6 w6 hown6 hg6 hgx; obtain ⟨hx6, hb6⟩ := hgx _ _ _ rfl (by have := HTL.out; have := HM.out; have := HROOM.out; omega); obtain ⟨c6, w7, rfl, hNc, hs1, hs2, hcp, hO7, hx7⟩ := ins_after hi0 hzi1 HLN.out hlt HN.out HM.out hown6 hx6 hb6 HX0.out HXA.out HNB.out; have HO7 := Lib.hid hO7; have HX7 := Lib.hid hx7; have HNC := Lib.hid hNc; clear hown6 hg6 hgx hb6 hO7 hx7 hNc)
      have hlen7 : (l.take i ++ x :: List.replicate (M - 1) zeroM).length = N := by have := HLN.out; have := HM.out; have := HN.out; simp; omega
      have HL7 := Lib.hid hlen7
      have hsrc7 : LMg.RowK w7.drew (some w.heap.size) (some ⟨g, i * 5, none⟩) (n - i) (l.drop i) := by
        have h := (sl_parts HSRC.out).1.cut_from hnc hpl i (by omega)
        have e : cutP (some ⟨g, 0, none⟩) c i LMg.size = some ⟨g, i * 5, none⟩ := cut_some (show i < c by omega)
        rw [e] at h
        exact h.keep (Ext.drew HX7.out) (fun k hk => by cases hk; simp)
      have HS7 := Lib.hid hsrc7
      have hfin7 : (l.take i ++ x :: List.replicate (M - 1) zeroM).take (i + 1) ++ (l.drop i).take (n - i) ++ (l.take i ++ x :: List.replicate (M - 1) zeroM).drop (i + 1 + (n - i)) = l.take i ++ x :: l.drop i := by
        have hil : (l.take i).length = i := HTL.out
        have h1 : (l.take i ++ x :: List.replicate (M - 1) zeroM).take (i + 1) = l.take i ++ [x] := by
          rw [List.take_append, hil, List.take_of_length_le (by omega)]; simp
        have h2 : (l.take i ++ x :: List.replicate (M - 1) zeroM).drop (i + 1 + (n - i)) = [] := List.drop_eq_nil_of_le (by rw [hlen7, ← HN.out]; omega)
        have h3 : (l.drop i).take (n - i) = l.drop i := List.take_of_length_le (by rw [List.length_drop, HLN.out]; omega)
        rw [h1, h2, h3]
        simp
      have HF7 := Lib.hid hfin7
      clear hlen7 hsrc7 hfin7
      go_region_law (refine Lay.step_copy (E := LMg) (by simp [Region.wanted]) (.tmp 50) (.tmp 53) 22 22 rfl base 26 i0 Try.underlying22 hi0 hzi1 w.heap.size N c6 (i + 1) (N - (i + 1)) (c6 - (i + 1)) _ (HO7.out.ext (Ext.drew (Ext.refl _))) HL7.out ((i + 1) * 5) rfl (by simp [Act.eval, Act.put]) (some ⟨g, i * 5, none⟩) (n - i) (c - i) (n - i) (l.drop i) (by simp [Act.eval, Act.put]) HS7.out (by have := HN.out; omega) (by omega) (by have := HN.out; omega) ?_; intro w8 hown8 hg8)
      all_goals
        rw [HF7.out] at hown8
        have HO8 := Lib.hid hown8
        have HG8 : Hid (w.grownBy w8 (some g)) := Lib.hid (World.grownBy.trans HGA.out (grown_new (Ext.drew HX7.out) hg8))
        clear hown8 hg8
        go_wp2
        go_ret
        exact ⟨⟨_, rfl, HO8.out⟩, HG8.out⟩
end Go.Proofs.Ytifbmkcfgpfefaa.Wi
