/- Jobs: the set of targets that were seen, a map of the call's own. -/
import Derived.Test.YtlbpgaoindkgbaaMeB
import Derived.Maps.Own
import Derived.Maps.OwnOps
import Derived.Maps.Views
import Derived.DeepKeys4
namespace Go.Proofs.Ytlbpgaoindkgbaa.Me
open Go.RowKit Go.Proofs.Ytlbpgaoindkgbaa Go.Sort
open Go.Maps (Keyed)
set_option linter.unusedVariables false

theorem laid_out : laidOutB Try.prog = true := by kernel_rfl
theorem key_row : (46 : TypeId) < Try.prog.types.size := of_decide_eq_true (by kernel_rfl)
theorem key_wide : (match Try.prog.underlying 46 with | some (.array _ _) | some (.struct _) => true | _ => false) = true := by kernel_rfl
theorem key_law : Keyed Try.prog 46 := Keyed.of_law (deep_law_laid laid_out (m := 2) (by omega) key_row (by kernel_rfl) key_wide)
def keyV (i t : Int) : Value := .agg #[.int .i64 i, .int .i64 t]
noncomputable def klit (i t : Int) : Lit := (keyOf Try.prog 46 (keyV i t)).getD .nil
theorem key_type : Try.prog.keyType 46 = true := by kernel_rfl
theorem cells_key : Try.prog.cellsOf 46 = 2 := by kernel_rfl
theorem cells_int : Try.prog.cellsOf 3 = 1 := by kernel_rfl
theorem types_size : ∃ m, Try.prog.types.size = m + 1 := ⟨Try.prog.types.size - 1, by have h : 0 < Try.prog.types.size := Nat.lt_of_le_of_lt (Nat.zero_le _) key_row; omega⟩
theorem key_some {i t : Int} (hi : (Lit.int .i64 i).wf = true) (ht : (Lit.int .i64 t).wf = true) : keyOf Try.prog 46 (keyV i t) = some (klit i t) := by
  have : (keyOf Try.prog 46 (keyV i t)).isSome = true := by
    obtain ⟨m, hm⟩ := types_size
    unfold keyOf keyV
    rw [Try.underlying46, key_type, hm]
    simp [Value.formed, Try.underlying46, cells_key, cells_int, Program.keyLits, Value.cells, Try.underlying3, hi, ht]
  unfold klit
  obtain ⟨l, hl⟩ := Option.isSome_iff_exists.1 this
  rw [hl]; rfl
theorem klit_inj {i t i' t' : Int} (hi : (Lit.int .i64 i).wf = true) (ht : (Lit.int .i64 t).wf = true) (hi' : (Lit.int .i64 i').wf = true) (ht' : (Lit.int .i64 t').wf = true) (h : klit i t = klit i' t') : i = i' ∧ t = t' := by
  have h1 := key_some hi ht
  have h2 := key_some hi' ht'
  rw [h] at h1
  have := key_law.inj h1 h2
  unfold keyV at this
  simpa using this
theorem klit_key {i t : Int} (hi : (Lit.int .i64 i).wf = true) (ht : (Lit.int .i64 t).wf = true) : WideAt.IsKeyLit (klit i t) := key_law.key (key_some hi ht)
/-- block b is a map in which just these targets stand for true -/
def SeenR (w : World) (b n : Nat) (S : List Jb) : Prop :=
  ∃ D : DataW Unit, w.ownsMap Try.prog 46 (plainElem Try.prog 4) b n D ∧ Maps.IsMap D ∧ ∀ i t, (Lit.int .i64 i).wf = true → (Lit.int .i64 t).wf = true → D.atKey (klit i t) (.lit (.bool false)) = .lit (.bool (decide (∃ x ∈ S, x.i = i ∧ x.t = t)))
theorem seen_made (w : World) : SeenR (w.alloc (.map #[] 0)) w.heap.size 0 [] :=
  ⟨.map [], World.ownsMap_made w _ _ _, ⟨_, rfl⟩, fun i t _ _ => by simp [DataW.atKey]⟩
theorem SeenR.ext {w w' : World} {b n : Nat} {S : List Jb} (h : SeenR w b n S) (hx : Ext w w') : SeenR w' b n S := by
  obtain ⟨D, h1, h2, h3⟩ := h
  refine ⟨D, ?_, h2, h3⟩
  obtain ⟨es, clock, hb, F, hs, hD⟩ := h1
  exact ⟨es, clock, (hx.block b (Array.getElem?_eq_some_iff.1 hb).1).trans hb, F, hs, hD⟩
theorem SeenR.kept {w w' : World} {b n : Nat} {S : List Jb} {row : Option Nat} (h : SeenR w b n S) (hg : w.grownBy w' row) (hne : some b ≠ row) : SeenR w' b n S := by
  obtain ⟨D, h1, h2, h3⟩ := h
  exact ⟨D, h1.kept hg hne, h2, h3⟩
theorem SeenR.mono {w : World} {b n m : Nat} {S : List Jb} (h : SeenR w b n S) (hn : n ≤ m) : SeenR w b m S := by
  obtain ⟨D, h1, h2, h3⟩ := h
  exact ⟨D, h1.mono hn, h2, h3⟩
theorem SeenR.lt {w : World} {b n : Nat} {S : List Jb} (h : SeenR w b n S) : b < w.heap.size := by
  obtain ⟨D, h1, _⟩ := h
  exact h1.lt
theorem zero_bool (w : World) : (zeroValue 4).run Try.prog w = .ok (.bool false) w := by
  exact Try.zeroValue4 w
theorem SeenR.look {w : World} {b n : Nat} {S : List Jb} (h : SeenR w b n S) {i t : Int} (hi : (Lit.int .i64 i).wf = true) (ht : (Lit.int .i64 t).wf = true) :
    (Instr.lookup 44 (.map (some b)) (keyV i t) false).run Try.prog w = .ok (.bool (decide (∃ x ∈ S, x.i = i ∧ x.t = t))) w := by
  obtain ⟨D, h1, h2, h3⟩ := h
  obtain ⟨v, ps, hrun, hv⟩ := h1.lookup key_law Try.underlying44 (zero_bool w) (zd := .lit (.bool false)) (zp := []) (plainElem_bool Try.underlying4 false) (key_some hi ht)
  rw [h3 i t hi ht] at hv
  rw [hrun]
  have hu := Try.underlying4
  unfold plainElem at hv
  rw [hu] at hv
  cases v <;> simp at hv
  obtain ⟨hv, _⟩ := hv
  rw [hv]
theorem wpList_look {w : World} {ops : Array Oper} {rest : List Oper} {o : Oper} {a : Act} {Q : Exit → Act → World → Prop}
    (hgd : Region.wanted o (yielded ops a.tmps) = true) (m x : Operand) (hop : o.op = Op.lookup 44 m x false)
    (b n : Nat) (S : List Jb) (hm : a.eval m = .map (some b)) (h : SeenR w b n S) (i t : Int) (hi : (Lit.int .i64 i).wf = true) (ht : (Lit.int .i64 t).wf = true) (hx : a.eval x = .agg #[.int .i64 i, .int .i64 t])
    (hK : wpList Try.prog ops Q rest (a.put o.dst (.bool (decide (∃ x ∈ S, x.i = i ∧ x.t = t)))) w) :
    wpList Try.prog ops Q (o :: rest) a w :=
  wpList_step fun K' hK' => by
    rw [if_pos hgd]
    have hrun := h.look hi ht
    unfold keyV at hrun
    unfold Oper.wp
    simp [execOp, hop, hm, hx, hrun, Result.andThen]
    exact hK' _ _ hK
theorem wpList_mark {w : World} {ops : Array Oper} {rest : List Oper} {o : Oper} {a : Act} {Q : Exit → Act → World → Prop}
    (hg : o.guard = none) (m x v : Operand) (hop : o.op = Op.mapUpdate 44 m x v)
    (b n : Nat) (S : List Jb) (hm : a.eval m = .map (some b)) (h : SeenR w b n S) (hn : n < maxLen) (j : Jb) (hw : JbWf j) (hx : a.eval x = .agg #[.int .i64 j.i, .int .i64 j.t]) (hv : a.eval v = .bool true)
    (hK : ∀ w', SeenR w' b (n + 1) (S ++ [j]) → w.grownBy w' (some b) → wpList Try.prog ops Q rest (a.put o.dst undef) w') :
    wpList Try.prog ops Q (o :: rest) a w := by
  obtain ⟨D, h1, h2, h3⟩ := h
  refine wpList_mapUpdate_own w hg m x v 44 hop _ _ key_law Try.underlying44 _ b n D hm h1 hn _ _ (klit j.i j.t) hx hv (key_some hw.1 hw.2.2.2.1) (.lit (.bool true)) [] (plainElem_bool Try.underlying4 true) fun w' g1 g2 => hK w' ⟨_, g1, h2.put _ _, fun i t hi ht => ?_⟩ g2
  by_cases e : klit i t = klit j.i j.t
  · obtain ⟨rfl, rfl⟩ := klit_inj hi ht hw.1 hw.2.2.2.1 e
    rw [Maps.atKey_put_same h2 (klit_key hi ht)]
    rw [decide_eq_true (⟨j, by simp, rfl, rfl⟩ : ∃ x ∈ S ++ [j], x.i = j.i ∧ x.t = j.t)]
  · rw [Maps.atKey_put_other e, h3 i t hi ht]
    congr 2
    rw [Bool.eq_iff_iff, decide_eq_true_iff, decide_eq_true_iff]
    constructor
    · rintro ⟨x, hx, h⟩; exact ⟨x, by simp [hx], h⟩
    · rintro ⟨x, hx, rfl, rfl⟩
      rcases List.mem_append.1 hx with hx | hx
      · exact ⟨x, hx, rfl, rfl⟩
      · simp at hx; subst hx; exact absurd rfl e
end Go.Proofs.Ytlbpgaoindkgbaa.Me
