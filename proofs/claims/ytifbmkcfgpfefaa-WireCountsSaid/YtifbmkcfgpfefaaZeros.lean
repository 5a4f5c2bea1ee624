/- Copying into a row of one's own; zeros appended to it. -/
import Derived.Test.YtifbmkcfgpfefaaPlain
import Derived.Lib.AppendZerosOnto
import Derived.Laws.CopyRow
namespace Go.Proofs.Ytifbmkcfgpfefaa
open Go.RowKit
set_option linter.unusedVariables false
namespace Lay
variable {α : Type} {P : Program}

theorem run_copy_row (w : World) (dT sT ty e : TypeId) (i : TypeInfo) (hu : P.underlying dT = some (.slice e)) (hi : P.info? e = some i)
    (g o dLen dCap : Nat) (a : Addr) (sLen sCap n : Nat) (cs : List Value) (hn : n = Nat.min sLen dLen) (hl : cs.length = n * i.size)
    (hsrc : ∀ j v, cs[j]? = some v → w.cell? (a.add j) = some v) (cur : Array Value) (hg : w.heap[g]? = some (.cells cur e (0, 0))) (hfit : o + cs.length ≤ cur.size) (h1 : ∀ v ∈ cs, v.oneCell' = true) :
    (Builtin.copy_ #[dT, sT] ty #[.slice (some ⟨g, o, none⟩) dLen dCap, .slice (some a) sLen sCap]).run P w = .ok (goInt n) (w.setRow g (cur.toList.take o ++ cs ++ cur.toList.drop (o + cs.length)).toArray) := by
  have hf := run_firstCells_some (P := P) w i.size n a sLen sCap cs hl hsrc
  have hst := run_storeCells_at P g o e cs 0 cur w hg (by simpa using hfit) h1
  simp only [Nat.add_zero] at hst
  simp [Builtin.copy_, run_underlying hu, Builtin.lenOf, sizeOf, typeInfo, hi, ← hn, hf, hst]

/-- the row, a piece of it laid over -/
theorem Own.over {E : Lay α} {w : World} {base g n cap : Nat} {e : TypeId} {l : List α} (h : E.Own w base e (.slice (some ⟨g, 0, none⟩) n cap) l) (hn : l.length = n) (k m : Nat) (d : List α) (cs : List Value)
    (hk : k + m ≤ n) (hd : d.length = m) (hcs : E.AllK w (some g) cs d) :
    ∃ cur, w.heap[g]? = some (.cells cur e (0, 0)) ∧ k * E.size + cs.length ≤ cur.size ∧
      E.Own (w.setRow g (cur.toList.take (k * E.size) ++ cs ++ cur.toList.drop (k * E.size + cs.length)).toArray) base e (.slice (some ⟨g, 0, none⟩) n cap) (l.take k ++ d ++ l.drop (k + m)) ∧
      w.grownBy (w.setRow g (cur.toList.take (k * E.size) ++ cs ++ cur.toList.drop (k * E.size + cs.length)).toArray) (some g) := by
  subst hn
  subst hd
  obtain ⟨vs, h1, h2⟩ := h
  have hcl := hcs.all.length
  have hvl := h1.1
  rcases h1.2 with ⟨h', _⟩ | ⟨g', cap', cur, h', hb, hg, hnc, hcm, hsz, htake⟩
  · simp at h'
  · simp only [Value.slice.injEq, Option.some.injEq, Addr.mk.injEq, and_true, true_and] at h'
    obtain ⟨rfl, rfl⟩ := h'
    have hle : (k + d.length) * E.size ≤ l.length * E.size := Nat.mul_le_mul_right _ hk
    have hle2 : l.length * E.size ≤ cap * E.size := Nat.mul_le_mul_right _ hnc
    rw [Nat.add_mul] at hle
    have hgrow : w.grownBy (w.setRow g (cur.toList.take (k * E.size) ++ cs ++ cur.toList.drop (k * E.size + cs.length)).toArray) (some g) :=
      ⟨rfl, rfl, rfl, by simp, fun j _ hj => setRow_other w g j _ (fun e => hj (by rw [e]))⟩
    refine ⟨cur, hg, by rw [hcl, hsz]; omega, ⟨vs.take (k * E.size) ++ cs ++ vs.drop ((k + d.length) * E.size), ⟨?_, .inr ⟨g, cap, _, ?_, hb, setRow_heap w g cur _ e _ hg, ?_, hcm, ?_, ?_⟩⟩, ?_⟩, hgrow⟩
    · simp only [List.length_append, List.length_take, List.length_drop, hvl, hcl]
      rw [show (k + d.length) * E.size = k * E.size + d.length * E.size from Nat.add_mul _ _ _]
      rw [show (min k l.length + d.length + (l.length - (k + d.length))) = l.length by omega]
      omega
    · congr 1
      simp only [List.length_append, List.length_take, List.length_drop]; omega
    · simp only [List.length_append, List.length_take, List.length_drop]; omega
    · simp only [List.size_toArray, List.length_append, List.length_take, List.length_drop, Array.length_toList, hcl, hsz]
      omega
    · simp only [List.length_append, List.length_take, List.length_drop]
      rw [show (min k l.length + d.length + (l.length - (k + d.length))) = l.length by omega, ← htake]
      rw [show (k + d.length) * E.size = k * E.size + d.length * E.size from Nat.add_mul _ _ _, ← hcl]
      have hkl : (List.take (k * E.size) cur.toList).length = k * E.size := by rw [List.length_take, Array.length_toList, hsz]; omega
      rw [List.take_append, List.take_of_length_le (by rw [List.length_append, hkl]; omega), List.length_append, hkl, List.drop_take, List.take_take]
      congr 1
      · rw [Nat.min_eq_left (by omega)]
    · intro w2 hg2
      have e1 := (h2 w2 (grown_trans hgrow hg2)).take k
      have e2 := hcs w2 (grown_trans hgrow hg2)
      have e3 := (h2 w2 (grown_trans hgrow hg2)).drop (k + d.length)
      exact (e1.append e2).append e3

theorem wp_copy {w : World} {o : Oper} {a : Act} {K : Act → World → Prop} {Q : Exit → Act → World → Prop} {E : Lay α} (x y : Operand) (t t' : TypeId)
    (ho : o.op = .call { callee := .builtin .copy, args := #[x, y], argTypes := #[t, t'] })
    (base : Nat) (e : TypeId) (i : TypeInfo) (ht : P.underlying t = some (.slice e)) (hi : P.info? e = some i) (hsize : i.size = E.size)
    (g n cap k dLen dCap : Nat) (l : List α) (hown : E.Own w base e (.slice (some ⟨g, 0, none⟩) n cap) l) (hn : l.length = n) (off : Nat) (hoff : off = k * E.size) (hx : a.eval x = .slice (some ⟨g, off, none⟩) dLen dCap)
    (p : Option Addr) (m c z : Nat) (d : List α) (hy : a.eval y = .slice p m c) (hr : E.RowK w (some g) p m d) (hz : z = min m dLen) (hz0 : 0 < z) (hk : k + z ≤ n)
    (h : ∀ w', E.Own w' base e (.slice (some ⟨g, 0, none⟩) n cap) (l.take k ++ d.take z ++ l.drop (k + z)) → w.grownBy w' (some g) → K (a.put o.dst (.int .i64 z)) w') : o.wp P a w K Q := by
  subst hoff
  obtain ⟨h1, h2, vs, hall, hc⟩ := hr
  obtain ⟨b, off, rfl, hcc⟩ := hc (by omega)
  have hzd : (d.take z).length = z := by rw [List.length_take]; omega
  have hcs : E.AllK w (some g) (vs.take (z * E.size)) (d.take z) := fun w2 hg => (hall w2 hg).take z
  obtain ⟨cur, hg, hfit, hO, hG⟩ := hown.over hn k z (d.take z) (vs.take (z * E.size)) hk hzd hcs
  have hcl := hcs.all.length
  have hrun := run_copy_row (P := P) w t t' o.type e i ht hi g (k * E.size) dLen dCap ⟨b, off, none⟩ m c z (vs.take (z * E.size)) hz (by rw [hcl, hzd, hsize])
    (fun j u hj => by rw [addN]; refine hcc j u ?_; rw [List.getElem?_take] at hj; split at hj; exact hj; cases hj) cur hg hfit (fun v hv => hcs.all.one v hv)
  unfold Oper.wp execOp
  simp only [ho, resolve, invoke, builtin, Sem.run_bind, Sem.run_pure, Result.andThen_ok, List.map_toArray, List.map_cons, List.map_nil, hx, hy, hrun]
  exact h _ hO hG

theorem wpList_copy {w : World} {ops : Array Oper} {rest : List Oper} {o : Oper} {a : Act} {Q : Exit → Act → World → Prop} {E : Lay α} (hgd : Region.wanted o (yielded ops a.tmps) = true) (x y : Operand) (t t' : TypeId)
    (ho : o.op = .call { callee := .builtin .copy, args := #[x, y], argTypes := #[t, t'] })
    (base : Nat) (e : TypeId) (i : TypeInfo) (ht : P.underlying t = some (.slice e)) (hi : P.info? e = some i) (hsize : i.size = E.size)
    (g n cap k dLen dCap : Nat) (l : List α) (hown : E.Own w base e (.slice (some ⟨g, 0, none⟩) n cap) l) (hn : l.length = n) (off : Nat) (hoff : off = k * E.size) (hx : a.eval x = .slice (some ⟨g, off, none⟩) dLen dCap)
    (p : Option Addr) (m c z : Nat) (d : List α) (hy : a.eval y = .slice p m c) (hr : E.RowK w (some g) p m d) (hz : z = min m dLen) (hz0 : 0 < z) (hk : k + z ≤ n)
    (h : ∀ w', E.Own w' base e (.slice (some ⟨g, 0, none⟩) n cap) (l.take k ++ d.take z ++ l.drop (k + z)) → w.grownBy w' (some g) → wpList P ops Q rest (a.put o.dst (.int .i64 z)) w') : wpList P ops Q (o :: rest) a w :=
  wpList_step fun K hK => by
    rw [if_pos hgd]
    exact wp_copy x y t t' ho base e i ht hi hsize g n cap k dLen dCap l hown hn off hoff hx p m c z d hy hr hz hz0 hk fun w' h2 h3 => hK _ _ (h w' h2 h3)
theorem step_copy {w : World} {ops : Array Oper} {o : Oper} {a : Act} {K : Act → World → Prop} {Q : Exit → Act → World → Prop} {X : Prop} {E : Lay α} (hgd : Region.wanted o (yielded ops a.tmps) = true) (x y : Operand) (t t' : TypeId)
    (ho : o.op = .call { callee := .builtin .copy, args := #[x, y], argTypes := #[t, t'] })
    (base : Nat) (e : TypeId) (i : TypeInfo) (ht : P.underlying t = some (.slice e)) (hi : P.info? e = some i) (hsize : i.size = E.size)
    (g n cap k dLen dCap : Nat) (l : List α) (hown : E.Own w base e (.slice (some ⟨g, 0, none⟩) n cap) l) (hn : l.length = n) (off : Nat) (hoff : off = k * E.size) (hx : a.eval x = .slice (some ⟨g, off, none⟩) dLen dCap)
    (p : Option Addr) (m c z : Nat) (d : List α) (hy : a.eval y = .slice p m c) (hr : E.RowK w (some g) p m d) (hz : z = min m dLen) (hz0 : 0 < z) (hk : k + z ≤ n)
    (h : ∀ w', E.Own w' base e (.slice (some ⟨g, 0, none⟩) n cap) (l.take k ++ d.take z ++ l.drop (k + z)) → w.grownBy w' (some g) → K (a.put o.dst (.int .i64 z)) w') :
    if Region.wanted o (yielded ops a.tmps) = true then Oper.wp P o a w K Q else X := by
  rw [if_pos hgd]
  exact wp_copy x y t t' ho base e i ht hi hsize g n cap k dLen dCap l hown hn off hoff hx p m c z d hy hr hz hz0 hk h

/-- 'append(s, make([]T, m)...)', zeros behind a row of one's own -/
theorem run_append_zeros {E : Lay α} (w : World) (t tn ty e : TypeId) (i : TypeInfo) (z : Value) (x0 : α) (kq kn : IntKind) (bytes base : Nat) (ht : P.underlying t = some (.slice e)) (htn : P.underlying tn = some (.int kn)) (hi : P.info? e = some i) (hz : i.zero = some z)
    (hsize : i.size = E.size) (hby : i.bytes = bytes) (hzs : z.cells.size = E.size) (hz1 : ∀ u ∈ z.cells.toList, u.oneCell' = true) (hzR : ∀ w, E.R w z.cells.toList x0)
    (v : Value) (l : List α) (hown : E.Own w base e v l) (m : Nat) (h0 : 0 < m)
    (h63 : l.length + m ≤ maxLen) (hbytes : (l.length + m) * bytes ≤ 140737488355328) (hbase : base ≤ w.heap.size) :
    ∃ v' w', (Builtin.append_ #[t, tn] ty #[v, .int kq m]).run P w = .ok v' w' ∧ E.Own w' base e v' (l ++ List.replicate m x0) ∧ w.grownBy w' v.ownBlock ∧
      (∀ p n c, v = .slice p n c → c < l.length + m → Ext w w' ∧ v'.ownBlock = some w.heap.size) := by
  subst hby
  have hsz := E.pos
  have hzl : ∀ n, (Builtin.zeroCells z.cells n).size = n * E.size := fun n => by rw [size_zeroCells, hzs]
  have hzt : ∀ n, (Builtin.zeroCells z.cells n).toList.length = n * E.size := fun n => by rw [Array.length_toList, hzl]
  have hzA : ∀ (w : World) n, E.All w (Builtin.zeroCells z.cells n).toList (List.replicate n x0) := by
    intro w n
    have key : ∀ n, (Builtin.zeroCells z.cells n).toList = (List.replicate n z.cells.toList).flatten := by
      intro n
      induction n with
      | zero => simp [Builtin.zeroCells]
      | succ n ih =>
        have e1 : (Builtin.zeroCells z.cells (n + 1)).toList = (Builtin.zeroCells z.cells n).toList ++ z.cells.toList := by
          simp only [Builtin.zeroCells, Array.toList_map, Array.toList_range, Nat.add_mul, Nat.one_mul]
          rw [List.range_add, List.map_append, List.map_map]
          congr 1
          apply List.ext_getElem
          · simp
          · intro j h1 h2
            have h3 : j < z.cells.size := by simpa using h1
            simp only [List.getElem_map, List.getElem_range, Function.comp_apply, Nat.mul_add_mod_self_right, Nat.mod_eq_of_lt h3]
            simp [h3]
        rw [e1, ih, List.replicate_succ', List.flatten_append]; simp
    rw [key n]
    induction n with
    | zero => rfl
    | succ n ih => exact ⟨_, _, rfl, hzR w, ih⟩
  have h63' : l.length + m ≤ 9223372036854775807 := by simp only [maxLen] at h63; omega
  have hbm : m * i.bytes ≤ 140737488355328 := Nat.le_trans (Nat.mul_le_mul_right _ (by omega)) hbytes
  obtain ⟨vs, h1, h2⟩ := hown
  have hvl := h1.1
  have grown : ∀ (old : Nat) (row : Option Nat), old < l.length + m → w.grownBy (w.drew.alloc (.cells (vs.toArray ++ Builtin.zeroCells z.cells m ++ Builtin.zeroCells z.cells (grownCap w (l.length + m) old e - (l.length + m))) e)) row ∧
      (w.drew.alloc (.cells (vs.toArray ++ Builtin.zeroCells z.cells m ++ Builtin.zeroCells z.cells (grownCap w (l.length + m) old e - (l.length + m))) e)).ownsRow base e E.size
        (.slice (some ⟨w.heap.size, 0, none⟩) (l.length + m) (grownCap w (l.length + m) old e)) (l.length + m) (vs ++ (Builtin.zeroCells z.cells m).toList) := by
    intro old row ho
    have hge := grownCap_ge w (l.length + m) old e
    have hcm : grownCap w (l.length + m) old e ≤ maxLen := grownCap_le_maxLen w (l.length + m) old e h63
    have hlen : (vs ++ (Builtin.zeroCells z.cells m).toList).length = (l.length + m) * E.size := by rw [List.length_append, hvl, hzt, Nat.add_mul]
    refine ⟨⟨rfl, rfl, rfl, by simp, fun k hk _ => heap_alloc_old w.drew _ hk⟩, hlen, .inr ⟨w.heap.size, _, _, rfl, hbase, heap_alloc_new w.drew _, hge, hcm, ?_, ?_⟩⟩
    · simp only [Array.size_append, List.size_toArray, hzl, hvl, ← Nat.add_mul]
      congr 1
      omega
    · simp only [Array.toList_append]
      rw [← hlen]
      exact List.take_left
  have fin : ∀ (old : Nat) (row : Option Nat), v.ownBlock = row → old < l.length + m → E.Own (w.drew.alloc (.cells (vs.toArray ++ Builtin.zeroCells z.cells m ++ Builtin.zeroCells z.cells (grownCap w (l.length + m) old e - (l.length + m))) e)) base e
        (.slice (some ⟨w.heap.size, 0, none⟩) (l.length + m) (grownCap w (l.length + m) old e)) (l ++ List.replicate m x0) := by
    intro old row hrow ho
    obtain ⟨hg, ho2⟩ := grown old row ho
    refine ⟨vs ++ (Builtin.zeroCells z.cells m).toList, by rw [List.length_append, List.length_replicate]; exact ho2, ?_⟩
    have := (h2.grown (row1 := some w.heap.size) ((grown old v.ownBlock ho).1) (.inr rfl))
    intro w2 hw2
    exact (this w2 hw2).append (hzA w2 m)
  rcases h1.2 with ⟨rfl, hl0⟩ | ⟨g, cap, cur, rfl, hbg, hg, hnc, hcm, hcs, htake⟩
  · have hx : vs = [] := List.eq_nil_of_length_eq_zero (by rw [hvl, hl0]; simp)
    subst hx
    have hr := Lib.run_append_grow_zeros (P := P) w t tn ty e i z kq kn ht htn hi hz none 0 0 [] (run_firstCells_none w.drew i.size 0 0 0) m h0 (by omega) (by omega) (by omega) (by omega) (growslice_fits (by omega) (by rw [hl0] at hbytes; simpa using hbytes))
    have hf := fin 0 none rfl (by omega)
    have hg := (grown 0 (Value.ownBlock (.slice none 0 0)) (by omega)).1
    rw [hl0] at hf hg
    simp only [Nat.zero_add] at hr hf hg
    exact ⟨_, _, hr, hf, hg, fun p n c e hc => ⟨Ext.trans (Ext.drew (Ext.refl _)) (Ext.alloc _ _), rfl⟩⟩
  · by_cases hroom : l.length + m ≤ cap
    · have hfit : l.length * E.size + (Builtin.zeroCells z.cells m).toList.length ≤ cur.size := by rw [hzt, hcs, ← Nat.add_mul]; exact Nat.mul_le_mul_right _ hroom
      have hone : ∀ u ∈ (Builtin.zeroCells z.cells m).toList, u.oneCell' = true := (hzA w m).one
      have hst := run_storeCells_at P g (l.length * E.size) e (Builtin.zeroCells z.cells m).toList 0 cur w hg (by simpa using hfit) hone
      simp only [Nat.add_zero] at hst
      have hw : IntKind.i64.wrap (m : Int) = m := by rw [IntKind.wrap_i64]; omega
      have hneg : ¬ ((m : Int) < 0) := by omega
      have h48i : ¬ (281474976710656 < (m : Int) * (i.bytes : Int)) := by rw [← Int.natCast_mul]; omega
      have hns : ¬ (m * E.size = 0) := Nat.mul_ne_zero (by omega) (by omega)
      have hm0 : ¬ m = 0 := by omega
      have hE0 : ¬ E.size = 0 := by omega
      have hrun : (Builtin.append_ #[t, tn] ty #[.slice (some ⟨g, 0, none⟩) l.length cap, .int kq m]).run P w = .ok (.slice (some ⟨g, 0, none⟩) (l.length + m) cap) (w.setRow g (cur.toList.take (l.length * E.size) ++ (Builtin.zeroCells z.cells m).toList ++ cur.toList.drop (l.length * E.size + (Builtin.zeroCells z.cells m).toList.length)).toArray) := by
        simp [Builtin.append_, run_underlying ht, run_underlying htn, sizeOf, typeInfo, zeroValue, hi, hz, asInt, asIntOf, hw, hneg, h48i, hsize, hroom, addN]
        rw [if_neg hns]
        simp only [Array.length_toList, List.append_assoc] at hst
        rw [hst]
        simp
      have hlen : (vs ++ (Builtin.zeroCells z.cells m).toList).length = (l.length + m) * E.size := by rw [List.length_append, hvl, hzt, Nat.add_mul]
      have hgrow : w.grownBy (w.setRow g (cur.toList.take (l.length * E.size) ++ (Builtin.zeroCells z.cells m).toList ++ cur.toList.drop (l.length * E.size + (Builtin.zeroCells z.cells m).toList.length)).toArray) (some g) :=
        ⟨rfl, rfl, rfl, by simp, fun j _ hj => setRow_other w g j _ (fun e => hj (by rw [e]))⟩
      refine ⟨_, _, hrun, ⟨vs ++ (Builtin.zeroCells z.cells m).toList, ?_, ?_⟩, hgrow, fun p n c e hc => by cases e; omega⟩
      · rw [List.length_append, List.length_replicate]
        refine ⟨hlen, .inr ⟨g, cap, _, rfl, hbg, setRow_heap w g cur _ e _ hg, hroom, hcm, ?_, ?_⟩⟩
        · simp only [List.size_toArray, List.length_append, List.length_take, List.length_drop, Array.length_toList, hcs] at hfit ⊢
          omega
        · rw [htake, ← hlen]
          exact List.take_left
      · intro w2 hw2
        exact (h2 w2 (grown_trans hgrow hw2)).append (hzA w2 m)
    · have hold := run_firstCells_some (P := P) w.drew i.size l.length ⟨g, 0, none⟩ l.length cap vs (by rw [hvl, hsize]) (fun j u hu => by have := h1.cells (g := g) rfl j u hu; simpa using this)
      have hr := Lib.run_append_grow_zeros (P := P) w t tn ty e i z kq kn ht htn hi hz (some ⟨g, 0, none⟩) l.length cap vs hold m h0 (by omega) (by omega) (by omega) (by omega) (growslice_fits (by omega) hbytes)
      exact ⟨_, _, hr, fin cap _ rfl (by omega), (grown cap _ (by omega)).1, fun p n c e hc => ⟨Ext.trans (Ext.drew (Ext.refl _)) (Ext.alloc _ _), rfl⟩⟩

theorem wpList_append_zeros {w : World} {ops : Array Oper} {rest : List Oper} {o : Oper} {a : Act} {Q : Exit → Act → World → Prop} {E : Lay α} (hgd : Region.wanted o (yielded ops a.tmps) = true) (s x : Operand) (t tn : TypeId)
    (ho : o.op = .call { callee := .builtin .append, args := #[s, x], argTypes := #[t, tn] })
    (base : Nat) (e : TypeId) (i : TypeInfo) (z : Value) (x0 : α) (kq kn : IntKind) (bytes : Nat) (ht : P.underlying t = some (.slice e)) (htn : P.underlying tn = some (.int kn)) (hi : P.info? e = some i) (hz : i.zero = some z)
    (hsize : i.size = E.size) (hby : i.bytes = bytes) (hzs : z.cells.size = E.size) (hz1 : ∀ u ∈ z.cells.toList, u.oneCell' = true) (hzR : ∀ w, E.R w z.cells.toList x0)
    (v : Value) (l : List α) (hs : a.eval s = v) (hown : E.Own w base e v l) (m : Nat) (hx : a.eval x = .int kq m) (h0 : 0 < m)
    (h63 : l.length + m ≤ maxLen) (hbytes : (l.length + m) * bytes ≤ 140737488355328) (hbase : base ≤ w.heap.size)
    (h : ∀ v' w', E.Own w' base e v' (l ++ List.replicate m x0) → w.grownBy w' v.ownBlock → (∀ p n c, v = .slice p n c → c < l.length + m → Ext w w' ∧ v'.ownBlock = some w.heap.size) → wpList P ops Q rest (a.put o.dst v') w') : wpList P ops Q (o :: rest) a w :=
  wpList_step fun K hK => by
    rw [if_pos hgd]
    obtain ⟨v', w', hrun, h2, h3, h4⟩ := run_append_zeros (E := E) (P := P) w t tn o.type e i z x0 kq kn bytes base ht htn hi hz hsize hby hzs hz1 hzR v l hown m h0 h63 hbytes hbase
    unfold Oper.wp execOp
    simp only [ho, resolve, invoke, builtin, Sem.run_bind, Sem.run_pure, Result.andThen_ok, List.map_toArray, List.map_cons, List.map_nil, hs, hx, hrun]
    exact hK _ _ (h v' w' h2 h3 h4)
end Lay
end Go.Proofs.Ytifbmkcfgpfefaa
