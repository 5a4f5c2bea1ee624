/- An element put into a row of one's own, in place. -/
import Derived.Test.YtifbmkcfgpfefaaZeros
import Derived.Test.YtifbmkcfgpfefaaRepS
namespace Go.Proofs.Ytifbmkcfgpfefaa
open Go.RowKit
set_option linter.unusedVariables false
namespace Lay
variable {α : Type} {P : Program}

/-- the row's block -/
theorem Own.block {E : Lay α} {w : World} {base g n cap : Nat} {e : TypeId} {l : List α} (h : E.Own w base e (.slice (some ⟨g, 0, none⟩) n cap) l) (hn : l.length = n) :
    ∃ cur vs, w.heap[g]? = some (.cells cur e (0, 0)) ∧ cur.size = cap * E.size ∧ cur.toList.take (n * E.size) = vs ∧ E.AllK w (some g) vs l ∧ base ≤ g ∧ n ≤ cap ∧ cap ≤ maxLen ∧ vs.length = n * E.size := by
  subst hn
  obtain ⟨vs, h1, h2⟩ := h
  rcases h1.2 with ⟨h', _⟩ | ⟨g', cap', cur, h', hb, hg, hnc, hcm, hsz, htake⟩
  · simp at h'
  · simp only [Value.slice.injEq, Option.some.injEq, Addr.mk.injEq, and_true, true_and] at h'
    obtain ⟨rfl, rfl⟩ := h'
    exact ⟨cur, vs, hg, hsz, htake, h2, hb, hnc, hcm, h1.1⟩
/-- a shorter one -/
theorem Own.short {E : Lay α} {w : World} {base g n cap : Nat} {e : TypeId} {l : List α} (h : E.Own w base e (.slice (some ⟨g, 0, none⟩) n cap) l) (hn : l.length = n) (k : Nat) (hk : k ≤ n) :
    E.Own w base e (.slice (some ⟨g, 0, none⟩) k cap) (l.take k) := by
  obtain ⟨cur, vs, hg, hsz, htake, h2, hb, hnc, hcm, hvl⟩ := h.block hn
  have hkn : k * E.size ≤ n * E.size := Nat.mul_le_mul_right _ hk
  have hlk : (l.take k).length = k := by rw [List.length_take]; omega
  refine ⟨vs.take (k * E.size), ⟨by rw [List.length_take, hlk, hvl]; omega, .inr ⟨g, cap, cur, by rw [hlk], hb, hg, by omega, hcm, hsz, ?_⟩⟩, fun w' hg' => (h2 w' hg').take k⟩
  rw [hlk, ← htake, List.take_take, Nat.min_eq_left hkn]
def insA1 (cur : Array Value) (n i s : Nat) : Array Value := (cur.toList.take ((i + 1) * s) ++ (cur.toList.drop (i * s)).take ((n - i) * s) ++ cur.toList.drop ((i + 1) * s + ((cur.toList.drop (i * s)).take ((n - i) * s)).length)).toArray
def insA2 (cur : Array Value) (n i s : Nat) (cx : List Value) : Array Value := ((insA1 cur n i s).toList.take (i * s) ++ cx ++ (insA1 cur n i s).toList.drop (i * s + cx.length)).toArray
theorem insA1_size (cur : Array Value) (n i s cap : Nat) (hs : cur.size = cap * s) (hi : i < n) (hn : n + 1 ≤ cap) : (insA1 cur n i s).size = cap * s := by
  have h1 : (i + 1) * s + (n - i) * s = (n + 1) * s := by rw [← Nat.add_mul]; congr 1; omega
  have h2 : (n + 1) * s ≤ cap * s := Nat.mul_le_mul_right _ hn
  have h3 : i * s + (n - i) * s = n * s := by rw [← Nat.add_mul]; congr 1; omega
  have h4 : n * s ≤ (n + 1) * s := Nat.mul_le_mul_right _ (by omega)
  unfold insA1
  simp only [List.size_toArray, List.length_append, List.length_take, List.length_drop, Array.length_toList, hs]
  omega
theorem insA2_size (cur : Array Value) (n i s cap : Nat) (cx : List Value) (hs : cur.size = cap * s) (hi : i < n) (hn : n + 1 ≤ cap) (hc : cx.length = s) : (insA2 cur n i s cx).size = cap * s := by
  have h1 := insA1_size cur n i s cap hs hi hn
  have h2 : (i + 1) * s ≤ cap * s := Nat.mul_le_mul_right _ (by omega)
  rw [Nat.add_mul, Nat.one_mul] at h2
  unfold insA2
  simp only [List.size_toArray, List.length_append, List.length_take, List.length_drop, Array.length_toList, h1, hc]
  omega
theorem insA2_take (cur : Array Value) (n i s cap : Nat) (cx : List Value) (hs : cur.size = cap * s) (hi : i < n) (hn : n + 1 ≤ cap) (hc : cx.length = s) :
    (insA2 cur n i s cx).toList.take ((n + 1) * s) = (cur.toList.take (n * s)).take (i * s) ++ cx ++ (cur.toList.take (n * s)).drop (i * s) := by
  have h1 : (i + 1) * s + (n - i) * s = (n + 1) * s := by rw [← Nat.add_mul]; congr 1; omega
  have h2 : (n + 1) * s ≤ cap * s := Nat.mul_le_mul_right _ hn
  have h3 : i * s + (n - i) * s = n * s := by rw [← Nat.add_mul]; congr 1; omega
  have h4 : n * s ≤ (n + 1) * s := Nat.mul_le_mul_right _ (by omega)
  have h5 : (i + 1) * s = i * s + s := by rw [Nat.add_mul, Nat.one_mul]
  have hcl : cur.toList.length = cap * s := by rw [Array.length_toList, hs]
  unfold insA2 insA1
  generalize cur.toList = C at hcl ⊢
  simp only
  have e1 : (C.take ((i + 1) * s)).length = i * s + s := by rw [List.length_take]; omega
  have e2 : ((C.drop (i * s)).take ((n - i) * s)).length = (n - i) * s := by rw [List.length_take, List.length_drop]; omega
  have e3 : ((C.take ((i + 1) * s) ++ (C.drop (i * s)).take ((n - i) * s) ++ C.drop ((i + 1) * s + ((C.drop (i * s)).take ((n - i) * s)).length)).take (i * s)) = C.take (i * s) := by
    rw [List.append_assoc, List.take_append_of_le_length (by omega), List.take_take, Nat.min_eq_left (by omega)]
  have e4 : ((C.take ((i + 1) * s) ++ (C.drop (i * s)).take ((n - i) * s) ++ C.drop ((i + 1) * s + ((C.drop (i * s)).take ((n - i) * s)).length)).drop (i * s + cx.length)) = (C.drop (i * s)).take ((n - i) * s) ++ C.drop ((i + 1) * s + ((C.drop (i * s)).take ((n - i) * s)).length) := by
    rw [List.append_assoc, List.drop_left' (by omega)]
  rw [e3, e4]
  have e5 : (C.take (n * s)).take (i * s) = C.take (i * s) := by rw [List.take_take, Nat.min_eq_left (by omega)]
  have e6 : (C.take (n * s)).drop (i * s) = (C.drop (i * s)).take ((n - i) * s) := by rw [List.drop_take]; congr 1; omega
  rw [e5, e6, ← List.append_assoc]
  apply List.take_left'
  rw [List.length_append, List.length_append, e2, List.length_take, hc]
  omega
theorem Own.ins {E : Lay α} {w W2 : World} {base g n cap i : Nat} {e : TypeId} {l : List α} {x : α} (h : E.Own w base e (.slice (some ⟨g, 0, none⟩) n cap) l) (hn : l.length = n) {cur : Array Value} (hcur : w.heap[g]? = some (.cells cur e (0, 0)))
    (hi : i < n) (hcap : n + 1 ≤ cap) {cx : List Value} (hcx : E.AllK w (some g) cx [x]) (h2 : W2.heap[g]? = some (.cells (insA2 cur n i E.size cx) e (0, 0))) (hgr : w.grownBy W2 (some g)) :
    E.Own W2 base e (.slice (some ⟨g, 0, none⟩) (n + 1) cap) (l.take i ++ x :: l.drop i) := by
  obtain ⟨cur', vs, hg, hsz, htake, hA, hb, hnc, hcm, hvl⟩ := h.block hn
  rw [hcur] at hg
  cases hg
  have hcl := hcx.all.length
  have hcl' : cx.length = E.size := by simpa using hcl
  have hln : (l.take i ++ x :: l.drop i).length = n + 1 := by simp; omega
  have ht := insA2_take cur n i E.size cap cx hsz hi hcap hcl'
  rw [htake] at ht
  have hk : i * E.size ≤ n * E.size := Nat.mul_le_mul_right _ (by omega)
  refine ⟨vs.take (i * E.size) ++ cx ++ vs.drop (i * E.size), ⟨?_, .inr ⟨g, cap, _, by rw [hln], hb, h2, by rw [hln]; exact hcap, hcm, insA2_size cur n i E.size cap cx hsz hi hcap hcl', by rw [hln]; exact ht⟩⟩, ?_⟩
  · rw [hln]
    simp only [List.length_append, List.length_take, List.length_drop, hvl, hcl', Nat.add_mul, Nat.one_mul]
    omega
  · intro w' hg'
    have hgg := grown_trans hgr hg'
    have a1 := (hA w' hgg).take i
    have a2 := hcx w' hgg
    have a3 := (hA w' hgg).drop i
    have := (a1.append a2).append a3
    simpa using this
/-- the two copies -/
theorem run_shift {E : Lay α} (w : World) (t ty e : TypeId) (i0 : TypeInfo) (hu : P.underlying t = some (.slice e)) (hi0 : P.info? e = some i0) (hsz : i0.size = E.size) {base g n cap i : Nat} {l : List α}
    (h : E.Own w base e (.slice (some ⟨g, 0, none⟩) n cap) l) (hn : l.length = n) (hi : i < n) (hcap : n + 1 ≤ cap) {cur : Array Value} (hcur : w.heap[g]? = some (.cells cur e (0, 0))) (W : World) (hcur2 : W.heap[g]? = some (.cells cur e (0, 0))) (dc sc : Nat) :
    (Builtin.copy_ #[t, t] ty #[.slice (some ⟨g, (i + 1) * E.size, none⟩) (n + 1 - (i + 1)) dc, .slice (some ⟨g, i * E.size, none⟩) (n + 1 - i) sc]).run P W = .ok (goInt ((n - i : Nat) : Int)) (W.setRow g (insA1 cur n i E.size)) := by
  obtain ⟨cur', vs, hg, hs, htake, hA, hb, hnc, hcm, hvl⟩ := h.block hn
  rw [hcur] at hg
  cases hg
  have h1 : (i + 1) * E.size + (n - i) * E.size = (n + 1) * E.size := by rw [← Nat.add_mul]; congr 1; omega
  have h2 : (n + 1) * E.size ≤ cap * E.size := Nat.mul_le_mul_right _ hcap
  have h3 : i * E.size + (n - i) * E.size = n * E.size := by rw [← Nat.add_mul]; congr 1; omega
  have h4 : n * E.size ≤ (n + 1) * E.size := Nat.mul_le_mul_right _ (by omega)
  have hcl : cur.toList.length = cap * E.size := by rw [Array.length_toList, hs]
  have hl : ((cur.toList.drop (i * E.size)).take ((n - i) * E.size)).length = (n - i) * i0.size := by rw [List.length_take, List.length_drop, hcl, hsz]; omega
  have he : (cur.toList.drop (i * E.size)).take ((n - i) * E.size) = vs.drop (i * E.size) := by rw [← htake, List.drop_take]; congr 1; omega
  refine run_copy_row (P := P) W t t ty e i0 hu hi0 g ((i + 1) * E.size) (n + 1 - (i + 1)) dc ⟨g, i * E.size, none⟩ (n + 1 - i) sc (n - i) _ ?_ hl ?_ cur hcur2 ?_ ?_
  · show n - i = min (n + 1 - i) (n + 1 - (i + 1)); omega
  · intro j u hj
    rw [addN, cell_of_row _ _ _ _ _ _ hcur2]
    rw [List.getElem?_take] at hj
    split at hj
    · rw [List.getElem?_drop] at hj; simpa using hj
    · cases hj
  · rw [hl, hsz, hs]; omega
  · intro u hu
    rw [he] at hu
    exact hA.all.one u (List.mem_of_mem_drop hu)
theorem run_put1 {E : Lay α} (w W1 : World) (t ty e : TypeId) (i0 : TypeInfo) (hu : P.underlying t = some (.slice e)) (hi0 : P.info? e = some i0) (hsz : i0.size = E.size) {base g n cap i : Nat} {l : List α} {x : α}
    (h : E.Own w base e (.slice (some ⟨g, 0, none⟩) n cap) l) (hn : l.length = n) (hi : i < n) (hcap : n + 1 ≤ cap) {cur : Array Value} (hcur : w.heap[g]? = some (.cells cur e (0, 0))) (h1 : W1.heap[g]? = some (.cells (insA1 cur n i E.size) e (0, 0)))
    {cx : List Value} (hcx : E.AllK w (some g) cx [x]) (vb : Nat) (hv : ∀ j u, cx[j]? = some u → W1.cell? ⟨vb, j, none⟩ = some u) (dc sc : Nat) :
    (Builtin.copy_ #[t, t] ty #[.slice (some ⟨g, i * E.size, none⟩) (n + 1 - i) dc, .slice (some ⟨vb, 0, none⟩) 1 sc]).run P W1 = .ok (goInt 1) (W1.setRow g (insA2 cur n i E.size cx)) := by
  obtain ⟨cur', vs, hg, hs, htake, hA, hb, hnc, hcm, hvl⟩ := h.block hn
  rw [hcur] at hg
  cases hg
  have hcl := hcx.all.length
  have hcl' : cx.length = E.size := by simpa using hcl
  have h2 : (i + 1) * E.size ≤ cap * E.size := Nat.mul_le_mul_right _ (by omega)
  rw [Nat.add_mul, Nat.one_mul] at h2
  have hs1 := insA1_size cur n i E.size cap hs hi hcap
  refine run_copy_row (P := P) W1 t t ty e i0 hu hi0 g (i * E.size) (n + 1 - i) dc ⟨vb, 0, none⟩ 1 sc 1 cx ?_ (by rw [hcl', hsz]; omega) ?_ _ h1 (by rw [hs1, hcl']; omega) (fun v hv => hcx.all.one v hv)
  · show 1 = min 1 (n + 1 - i); omega
  · intro j u hj
    rw [addN, Nat.zero_add]
    exact hv j u hj
theorem run_copy_own {E : Lay α} (w : World) (t t' ty e : TypeId) (i : TypeInfo) (ht : P.underlying t = some (.slice e)) (hi : P.info? e = some i) (hsize : i.size = E.size) (base : Nat)
    (g n cap k dLen dCap : Nat) (l : List α) (hown : E.Own w base e (.slice (some ⟨g, 0, none⟩) n cap) l) (hn : l.length = n) (off : Nat) (hoff : off = k * E.size)
    (p : Option Addr) (m c z : Nat) (d : List α) (hr : E.RowK w (some g) p m d) (hz : z = min m dLen) (hz0 : 0 < z) (hk : k + z ≤ n) :
    ∃ w', (Builtin.copy_ #[t, t'] ty #[.slice (some ⟨g, off, none⟩) dLen dCap, .slice p m c]).run P w = .ok (goInt z) w' ∧ E.Own w' base e (.slice (some ⟨g, 0, none⟩) n cap) (l.take k ++ d.take z ++ l.drop (k + z)) ∧ w.grownBy w' (some g) := by
  subst hoff
  obtain ⟨h1, h2, vs, hall, hc⟩ := hr
  obtain ⟨b, off, rfl, hcc⟩ := hc (by omega)
  have hzd : (d.take z).length = z := by rw [List.length_take]; omega
  have hcs : E.AllK w (some g) (vs.take (z * E.size)) (d.take z) := fun w2 hg => (hall w2 hg).take z
  obtain ⟨cur, hg, hfit, hO, hG⟩ := hown.over hn k z (d.take z) (vs.take (z * E.size)) hk hzd hcs
  have hcl := hcs.all.length
  have hrun := run_copy_row (P := P) w t t' ty e i ht hi g (k * E.size) dLen dCap ⟨b, off, none⟩ m c z (vs.take (z * E.size)) hz (by rw [hcl, hzd, hsize])
    (fun j u hj => by rw [addN]; refine hcc j u ?_; rw [List.getElem?_take] at hj; split at hj; exact hj; cases hj) cur hg hfit (fun v hv => hcs.all.one v hv)
  exact ⟨_, hrun, hO, hG⟩
/-- the row, a piece of it laid over, however it came to be -/
theorem Own.over2 {E : Lay α} {w W2 : World} {base g n cap : Nat} {e : TypeId} {l : List α} (h : E.Own w base e (.slice (some ⟨g, 0, none⟩) n cap) l) (hn : l.length = n) (k m : Nat) (d : List α) (cs : List Value)
    (hk : k + m ≤ n) (hd : d.length = m) (hcs : E.AllK w (some g) cs d) {cur : Array Value} (hcur : w.heap[g]? = some (.cells cur e (0, 0)))
    (h2 : W2.heap[g]? = some (.cells (cur.toList.take (k * E.size) ++ cs ++ cur.toList.drop (k * E.size + cs.length)).toArray e (0, 0))) (hgr : w.grownBy W2 (some g)) :
    E.Own W2 base e (.slice (some ⟨g, 0, none⟩) n cap) (l.take k ++ d ++ l.drop (k + m)) := by
  obtain ⟨cur', hg, hfit, hO, hG⟩ := h.over hn k m d cs hk hd hcs
  rw [hcur] at hg
  cases hg
  have hcl := hcs.all.length
  have hln : (l.take k ++ d ++ l.drop (k + m)).length = n := by simp; omega
  obtain ⟨vs, h1, h3⟩ := hO
  rw [hln] at h1
  obtain ⟨vs0, hv1, hv2⟩ := h
  have hvl := hv1.1
  subst hn
  subst hd
  rcases hv1.2 with ⟨h', _⟩ | ⟨g', cap', cur', h', hb, hg, hnc, hcm, hsz, htake⟩
  · simp at h'
  · simp only [Value.slice.injEq, Option.some.injEq, Addr.mk.injEq, and_true, true_and] at h'
    obtain ⟨rfl, rfl⟩ := h'
    rw [hcur] at hg
    cases hg
    rcases h1.2 with ⟨h', _⟩ | ⟨g', cap', cur', h', hb', hg', hnc', hcm', hsz', htake'⟩
    · simp at h'
    · simp only [Value.slice.injEq, Option.some.injEq, Addr.mk.injEq, and_true, true_and] at h'
      obtain ⟨rfl, rfl⟩ := h'
      rw [setRow_heap w g cur _ e _ hcur] at hg'
      simp only [Option.some.injEq, Obj.cells.injEq] at hg'
      obtain ⟨rfl, _⟩ := hg'
      have hle : (k + d.length) * E.size ≤ l.length * E.size := Nat.mul_le_mul_right _ hk
      have hle2 : l.length * E.size ≤ cap * E.size := Nat.mul_le_mul_right _ hnc
      rw [Nat.add_mul] at hle
      have hvs : vs = vs0.take (k * E.size) ++ cs ++ vs0.drop ((k + d.length) * E.size) := by
        rw [← htake', ← htake]
        rw [show (k + d.length) * E.size = k * E.size + d.length * E.size from Nat.add_mul _ _ _, ← hcl]
        have hkl : (List.take (k * E.size) cur.toList).length = k * E.size := by rw [List.length_take, Array.length_toList, hsz]; omega
        rw [List.take_append, List.take_of_length_le (by rw [List.length_append, hkl]; omega), List.length_append, hkl, List.drop_take, List.take_take]
        congr 1
        · rw [Nat.min_eq_left (by omega)]
      refine ⟨vs, ⟨by rw [hln]; exact h1.1, .inr ⟨g, cap, _, by rw [hln], hb, h2, by rw [hln]; exact hnc, hcm, hsz', by rw [hln]; exact htake'⟩⟩, fun w' hg' => ?_⟩
      have hgg := grown_trans hgr hg'
      rw [hvs]
      exact (((hv2 w' hgg).take k).append (hcs w' hgg)).append ((hv2 w' hgg).drop (k + d.length))
/-- a copy whose run is known -/
theorem wpList_copy_run {w : World} {ops : Array Oper} {rest : List Oper} {o : Oper} {a : Act} {Q : Exit → Act → World → Prop} (hgd : Region.wanted o (yielded ops a.tmps) = true) (x y : Operand) (t t' : TypeId)
    (ho : o.op = .call { callee := .builtin .copy, args := #[x, y], argTypes := #[t, t'] }) (u1 u2 : Value) (hx : a.eval x = u1) (hy : a.eval y = u2) {v' : Value} {w' : World}
    (hr : (Builtin.copy_ #[t, t'] o.type #[u1, u2]).run P w = .ok v' w') (h : wpList P ops Q rest (a.put o.dst v') w') : wpList P ops Q (o :: rest) a w :=
  wpList_step fun K hK => by
    rw [if_pos hgd]
    unfold Oper.wp execOp
    simp only [ho, resolve, invoke, builtin, Sem.run_bind, Sem.run_pure, Result.andThen_ok, List.map_toArray, List.map_cons, List.map_nil, hx, hy, hr]
    exact hK _ _ h
theorem step_copy_run {w : World} {ops : Array Oper} {o : Oper} {a : Act} {K : Act → World → Prop} {Q : Exit → Act → World → Prop} {X : Prop} (hgd : Region.wanted o (yielded ops a.tmps) = true) (x y : Operand) (t t' : TypeId)
    (ho : o.op = .call { callee := .builtin .copy, args := #[x, y], argTypes := #[t, t'] }) (u1 u2 : Value) (hx : a.eval x = u1) (hy : a.eval y = u2) {v' : Value} {w' : World}
    (hr : (Builtin.copy_ #[t, t'] o.type #[u1, u2]).run P w = .ok v' w') (h : K (a.put o.dst v') w') : if Region.wanted o (yielded ops a.tmps) = true then Oper.wp P o a w K Q else X := by
  rw [if_pos hgd]
  unfold Oper.wp execOp
  simp only [ho, resolve, invoke, builtin, Sem.run_bind, Sem.run_pure, Result.andThen_ok, List.map_toArray, List.map_cons, List.map_nil, hx, hy, hr]
  exact h
end Lay
end Go.Proofs.Ytifbmkcfgpfefaa
