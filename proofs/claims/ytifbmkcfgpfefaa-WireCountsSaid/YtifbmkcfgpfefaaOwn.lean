/- Slices that the call itself makes: ints. -/
import Derived.Test.YtifbmkcfgpfefaaBase
import Derived.Deep.AppendLies
import Derived.Deep.RegionHeld3
import Derived.Deep.RegionWith
import Derived.Deep.QuietTactic
import Derived.BigQuiet
import Derived.StillTailTactics
namespace Go.Proofs.Ytifbmkcfgpfefaa
open Go.RowKit
set_option linter.unusedVariables false

theorem add0 (b j : Nat) : (⟨b, 0, none⟩ : Addr).add j = ⟨b, 0 + j, none⟩ := by unfold Addr.add; split <;> simp_all

/-- what the call owns reads as a row -/
theorem rowI_of_own {k : IntKind} {w : World} {base : Nat} {e : TypeId} {v : Value} {n : Nat} {zs : List Int} (h : w.ownsRow base e 1 v n (zs.map (Value.int k))) (hn : n ≤ 9223372036854775807) :
    ∃ p c, v = .slice p n c ∧ RowI k w p n zs := by
  have hl : zs.length = n := by simpa using h.1
  by_cases h0 : 0 < n
  · obtain ⟨g, cap, rfl, _, _⟩ := h.form h0
    refine ⟨_, _, rfl, hl, hn, fun _ => ⟨g, 0, rfl, fun j hj => ?_⟩⟩
    have := h.cells (g := g) rfl j (.int k (at0 zs j)) (by
      simp only [List.getElem?_map, at0, List.getD_eq_getElem?_getD]
      rw [List.getElem?_eq_getElem (by omega)]; rfl)
    rw [add0] at this
    exact this
  · rcases h.2 with ⟨rfl, _⟩ | ⟨g, cap, cur, rfl, _⟩
    · exact ⟨_, _, by rw [show n = 0 by omega], hl, hn, fun k => absurd k h0⟩
    · exact ⟨_, _, rfl, hl, hn, fun k => absurd k h0⟩

theorem own_drewN {w : World} {base : Nat} {e : TypeId} {size : Nat} {v : Value} {n : Nat} {xs : List Value} (h : w.ownsRow base e size v n xs) (q : Nat) : (w.drewN q).ownsRow base e size v n xs := h
theorem at0_append_last (l : List Int) (z : Int) : at0 (l ++ [z]) l.length = z := by simp [at0]
theorem at0_append_old (l : List Int) (z : Int) (j : Nat) (h : j < l.length) : at0 (l ++ [z]) j = at0 l j := by simp [at0, List.getElem?_append, h]

theorem below_drewN {B : Nat} {a w : World} (h : Below B a w) (q : Nat) : Below B a (w.drewN q) := ⟨h.os, h.tape, h.output, h.size, h.block⟩
/-- an own block lies from B on, whatever was appended -/
theorem below_grown {B : Nat} {a w w' : World} {v : Value} {e : TypeId} {size n : Nat} {xs : List Value} (h : Below B a w) (hB : B ≤ a.heap.size) (hg : w.grownBy w' v.ownBlock) (hown : w.ownsRow B e size v n xs) : Below B a w' :=
  h.grown hg (Nat.le_trans hB h.size) fun k hk => (hown.lt k hk).1

/-- a callee that leaves the world alone, inside a region that only reads: the first such region, and a later one -/
theorem quietA {P : Program} {f : FuncId} {args : Array Value} {w : World} {n : Nat} {v : Value}
    (c : Calls P f args (w.drewN n) fun e w' => e = .returned v ∧ w.drewN n = w') : Calls P f args (w.drewN n) fun e w' => e = .returned v ∧ ∃ m, w' = w.drewN m :=
  c.mono fun _ _ h => ⟨h.1, n, h.2.symm⟩
theorem quietB {P : Program} {f : FuncId} {args : Array Value} {w : World} {k n : Nat} {v : Value}
    (c : Calls P f args (w.drewN (k + n)) fun e w' => e = .returned v ∧ w.drewN (k + n) = w') : Calls P f args (w.drewN (k + n)) fun e w' => e = .returned v ∧ ∃ m, w' = w.drewN (k + m) :=
  c.mono fun _ _ h => ⟨h.1, n, h.2.symm⟩

theorem ext_setRow {w a : World} (h : Ext w a) {g : Nat} (hg : w.heap.size ≤ g) (cs : Array Value) : Ext w (a.setRow g cs) :=
  Below.trans h ⟨rfl, rfl, rfl, by simp [World.setRow], fun k hk => setRow_other a g k cs (by omega)⟩

/-- a literal's slice is the call's own -/
theorem own_lit (w : World) (cs : Array Value) (e : TypeId) (base n size : Nat) (hb : base ≤ w.heap.size) (h : cs.size = n * size) (hm : n ≤ maxLen) :
    (w.alloc (.cells cs e)).ownsRow base e size (.slice (some ⟨w.heap.size, 0, none⟩) n n) n cs.toList :=
  ⟨by simp [h], .inr ⟨_, n, cs, rfl, hb, heap_alloc_new w _, Nat.le_refl _, hm, h, List.take_of_length_le (by simp [h])⟩⟩

/-- a row of m places of which k are filled -/
def fillK (m k : Nat) (f : Nat → Value) (z : Value) : List Value := (List.range m).map fun i => if i < k then f i else z
theorem fillK_length (m k : Nat) (f : Nat → Value) (z : Value) : (fillK m k f z).length = m := by simp [fillK]
theorem fillK_get (m k : Nat) (f : Nat → Value) (z : Value) (i : Nat) (h : i < m) : (fillK m k f z)[i]? = some (if i < k then f i else z) := by simp [fillK, h]
theorem fillK_zero (m : Nat) (f : Nat → Value) (z : Value) : fillK m 0 f z = List.replicate m z := by
  apply List.ext_getElem?
  intro i
  by_cases h : i < m
  · rw [fillK_get _ _ _ _ _ h]; simp [h]
  · rw [List.getElem?_eq_none (by rw [fillK_length]; omega), List.getElem?_eq_none (by simp; omega)]
theorem fillK_set (m k : Nat) (f : Nat → Value) (z : Value) (h : k < m) : (fillK m k f z).set k (f k) = fillK m (k + 1) f z := by
  apply List.ext_getElem?
  intro i
  rw [List.getElem?_set]
  by_cases hi : i < m
  · rw [fillK_get _ _ _ _ _ hi, fillK_get _ _ _ _ _ hi, fillK_length]
    by_cases e : k = i
    · subst e; simp [h]
    · rw [if_neg e]
      congr 1
      by_cases c : i < k
      · rw [if_pos c, if_pos (by omega)]
      · rw [if_neg c, if_neg (by omega)]
  · rw [if_neg (by omega), List.getElem?_eq_none (by rw [fillK_length]; omega), List.getElem?_eq_none (by rw [fillK_length]; omega)]
theorem fillK_all (m : Nat) (f : Nat → Value) (z : Value) : fillK m m f z = (List.range m).map f := by
  unfold fillK
  exact List.map_congr_left fun i hi => if_pos (List.mem_range.1 hi)

theorem own_ext {w w' : World} {base : Nat} {e : TypeId} {size : Nat} {v : Value} {n : Nat} {xs : List Value} (h : w.ownsRow base e size v n xs) (hx : Ext w w') : w'.ownsRow base e size v n xs := by
  refine ⟨h.1, ?_⟩
  rcases h.2 with hn | ⟨g, cap, cur, rfl, hb, hg, rest⟩
  · exact .inl hn
  · exact .inr ⟨g, cap, cur, rfl, hb, by rw [hx.block g (Array.getElem?_eq_some_iff.1 hg).1]; exact hg, rest⟩

theorem ret_slice {b o n c b' o' n' c' : Nat} (hb : b = b') (ho : o = o') (hn : n = n') (hc : c = c') : Ending.returned (.slice (some ⟨b, o, none⟩) n c) = .returned (.slice (some ⟨b', o', none⟩) n' c') := by subst hb ho hn hc; rfl

/-- a piece of bytes -/
theorem RowB.sub {w : World} {b off n : Nat} {l : List Nat} (h : RowB w (some ⟨b, off, none⟩) n l) (lo m : Nat) (hm : lo + m ≤ n) : RowB w (some ⟨b, off + lo, none⟩) m ((l.drop lo).take m) := by
  have hl := h.length
  refine ⟨⟨by simp; omega, by have := h.le; omega, fun h0 => ⟨b, off + lo, rfl, fun j hj => ?_⟩⟩, fun c hc => h.2 c (List.mem_of_mem_drop (List.mem_of_mem_take hc))⟩
  obtain ⟨b', off', hp, hc⟩ := h.cells (by omega)
  simp only [Option.some.injEq, Addr.mk.injEq, and_true] at hp
  obtain ⟨rfl, rfl⟩ := hp
  have := hc (lo + j) (by omega)
  rw [Nat.add_assoc, this, at0_map]
  simp [List.getD_eq_getElem?_getD, hj]

/-- a literal's slice reads as its numbers, in any later world -/
theorem rowI_lit {k : IntKind} {w w' : World} {cs : Array Value} {t : TypeId} {fr : Nat × Nat} (l : List Int) {B n : Nat} (hcs : cs = (l.map (Value.int k)).toArray) (hB : w.heap.size = B) (hn : l.length = n) (hx : Ext (w.alloc (.cells cs t fr)) w') (hl : n ≤ 9223372036854775807) :
    RowI k w' (some ⟨B, 0, none⟩) n l := by
  subst hB
  refine ⟨hn, hl, fun _ => ⟨_, 0, rfl, fun j hj => hx.cell ?_⟩⟩
  have e := heap_alloc_new w (.cells cs t fr)
  rw [cell_of_row _ _ _ _ _ _ e, hcs, Nat.zero_add]
  simp only [List.getElem?_toArray, List.getElem?_map, at0, List.getD_eq_getElem?_getD]
  rw [List.getElem?_eq_getElem (by omega)]; rfl
theorem rowB_lit {w w' : World} {cs : Array Value} {t : TypeId} {fr : Nat × Nat} (l : List Nat) {B n : Nat} (hcs : cs = (l.map fun x : Nat => Value.int .u8 (x : Int)).toArray) (hB : w.heap.size = B) (hn : l.length = n) (hb : ∀ c ∈ l, c < 256) (hx : Ext (w.alloc (.cells cs t fr)) w') (hl : n ≤ 9223372036854775807) :
    RowB w' (some ⟨B, 0, none⟩) n l :=
  ⟨rowI_lit (l.map fun x : Nat => (x : Int)) (by rw [hcs, List.map_map]; rfl) hB (by simpa using hn) hx hl, hb⟩
theorem rowB_nil (w : World) : RowB w none 0 [] := ⟨⟨rfl, by omega, fun h => by omega⟩, by simp⟩
theorem rowI_nil (k : IntKind) (w : World) : RowI k w none 0 [] := ⟨rfl, by omega, fun h => by omega⟩

/-- min of four -/
theorem run_min4 {P : Program} (w : World) (ts : Array TypeId) (t : TypeId) (k k1 k2 k3 : IntKind) (x y z u : Int) :
    (Builtin.min_ ts t #[.int k x, .int k1 y, .int k2 z, .int k3 u]).run P w = .ok (.int k (min (min (min x y) z) u)) w := by
  have e : ∀ a b : Int, (if b < a then b else a) = min a b := fun a b => by rw [Int.min_def]; split <;> split <;> omega
  simp [Builtin.min_, Builtin.min2, e]
end Go.Proofs.Ytifbmkcfgpfefaa
