/- How Go's data lie in cells, and what they read as: numbers, texts, structs, slices, to any depth; slices that came in and slices of the call's own. -/
import Derived.Test.YtifbmkcfgpfefaaOwn
import Derived.Test.YtifbmkcfgpfefaaApp
import Derived.Maps.AppendAt
import Derived.Deep.Slices
import Derived.ProofKit
import Derived.OpenShut
import Derived.ChangeOld
namespace Go.Proofs.Ytifbmkcfgpfefaa
open Go.RowKit Go.ChangeShapes Go.WideShapes Go.Deep
set_option linter.unusedVariables false

theorem addN (b o j : Nat) : (⟨b, o, none⟩ : Addr).add j = ⟨b, o + j, none⟩ := by unfold Addr.add; split <;> simp_all

/-- How one element of a Go type lies in cells, and what it reads as. -/
structure Lay (α : Type) where
  size : Nat
  pos : 0 < size
  R : World → List Value → α → Prop
  len : ∀ {w cs x}, R w cs x → cs.length = size
  ext : ∀ {w w' cs x}, R w cs x → Ext w w' → R w' cs x
  one : ∀ {w cs x}, R w cs x → ∀ u ∈ cs, u.oneCell' = true

namespace Lay
variable {α β : Type}

/-- cells that read as a list -/
def All (E : Lay α) (w : World) : List Value → List α → Prop
  | vs, [] => vs = []
  | vs, x :: l => ∃ cs vs', vs = cs ++ vs' ∧ E.R w cs x ∧ E.All w vs' l

theorem All.length {E : Lay α} {w : World} : ∀ {l : List α} {vs : List Value}, E.All w vs l → vs.length = l.length * E.size
  | [], vs, h => by obtain rfl : vs = [] := h; simp
  | x :: l, vs, h => by
    obtain ⟨cs, vs', rfl, h1, h2⟩ := h
    rw [List.length_append, E.len h1, h2.length, List.length_cons, Nat.add_mul, Nat.one_mul, Nat.add_comm]
theorem All.ext {E : Lay α} {w w' : World} (hx : Ext w w') : ∀ {l : List α} {vs : List Value}, E.All w vs l → E.All w' vs l
  | [], vs, h => h
  | x :: l, vs, h => by
    obtain ⟨cs, vs', rfl, h1, h2⟩ := h
    exact ⟨cs, vs', rfl, E.ext h1 hx, h2.ext hx⟩
theorem All.one {E : Lay α} {w : World} : ∀ {l : List α} {vs : List Value}, E.All w vs l → ∀ u ∈ vs, u.oneCell' = true
  | [], vs, h => by obtain rfl : vs = [] := h; simp
  | x :: l, vs, h => by
    obtain ⟨cs, vs', rfl, h1, h2⟩ := h
    intro u hu
    rcases List.mem_append.1 hu with h | h
    · exact E.one h1 u h
    · exact h2.one u h
theorem All.append {E : Lay α} {w : World} : ∀ {l m : List α} {vs us : List Value}, E.All w vs l → E.All w us m → E.All w (vs ++ us) (l ++ m)
  | [], m, vs, us, h, k => by obtain rfl : vs = [] := h; exact k
  | x :: l, m, vs, us, h, k => by
    obtain ⟨cs, vs', rfl, h1, h2⟩ := h
    exact ⟨cs, vs' ++ us, by rw [List.append_assoc], h1, h2.append k⟩
theorem All.single {E : Lay α} {w : World} {cs : List Value} {x : α} (h : E.R w cs x) : E.All w cs [x] := ⟨cs, [], by simp, h, rfl⟩
theorem All.drop {E : Lay α} {w : World} : ∀ {l : List α} {vs : List Value} (k : Nat), E.All w vs l → E.All w (vs.drop (k * E.size)) (l.drop k)
  | l, vs, 0, h => by simpa using h
  | [], vs, k + 1, h => by obtain rfl : vs = [] := h; simp [All]
  | x :: l, vs, k + 1, h => by
    obtain ⟨cs, vs', rfl, h1, h2⟩ := h
    have := h2.drop k
    rwa [Nat.add_mul, Nat.one_mul, Nat.add_comm, ← List.drop_drop, List.drop_left' (E.len h1)]
theorem All.take {E : Lay α} {w : World} : ∀ {l : List α} {vs : List Value} (k : Nat), E.All w vs l → E.All w (vs.take (k * E.size)) (l.take k)
  | l, vs, 0, h => by simp [All]
  | [], vs, k + 1, h => by obtain rfl : vs = [] := h; simp [All]
  | x :: l, vs, k + 1, h => by
    obtain ⟨cs, vs', rfl, h1, h2⟩ := h
    have h3 := h2.take k
    refine ⟨cs, vs'.take (k * E.size), ?_, h1, h3⟩
    rw [Nat.add_mul, Nat.one_mul, Nat.add_comm, List.take_append, E.len h1, Nat.add_sub_cancel_left, List.take_of_length_le (by rw [E.len h1]; omega)]
theorem All.get {E : Lay α} {w : World} {l : List α} {vs : List Value} (h : E.All w vs l) {j : Nat} {x : α} (hj : l[j]? = some x) : ∃ cs, E.R w cs x ∧ ∀ (i : Nat) (u : Value), cs[i]? = some u → vs[j * E.size + i]? = some u := by
  have hd := h.drop j
  have hjl : j < l.length := (List.getElem?_eq_some_iff.1 hj).1
  rw [List.drop_eq_getElem_cons hjl] at hd
  obtain ⟨cs, vs', he, h1, _⟩ := hd
  have hx : l[j] = x := (List.getElem?_eq_some_iff.1 hj).2
  rw [hx] at h1
  refine ⟨cs, h1, fun i u hu => ?_⟩
  have h2 : (vs.drop (j * E.size))[i]? = some u := by
    rw [he, List.getElem?_append_left ((List.getElem?_eq_some_iff.1 hu).1)]; exact hu
  rwa [List.getElem?_drop] at h2

/-- A slice value (place p, length n) reads as the list l. -/
def Row (E : Lay α) (w : World) (p : Option Addr) (n : Nat) (l : List α) : Prop :=
  l.length = n ∧ n ≤ 9223372036854775807 ∧ ∃ vs, E.All w vs l ∧ (0 < n → ∃ b off, p = some ⟨b, off, none⟩ ∧ ∀ j u, vs[j]? = some u → w.cell? ⟨b, off + j, none⟩ = some u)

theorem Row.ext {E : Lay α} {w w' : World} {p : Option Addr} {n : Nat} {l : List α} (h : E.Row w p n l) (hx : Ext w w') : E.Row w' p n l := by
  obtain ⟨h1, h2, vs, h3, h4⟩ := h
  exact ⟨h1, h2, vs, h3.ext hx, fun hn => by obtain ⟨b, off, hp, hc⟩ := h4 hn; exact ⟨b, off, hp, fun j u hu => hx.cell (hc j u hu)⟩⟩
theorem Row.get {E : Lay α} {w : World} {p : Option Addr} {n : Nat} {l : List α} (h : E.Row w p n l) {j : Nat} (hj : j < n) :
    ∃ b off x cs, p = some ⟨b, off, none⟩ ∧ l[j]? = some x ∧ E.R w cs x ∧ ∀ (i : Nat) (u : Value), cs[i]? = some u → w.cell? ⟨b, off + (j * E.size + i), none⟩ = some u := by
  obtain ⟨h1, h2, vs, h3, h4⟩ := h
  obtain ⟨b, off, hp, hc⟩ := h4 (by omega)
  have hx : l[j]? = some l[j] := List.getElem?_eq_getElem (by omega)
  obtain ⟨cs, hr, hg⟩ := h3.get hx
  exact ⟨b, off, _, cs, hp, hx, hr, fun i u hu => hc _ u (hg i u hu)⟩
/-- .. where the place is known -/
theorem Row.at_ {E : Lay α} {w : World} {b off n : Nat} {l : List α} (h : E.Row w (some ⟨b, off, none⟩) n l) {j : Nat} {x : α} (hj : l[j]? = some x) :
    ∃ cs, E.R w cs x ∧ ∀ (i : Nat) (u : Value), cs[i]? = some u → w.cell? ⟨b, off + (j * E.size + i), none⟩ = some u := by
  have hjl : j < l.length := (List.getElem?_eq_some_iff.1 hj).1
  obtain ⟨b', off', y, cs, hp, hy, hr, hc⟩ := h.get (j := j) (by rw [← h.1]; exact hjl)
  simp only [Option.some.injEq, Addr.mk.injEq, and_true] at hp
  obtain ⟨rfl, rfl⟩ := hp
  obtain rfl : x = y := by simpa [hj] using hy
  exact ⟨cs, hr, hc⟩
theorem Row.nil (E : Lay α) (w : World) (p : Option Addr) : E.Row w p 0 [] := ⟨rfl, by omega, [], rfl, fun h => by omega⟩
/-- a piece -/
theorem Row.sub {E : Lay α} {w : World} {b off n : Nat} {l : List α} (h : E.Row w (some ⟨b, off, none⟩) n l) (lo m : Nat) (hm : lo + m ≤ n) : E.Row w (some ⟨b, off + lo * E.size, none⟩) m ((l.drop lo).take m) := by
  obtain ⟨h1, h2, vs, h3, h4⟩ := h
  refine ⟨by simp; omega, by omega, _, (h3.drop lo).take m, fun h0 => ⟨b, off + lo * E.size, rfl, fun j u hu => ?_⟩⟩
  obtain ⟨b', off', hp, hc⟩ := h4 (by omega)
  simp only [Option.some.injEq, Addr.mk.injEq, and_true] at hp
  obtain ⟨rfl, rfl⟩ := hp
  rw [Nat.add_assoc]
  refine hc _ u ?_
  rw [List.getElem?_take] at hu
  split at hu
  · rwa [List.getElem?_drop] at hu
  · cases hu
theorem Row.pre {E : Lay α} {w : World} {p : Option Addr} {n : Nat} {l : List α} (h : E.Row w p n l) (m : Nat) (hm : m ≤ n) : E.Row w p m (l.take m) := by
  obtain ⟨h1, h2, vs, h3, h4⟩ := h
  refine ⟨by simp; omega, by omega, _, h3.take m, fun h0 => ?_⟩
  obtain ⟨b', off', hp, hc⟩ := h4 (by omega)
  refine ⟨b', off', hp, fun j u hu => hc j u ?_⟩
  rw [List.getElem?_take] at hu
  split at hu
  · exact hu
  · cases hu

/-- a new block of cells -/
theorem Row.lit {E : Lay α} {w w1 : World} {cs : Array Value} {t : TypeId} {fr : Nat × Nat} {n B : Nat} {l : List α} (hx : Ext (w.alloc (.cells cs t fr)) w1) (ha : E.All w1 cs.toList l) (hB : w.heap.size = B) (hn : l.length = n) (hl : n ≤ 9223372036854775807) : E.Row w1 (some ⟨B, 0, none⟩) n l := by
  subst hB
  refine ⟨hn, hl, _, ha, fun _ => ⟨_, 0, rfl, fun j u hu => hx.cell ?_⟩⟩
  have e := heap_alloc_new w (.cells cs t fr)
  rw [cell_of_row _ _ _ _ _ _ e, Nat.zero_add]
  simpa using hu

/-- A slice value reads as the list l. -/
def Sl (E : Lay α) (w : World) (v : Value) (l : List α) : Prop := ∃ p n c, v = .slice p n c ∧ E.Row w p n l ∧ n ≤ c ∧ c ≤ 9223372036854775807 ∧ Pl p c
theorem Sl.ext {E : Lay α} {w w' : World} {v : Value} {l : List α} (h : E.Sl w v l) (hx : Ext w w') : E.Sl w' v l := by
  obtain ⟨p, n, c, rfl, h1, h2⟩ := h
  exact ⟨p, n, c, rfl, h1.ext hx, h2⟩
theorem Sl.nil (E : Lay α) (w : World) : E.Sl w (.slice none 0 0) [] := ⟨none, 0, 0, rfl, Row.nil E w _, by omega, by omega, fun h => by omega⟩
theorem Sl.mk {E : Lay α} {w : World} {p : Option Addr} {n c : Nat} {l : List α} (h : E.Row w p n l) (hc : n ≤ c) (hm : c ≤ 9223372036854775807) (hp : Pl p c) : E.Sl w (.slice p n c) l := ⟨p, n, c, rfl, h, hc, hm, hp⟩

/-- cells that read as a list, whatever is written into one block (the call's own), or laid anew -/
def AllK (E : Lay α) (w : World) (row : Option Nat) (vs : List Value) (l : List α) : Prop := ∀ w', w.grownBy w' row → E.All w' vs l
theorem AllK.all {E : Lay α} {w : World} {row : Option Nat} {vs : List Value} {l : List α} (h : E.AllK w row vs l) : E.All w vs l := h w (World.grownBy.refl w row)
theorem grown_trans {a b c : World} {row : Option Nat} (h : a.grownBy b row) (k : b.grownBy c row) : a.grownBy c row :=
  ⟨k.os.trans h.os, k.tape.trans h.tape, k.output.trans h.output, Nat.le_trans h.size k.size, fun i hi hr => (k.block i (Nat.lt_of_lt_of_le hi h.size) hr).trans (h.block i hi hr)⟩
theorem grown_ext {a b : World} (h : Ext a b) (row : Option Nat) : a.grownBy b row := ⟨h.os, h.tape, h.output, h.size, fun k hk _ => h.block k hk⟩
/-- behind a write into the row, or into a new one -/
theorem AllK.grown {E : Lay α} {w w1 : World} {row row1 : Option Nat} {vs : List Value} {l : List α} (h : E.AllK w row vs l) (hg : w.grownBy w1 row) (hr : row1 = row ∨ row1 = some w.heap.size) : E.AllK w1 row1 vs l := by
  intro w2 h2
  rcases hr with rfl | rfl
  · exact h w2 (grown_trans hg h2)
  · refine h w2 ⟨h2.os.trans hg.os, h2.tape.trans hg.tape, h2.output.trans hg.output, Nat.le_trans hg.size h2.size, fun i hi hne => ?_⟩
    rw [h2.block i (Nat.lt_of_lt_of_le hi hg.size) (fun e => by simp only [Option.some.injEq] at e; omega)]
    exact hg.block i hi hne
theorem AllK.ext {E : Lay α} {w w1 : World} {row : Option Nat} {vs : List Value} {l : List α} (h : E.AllK w row vs l) (hx : Ext w w1) : E.AllK w1 row vs l :=
  fun w2 h2 => h w2 (grown_trans (grown_ext hx row) h2)
/-- what came in stays, whatever is written into a row of the call's own -/
theorem grown_old {w0 w w' : World} {row : Option Nat} (hx : Ext w0 w) (hr : ∀ k, row = some k → w0.heap.size ≤ k) (h : w.grownBy w' row) : Ext w0 w' :=
  ⟨h.os.trans hx.os, h.tape.trans hx.tape, h.output.trans hx.output, Nat.le_trans hx.size h.size, fun k hk => by
    rw [h.block k (Nat.lt_of_lt_of_le hk hx.size) (fun e => by have := hr k e.symm; omega)]
    exact hx.block k hk⟩

/-- a slice that is appended: its elements read so whatever is written into the row -/
def RowK (E : Lay α) (w : World) (row : Option Nat) (p : Option Addr) (n : Nat) (l : List α) : Prop :=
  l.length = n ∧ n ≤ 9223372036854775807 ∧ ∃ vs, E.AllK w row vs l ∧ (0 < n → ∃ b off, p = some ⟨b, off, none⟩ ∧ ∀ j u, vs[j]? = some u → w.cell? ⟨b, off + j, none⟩ = some u)
theorem Row.keep {E : Lay α} {w0 w : World} {row : Option Nat} {p : Option Addr} {n : Nat} {l : List α} (h : E.Row w0 p n l) (hx : Ext w0 w) (hr : ∀ k, row = some k → w0.heap.size ≤ k) : E.RowK w row p n l := by
  obtain ⟨h1, h2, vs, h3, h4⟩ := h
  exact ⟨h1, h2, vs, fun w' hg => h3.ext (grown_old hx hr hg), fun hn => by obtain ⟨b, off, hp, hc⟩ := h4 hn; exact ⟨b, off, hp, fun j u hu => hx.cell (hc j u hu)⟩⟩
/-- a new block of cells, appended -/
theorem RowK.lit {E : Lay α} {w w1 : World} {row : Option Nat} {cs : Array Value} {t : TypeId} {fr : Nat × Nat} {n B : Nat} {l : List α} (hx : Ext (w.alloc (.cells cs t fr)) w1) (ha : E.AllK w1 row cs.toList l) (hB : w.heap.size = B) (hn : l.length = n) (hl : n ≤ 9223372036854775807) : E.RowK w1 row (some ⟨B, 0, none⟩) n l := by
  subst hB
  refine ⟨hn, hl, _, ha, fun _ => ⟨_, 0, rfl, fun j u hu => hx.cell ?_⟩⟩
  have e := heap_alloc_new w (.cells cs t fr)
  rw [cell_of_row _ _ _ _ _ _ e, Nat.zero_add]
  simpa using hu

/-- The call's own slice. -/
def Own (E : Lay α) (w : World) (base : Nat) (e : TypeId) (v : Value) (l : List α) : Prop := ∃ vs, w.ownsRow base e E.size v l.length vs ∧ E.AllK w v.ownBlock vs l
theorem Own.nil (E : Lay α) (w : World) (base : Nat) (e : TypeId) : E.Own w base e (.slice none 0 0) [] := ⟨[], World.ownsRow_nil _ _ _ _, fun _ _ => rfl⟩
theorem Own.ext {E : Lay α} {w w' : World} {base : Nat} {e : TypeId} {v : Value} {l : List α} (h : E.Own w base e v l) (hx : Ext w w') : E.Own w' base e v l := by
  obtain ⟨vs, h1, h2⟩ := h
  exact ⟨vs, own_ext h1 hx, h2.ext hx⟩
theorem Own.lt {E : Lay α} {w : World} {base : Nat} {e : TypeId} {v : Value} {l : List α} (h : E.Own w base e v l) : ∀ k, v.ownBlock = some k → base ≤ k ∧ k < w.heap.size := by
  obtain ⟨vs, h1, h2⟩ := h
  exact h1.lt
theorem Own.base {E : Lay α} {w : World} {base base' : Nat} {e : TypeId} {v : Value} {l : List α} (h : E.Own w base e v l) (hb : base' ≤ base) : E.Own w base' e v l := by
  obtain ⟨vs, h1, h2⟩ := h
  refine ⟨vs, ⟨h1.1, ?_⟩, h2⟩
  rcases h1.2 with hn | ⟨g, cap, cur, rfl, hg, rest⟩
  · exact .inl hn
  · exact .inr ⟨g, cap, cur, rfl, by omega, rest⟩
theorem Own.sl {E : Lay α} {w : World} {base : Nat} {e : TypeId} {v : Value} {l : List α} (h : E.Own w base e v l) : E.Sl w v l := by
  obtain ⟨vs, h1, h2⟩ := h
  rcases h1.2 with ⟨rfl, h0⟩ | ⟨g, cap, cur, rfl, hb, hg, hnc, hcm, hsz, htk⟩
  · refine ⟨_, _, _, rfl, ⟨h0, by omega, vs, h2.all, fun h => by omega⟩, by omega, by omega, fun h => by omega⟩
  · refine ⟨_, _, _, rfl, ⟨rfl, by unfold maxLen at hcm; omega, vs, h2.all, fun h => ⟨g, 0, rfl, fun j u hu => ?_⟩⟩, hnc, by unfold maxLen at hcm; omega, fun _ => ⟨g, 0, rfl⟩⟩
    have := h1.cells (g := g) rfl j u hu
    rwa [add0] at this
theorem Own.form {E : Lay α} {w : World} {base : Nat} {e : TypeId} {v : Value} {l : List α} (h : E.Own w base e v l) : v = .slice none 0 0 ∨ ∃ g c, v = .slice (some ⟨g, 0, none⟩) l.length c ∧ l.length ≤ c := by
  obtain ⟨vs, h1, h2⟩ := h
  rcases h1.2 with ⟨rfl, h0⟩ | ⟨g, cap, cur, rfl, hb, hg, hnc, hcm, hsz, htk⟩
  · exact .inl rfl
  · exact .inr ⟨g, cap, rfl, hnc⟩
/-- an empty literal, or a new array without elements -/
theorem Own.made {E : Lay α} (w : World) (cur : Array Value) (cap base : Nat) (e : TypeId) (hb : base ≤ w.heap.size) (hm : cap ≤ maxLen) (hs : cur.size = cap * E.size) :
    E.Own (w.alloc (.cells cur e)) base e (.slice (some ⟨w.heap.size, 0, none⟩) 0 cap) [] :=
  ⟨[], World.ownsRow_made w cur cap hb hm hs, fun _ _ => rfl⟩

section
variable {E : Lay α} {P : Program}
theorem run_append (w : World) (t ty e : TypeId) (i : TypeInfo) (z : Value) (bytes base : Nat) (ht : P.underlying t = some (.slice e)) (hi : P.info? e = some i) (hz : i.zero = some z)
    (hsize : i.size = E.size) (hby : i.bytes = bytes) (hzs : z.cells.size = E.size) (v : Value) (l : List α) (hown : E.Own w base e v l)
    (p : Option Addr) (m c : Nat) (k : List α) (hpl : Pl p c) (hmc : m ≤ c) (hr : E.RowK w v.ownBlock p m k)
    (h63 : l.length + m ≤ maxLen) (hbytes : (l.length + m) * bytes ≤ 140737488355328) (hbase : base ≤ w.heap.size) :
    ∃ v' w', (Builtin.append_ #[t, t] ty #[v, .slice p m c]).run P w = .ok v' w' ∧ E.Own w' base e v' (l ++ k) ∧ w.grownBy w' v.ownBlock ∧ (v'.ownBlock = v.ownBlock ∨ v'.ownBlock = some w.heap.size) := by
  have hp := Pl.none hpl hmc
  obtain ⟨xs, ho, ha⟩ := hown
  obtain ⟨h1, h2, news, hk, hc⟩ := hr
  have hlen := hk.all.length
  cases p with
  | none =>
    obtain ⟨rfl, rfl⟩ := hp rfl
    obtain rfl : k = [] := List.eq_nil_of_length_eq_zero h1
    exact ⟨v, w, run_append_owned_none w base t ty e i E.size ht hi v _ xs ho, ⟨xs, by simpa using ho, by simpa using ha⟩, World.grownBy.refl w _, .inl rfl⟩
  | some ad =>
    have hn : ∀ j u, news[j]? = some u → w.cell? (ad.add j) = some u := by
      intro j u hu
      have h0 : 0 < m := by
        have := (List.getElem?_eq_some_iff.1 hu).1
        rw [hlen, h1] at this
        exact Nat.pos_of_ne_zero (fun e => by subst e; simp at this)
      obtain ⟨b, off, hq, hcc⟩ := hc h0
      simp only [Option.some.injEq] at hq
      subst hq
      rw [addN]
      exact hcc j u hu
    obtain ⟨v', w', hrun, h3, h4, _, h5⟩ := run_append_own_at (P := P) w base t ty e i z E.size bytes ht hi hz hsize hby hzs E.pos v _ xs ho ad m c news (by rw [hlen, h1]) hn hk.all.one h63 hbytes hbase
    refine ⟨v', w', hrun, ⟨xs ++ news, by rw [List.length_append, h1]; exact h3, fun w2 hg2 => ?_⟩, h4, h5⟩
    exact (ha.grown h4 h5 w2 hg2).append (hk.grown h4 h5 w2 hg2)

theorem wp_append {w : World} {o : Oper} {a : Act} {K : Act → World → Prop} {Q : Exit → Act → World → Prop} (s x : Operand) (t : TypeId)
    (ho : o.op = .call { callee := .builtin .append, args := #[s, x], argTypes := #[t, t] })
    (base : Nat) (e : TypeId) (i : TypeInfo) (z : Value) (bytes : Nat) (ht : P.underlying t = some (.slice e)) (hi : P.info? e = some i) (hz : i.zero = some z)
    (hsize : i.size = E.size) (hby : i.bytes = bytes) (hzs : z.cells.size = E.size)
    (v : Value) (l : List α) (hs : a.eval s = v) (hown : E.Own w base e v l)
    (p : Option Addr) (m c : Nat) (k : List α) (hx : a.eval x = .slice p m c) (hpl : Pl p c) (hmc : m ≤ c) (hr : E.RowK w v.ownBlock p m k)
    (h63 : l.length + m ≤ maxLen) (hbytes : (l.length + m) * bytes ≤ 140737488355328) (hbase : base ≤ w.heap.size)
    (h : ∀ v' w', E.Own w' base e v' (l ++ k) → w.grownBy w' v.ownBlock → K (a.put o.dst v') w') : o.wp P a w K Q := by
  obtain ⟨v', w', hrun, h2, h3, _⟩ := run_append (E := E) (P := P) w t o.type e i z bytes base ht hi hz hsize hby hzs v l hown p m c k hpl hmc hr h63 hbytes hbase
  unfold Oper.wp execOp
  simp only [ho, resolve, invoke, builtin, Sem.run_bind, Sem.run_pure, Result.andThen_ok, List.map_toArray, List.map_cons, List.map_nil, hs, hx, hrun]
  exact h v' w' h2 h3

theorem wpList_append {w : World} {ops : Array Oper} {rest : List Oper} {o : Oper} {a : Act} {Q : Exit → Act → World → Prop} (hgd : Region.wanted o (yielded ops a.tmps) = true) (s x : Operand) (t : TypeId)
    (ho : o.op = .call { callee := .builtin .append, args := #[s, x], argTypes := #[t, t] })
    (base : Nat) (e : TypeId) (i : TypeInfo) (z : Value) (bytes : Nat) (ht : P.underlying t = some (.slice e)) (hi : P.info? e = some i) (hz : i.zero = some z)
    (hsize : i.size = E.size) (hby : i.bytes = bytes) (hzs : z.cells.size = E.size)
    (v : Value) (l : List α) (hs : a.eval s = v) (hown : E.Own w base e v l)
    (p : Option Addr) (m c : Nat) (k : List α) (hx : a.eval x = .slice p m c) (hpl : Pl p c) (hmc : m ≤ c) (hr : E.RowK w v.ownBlock p m k)
    (h63 : l.length + m ≤ maxLen) (hbytes : (l.length + m) * bytes ≤ 140737488355328) (hbase : base ≤ w.heap.size)
    (h : ∀ v' w', E.Own w' base e v' (l ++ k) → w.grownBy w' v.ownBlock → wpList P ops Q rest (a.put o.dst v') w') : wpList P ops Q (o :: rest) a w :=
  wpList_step fun K hK => by
    rw [if_pos hgd]
    exact wp_append s x t ho base e i z bytes ht hi hz hsize hby hzs v l hs hown p m c k hx hpl hmc hr h63 hbytes hbase fun v' w' h2 h3 => hK _ _ (h v' w' h2 h3)

theorem step_append {w : World} {ops : Array Oper} {o : Oper} {a : Act} {K : Act → World → Prop} {Q : Exit → Act → World → Prop} {X : Prop} (hgd : Region.wanted o (yielded ops a.tmps) = true) (s x : Operand) (t : TypeId)
    (ho : o.op = .call { callee := .builtin .append, args := #[s, x], argTypes := #[t, t] })
    (base : Nat) (e : TypeId) (i : TypeInfo) (z : Value) (bytes : Nat) (ht : P.underlying t = some (.slice e)) (hi : P.info? e = some i) (hz : i.zero = some z)
    (hsize : i.size = E.size) (hby : i.bytes = bytes) (hzs : z.cells.size = E.size)
    (v : Value) (l : List α) (hs : a.eval s = v) (hown : E.Own w base e v l)
    (p : Option Addr) (m c : Nat) (k : List α) (hx : a.eval x = .slice p m c) (hpl : Pl p c) (hmc : m ≤ c) (hr : E.RowK w v.ownBlock p m k)
    (h63 : l.length + m ≤ maxLen) (hbytes : (l.length + m) * bytes ≤ 140737488355328) (hbase : base ≤ w.heap.size)
    (h : ∀ v' w', E.Own w' base e v' (l ++ k) → w.grownBy w' v.ownBlock → K (a.put o.dst v') w') :
    if Region.wanted o (yielded ops a.tmps) = true then Oper.wp P o a w K Q else X := by
  rw [if_pos hgd]
  exact wp_append s x t ho base e i z bytes ht hi hz hsize hby hzs v l hs hown p m c k hx hpl hmc hr h63 hbytes hbase h
theorem step_append0 {w : World} {ops : Array Oper} {o : Oper} {a : Act} {K : Act → World → Prop} {Q : Exit → Act → World → Prop} {X : Prop} (hgd : o.guard = none) (s x : Operand) (t : TypeId)
    (ho : o.op = .call { callee := .builtin .append, args := #[s, x], argTypes := #[t, t] })
    (base : Nat) (e : TypeId) (i : TypeInfo) (z : Value) (bytes : Nat) (ht : P.underlying t = some (.slice e)) (hi : P.info? e = some i) (hz : i.zero = some z)
    (hsize : i.size = E.size) (hby : i.bytes = bytes) (hzs : z.cells.size = E.size)
    (v : Value) (l : List α) (hs : a.eval s = v) (hown : E.Own w base e v l)
    (p : Option Addr) (m c : Nat) (k : List α) (hx : a.eval x = .slice p m c) (hpl : Pl p c) (hmc : m ≤ c) (hr : E.RowK w v.ownBlock p m k)
    (h63 : l.length + m ≤ maxLen) (hbytes : (l.length + m) * bytes ≤ 140737488355328) (hbase : base ≤ w.heap.size)
    (h : ∀ v' w', E.Own w' base e v' (l ++ k) → w.grownBy w' v.ownBlock → K (a.put o.dst v') w') :
    if Region.wanted o (yielded ops a.tmps) = true then Oper.wp P o a w K Q else X :=
  step_append (by simp [Region.wanted, hgd]) s x t ho base e i z bytes ht hi hz hsize hby hzs v l hs hown p m c k hx hpl hmc hr h63 hbytes hbase h
/-- below the call's own blocks all is as it was -/
theorem Own.below {w0 w w' : World} {base : Nat} {e : TypeId} {v : Value} {l : List α} (hown : E.Own w base e v l) (hx : Ext w0 w) (hb : w0.heap.size ≤ base) (hg : w.grownBy w' v.ownBlock) : Ext w0 w' :=
  grown_old hx (fun k hk => Nat.le_trans hb (hown.lt k hk).1) hg
end

/-- numbers -/
def int (k : IntKind) : Lay Int where
  size := 1
  pos := by omega
  R := fun _ cs x => cs = [.int k x] ∧ (Lit.int k x).wf = true
  len := fun h => by rw [h.1]; rfl
  ext := fun h _ => h
  one := fun h => by rw [h.1]; intro u hu; simp at hu; subst hu; rfl
def bool : Lay Bool where
  size := 1
  pos := by omega
  R := fun _ cs x => cs = [.bool x]
  len := fun h => by rw [h]; rfl
  ext := fun h _ => h
  one := fun h => by rw [h]; intro u hu; simp at hu; subst hu; rfl
def str : Lay ByteArray where
  size := 1
  pos := by omega
  R := fun _ cs x => cs = [.string x] ∧ x.size ≤ 9223372036854775807
  len := fun h => by rw [h.1]; rfl
  ext := fun h _ => h
  one := fun h => by rw [h.1]; intro u hu; simp at hu; subst hu; rfl
def slice (E : Lay α) : Lay (List α) where
  size := 1
  pos := by omega
  R := fun w cs x => ∃ v, cs = [v] ∧ E.Sl w v x
  len := fun h => by obtain ⟨v, h, _⟩ := h; rw [h]; rfl
  ext := fun h hx => by obtain ⟨v, h, k⟩ := h; exact ⟨v, h, k.ext hx⟩
  one := fun h => by
    obtain ⟨v, h, k⟩ := h
    obtain ⟨p, n, c, rfl, _⟩ := k
    rw [h]; intro u hu; simp at hu; subst hu; rfl
def pair (A : Lay α) (B : Lay β) : Lay (α × β) where
  size := A.size + B.size
  pos := by have := A.pos; omega
  R := fun w cs x => ∃ a b, cs = a ++ b ∧ A.R w a x.1 ∧ B.R w b x.2
  len := fun h => by obtain ⟨a, b, h, h1, h2⟩ := h; rw [h, List.length_append, A.len h1, B.len h2]
  ext := fun h hx => by obtain ⟨a, b, h, h1, h2⟩ := h; exact ⟨a, b, h, A.ext h1 hx, B.ext h2 hx⟩
  one := fun h => by
    obtain ⟨a, b, h, h1, h2⟩ := h
    rw [h]; intro u hu
    rcases List.mem_append.1 hu with h | h
    · exact A.one h1 u h
    · exact B.one h2 u h

theorem all_sl2 {E : Lay α} {w : World} {u v : Value} {l m : List α} (h : E.Sl w u l) (k : E.Sl w v m) : E.slice.All w [u, v] [l, m] := ⟨[u], [v], rfl, ⟨u, rfl, h⟩, [v], [], rfl, ⟨v, rfl, k⟩, rfl⟩
theorem sls_at {E : Lay α} {w : World} {p : Option Addr} {n : Nat} {ls : List (List α)} (h : E.slice.Row w p n ls) {j : Nat} {x : List α} (hj : ls[j]? = some x) :
    ∃ b off q m d, p = some ⟨b, off, none⟩ ∧ w.cell? ⟨b, off + j, none⟩ = some (.slice q m d) ∧ E.Row w q m x ∧ m ≤ d ∧ d ≤ 9223372036854775807 ∧ Pl q d := by
  obtain ⟨b, off, y, cs, rfl, hy, hr, hc⟩ := h.get (j := j) (by rw [← h.1]; exact (List.getElem?_eq_some_iff.1 hj).1)
  obtain rfl : x = y := by simpa [hj] using hy
  obtain ⟨v, rfl, q, m, d, rfl, h1, h2, h3, h4⟩ := hr
  have := hc 0 _ rfl
  have e : off + (j * E.slice.size + 0) = off + j := by show off + (j * 1 + 0) = _; omega
  rw [e] at this
  exact ⟨b, off, q, m, d, rfl, this, h1, h2, h3, h4⟩
/-! ### down from the reading of an argument -/
def Opens (t : TypeId) (E : Lay α) : Prop := Try.prog.cellsOf t = E.size ∧
  ∀ (H : Type) (enc : TypeId × Value → H) (w : World) (fuel : Nat) (cs : List Value) (d : DataW H × List MemPlace), DataW.trod enc Try.prog w 0 (fun _ => true) true fuel t cs = some d → ∃ x, E.R w cs x

theorem Opens.int {t : TypeId} {k : IntKind} (ht : Try.prog.underlying t = some (.int k)) (hc : Try.prog.cellsOf t = 1) : Opens t (Lay.int k) := by
  refine ⟨hc, fun H enc w fuel cs d h => ?_⟩
  obtain ⟨n, rfl, _, hw⟩ := DataW.trod_int ht h
  exact ⟨n, rfl, hw⟩
theorem Opens.bool {t : TypeId} (ht : Try.prog.underlying t = some .bool) (hc : Try.prog.cellsOf t = 1) : Opens t Lay.bool := by
  refine ⟨hc, fun H enc w fuel cs d h => ?_⟩
  obtain ⟨n, rfl, _⟩ := DataW.trod_bool ht h
  exact ⟨n, rfl⟩
theorem Opens.str {t : TypeId} (ht : Try.prog.underlying t = some .string) (hc : Try.prog.cellsOf t = 1) : Opens t Lay.str := by
  refine ⟨hc, fun H enc w fuel cs d h => ?_⟩
  obtain ⟨s, rfl, _, hw⟩ := DataW.trod_string ht h
  exact ⟨s, rfl, by unfold maxLen at hw; omega⟩

theorem all_of {E : Lay α} {w : World} (cell : Nat → List Value) : ∀ (n : Nat), (∀ i, i < n → ∃ x, E.R w (cell i) x) → ∃ l : List α, l.length = n ∧ E.All w ((List.range n).flatMap cell) l
  | 0, _ => ⟨[], rfl, rfl⟩
  | n + 1, h => by
    obtain ⟨l, hl, ha⟩ := all_of cell n fun i hi => h i (by omega)
    obtain ⟨x, hx⟩ := h n (by omega)
    refine ⟨l ++ [x], by simp [hl], ?_⟩
    rw [List.range_succ, List.flatMap_append]
    exact ha.append (by simpa using All.single hx)

theorem flat_get (cell : Nat → List Value) (k : Nat) (hk : 0 < k) : ∀ (n : Nat), (∀ i, i < n → (cell i).length = k) → ∀ (j : Nat) (u : Value), ((List.range n).flatMap cell)[j]? = some u → j / k < n ∧ (cell (j / k))[j % k]? = some u
  | 0, _, j, u, h => by simp at h
  | n + 1, hl, j, u, h => by
    have hlen : ((List.range n).flatMap cell).length = n * k := by
      clear h
      induction n with
      | zero => simp
      | succ n ih => rw [List.range_succ, List.flatMap_append, List.length_append, ih (fun i hi => hl i (by omega))]; simp [hl n (by omega), Nat.add_mul]
    rw [List.range_succ, List.flatMap_append] at h
    by_cases hj : j < n * k
    · rw [List.getElem?_append_left (by omega)] at h
      have := flat_get cell k hk n (fun i hi => hl i (by omega)) j u h
      exact ⟨by omega, this.2⟩
    · rw [List.getElem?_append_right (by omega), hlen] at h
      simp only [List.flatMap_cons, List.flatMap_nil, List.append_nil] at h
      have h2 : j - n * k < k := by
        have := (List.getElem?_eq_some_iff.1 h).1
        rwa [hl n (by omega)] at this
      have e1 : j = n * k + (j - n * k) := by omega
      have e2 : j / k = n := by
        exact Nat.div_eq_of_lt_le (by omega) (by rw [Nat.add_mul]; omega)
      have e3 : j % k = j - n * k := by
        have := Nat.div_add_mod j k
        rw [e2, Nat.mul_comm] at this
        omega
      rw [e2, e3]
      exact ⟨by omega, h⟩

theorem Opens.slice {t e : TypeId} {E : Lay α} (ht : Try.prog.underlying t = some (.slice e)) (hc : Try.prog.cellsOf t = 1) (he : Opens e E) : Opens t E.slice := by
  refine ⟨hc, fun H enc w fuel cs d h => ?_⟩
  rcases open_slice ht h with ⟨rfl, _⟩ | ⟨a, len, cap, m, n, D, P, rfl, _, hl, hm, hmm, _, hel⟩
  · exact ⟨[], _, rfl, Sl.nil E w⟩
  simp only [if_true] at hmm
  rw [hmm] at hel
  clear hmm
  have hcell : ∃ cell : Nat → List Value, ∀ i, i < cap → w.cells? 0 (a.add (i * E.size)) E.size = some (cell i) ∧ ∃ x, E.R w (cell i) x := by
    refine ⟨fun i => (w.cells? 0 (a.add (i * E.size)) E.size).getD [], fun i hi => ?_⟩
    obtain ⟨cs', h1, h2⟩ := hel i hi
    rw [he.1] at h1
    simp only [h1, Option.getD_some, true_and]
    exact he.2 _ enc w n cs' _ h2
  obtain ⟨cell, hcell⟩ := hcell
  have hplain : 0 < cap → ∃ b off, a = ⟨b, off, none⟩ := fun h0 => by
    obtain ⟨h1, _⟩ := hcell 0 h0
    obtain ⟨_, hlen, hat⟩ := World.cells?_some h1
    have h2 := hat 0 E.pos
    obtain ⟨b, off, spot⟩ := a
    have hspot : spot = none := by
      have h3 : (cell 0)[0]? = some ((cell 0)[0]'(by rw [hlen]; exact E.pos)) := List.getElem?_eq_getElem _
      rw [h3] at h2
      simpa [Addr.add] using World.cell?_spot h2
    subst hspot
    exact ⟨b, off, rfl⟩
  obtain ⟨l, hll, hall⟩ := all_of (E := E) (w := w) cell len fun i hi => (hcell i (by omega)).2
  refine ⟨l, _, rfl, some a, len, cap, rfl, ⟨hll, by unfold maxLen at hm; omega, _, hall, fun h0 => ?_⟩, hl, by unfold maxLen at hm; omega, fun h0 => ?_⟩
  · obtain ⟨b, off, rfl⟩ := hplain (by omega)
    refine ⟨b, off, rfl, fun j u hu => ?_⟩
    have hlens : ∀ i, i < len → (cell i).length = E.size := fun i hi => (World.cells?_some (hcell i (by omega)).1).2.1
    obtain ⟨hj, hu'⟩ := flat_get cell E.size E.pos len hlens j u hu
    obtain ⟨_, hlen, hat⟩ := World.cells?_some (hcell (j / E.size) (by omega)).1
    have h1 := hat (j % E.size) (Nat.mod_lt j E.pos)
    rw [hu'] at h1
    rw [addN, addN] at h1
    have e : off + j / E.size * E.size + j % E.size = off + j := by
      have := Nat.div_add_mod j E.size
      rw [Nat.mul_comm] at this
      omega
    rwa [e] at h1
  · obtain ⟨b, off, rfl⟩ := hplain h0
    exact ⟨b, off, rfl⟩

/-- fields from a place on -/
def OpensFs (fs : List Field) (off : Nat) (E : Lay α) : Prop := ∀ (H : Type) (enc : TypeId × Value → H) (w : World) (fuel : Nat) (cs : List Value), off + E.size ≤ cs.length →
  (∀ f ∈ fs, ∃ d, DataW.trod enc Try.prog w 0 (fun _ => true) true fuel f.type ((cs.drop f.offset).take (Try.prog.cellsOf f.type)) = some d) → ∃ x, E.R w ((cs.drop off).take E.size) x
theorem OpensFs.last {f : Field} {off : Nat} {E : Lay α} (ho : f.offset = off) (h : Opens f.type E) : OpensFs [f] off E := by
  intro H enc w fuel cs hl hf
  obtain ⟨d, hd⟩ := hf f (by simp)
  rw [ho, h.1] at hd
  exact h.2 _ enc w fuel _ d hd
theorem OpensFs.cons {f : Field} {fs : List Field} {off : Nat} {A : Lay α} {B : Lay β} (ho : f.offset = off) (h : Opens f.type A) (hs : OpensFs fs (off + A.size) B) : OpensFs (f :: fs) off (A.pair B) := by
  intro H enc w fuel cs hl hf
  have hl' : off + (A.size + B.size) ≤ cs.length := hl
  obtain ⟨d, hd⟩ := hf f (by simp)
  rw [ho, h.1] at hd
  obtain ⟨x, hx⟩ := h.2 _ enc w fuel _ d hd
  obtain ⟨y, hy⟩ := hs _ enc w fuel cs (by omega) fun g hg => hf g (by simp [hg])
  refine ⟨(x, y), _, _, ?_, hx, hy⟩
  show (cs.drop off).take (A.size + B.size) = _
  rw [← List.drop_drop, List.take_add]
theorem Opens.struct {t : TypeId} {fs : Array Field} {l : List Field} {E : Lay α} (ht : Try.prog.underlying t = some (.struct fs)) (hl : fs.toList = l) (hc : Try.prog.cellsOf t = E.size) (h : OpensFs l 0 E) : Opens t E := by
  refine ⟨hc, fun H enc w fuel cs d hd => ?_⟩
  obtain ⟨xs, n, _, _, hlen, hxl, hf⟩ := DataW.trod_struct ht hd
  rw [hc] at hlen
  obtain ⟨x, hx⟩ := h _ enc w n cs (by omega) fun f hfm => by
    rw [← hl] at hfm
    obtain ⟨i, hi, he⟩ := List.mem_iff_getElem.1 hfm
    have hi' : i < fs.size := by simpa using hi
    have := hf i f (by rw [Array.getElem?_eq_getElem hi']; simpa using he)
    rw [List.getElem?_eq_getElem (by omega)] at this
    exact ⟨_, this⟩
  rw [List.drop_zero, List.take_of_length_le (by omega)] at hx
  exact ⟨x, hx⟩

set_option maxRecDepth 100000 in
/-- a slice that came in -/
theorem open_sl {H : Type} {enc : TypeId × Value → H} {W : World} {base : Nat} {t e : TypeId} {E : Lay α} {v : Value} {d : DataW H} {ps : List MemPlace} (ht : Try.prog.underlying t = some (.slice e)) (ho : Opens t E.slice)
    (hv : Value.okWide Try.prog W .any base t v) (h : DataW.Trod enc Try.prog W 0 (fun _ => true) true t v d ps) : ∃ l, E.Sl W v l := by
  obtain ⟨a, n, c, rfl⟩ := okWide_slice ht hv
  obtain ⟨fuel, hf⟩ := h
  obtain ⟨l, u, hu, hs⟩ := ho.2 _ enc W fuel _ _ hf
  simp [Value.cells] at hu
  subst hu
  exact ⟨l, hs⟩
set_option maxRecDepth 100000 in
/-- a struct that came in -/
theorem open_agg {H : Type} {enc : TypeId × Value → H} {W : World} {base : Nat} {t : TypeId} {fs : Array Field} {E : Lay α} {v : Value} {d : DataW H} {ps : List MemPlace} (ht : Try.prog.underlying t = some (.struct fs)) (ho : Opens t E)
    (hv : Value.okWide Try.prog W .any base t v) (h : DataW.Trod enc Try.prog W 0 (fun _ => true) true t v d ps) : ∃ cs x, v = .agg cs.toArray ∧ E.R W cs x := by
  obtain ⟨cs, rfl, _⟩ := okWide_struct ht hv
  obtain ⟨fuel, hf⟩ := h
  obtain ⟨x, hx⟩ := ho.2 _ enc W fuel _ _ hf
  exact ⟨cs.toList, x, rfl, hx⟩
end Lay
end Go.Proofs.Ytifbmkcfgpfefaa
