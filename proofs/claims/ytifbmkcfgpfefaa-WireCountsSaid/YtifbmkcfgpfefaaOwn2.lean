/- Two rows of the call's own at once. -/
import Derived.Test.YtifbmkcfgpfefaaRepI
namespace Go.Proofs.Ytifbmkcfgpfefaa
open Go.RowKit
set_option linter.unusedVariables false
namespace Lay
variable {α β : Type}
section
variable {E : Lay α} {P : Program}
theorem wpList_append2 {w : World} {ops : Array Oper} {rest : List Oper} {o : Oper} {a : Act} {Q : Exit → Act → World → Prop} (hgd : Region.wanted o (yielded ops a.tmps) = true) (s x : Operand) (t : TypeId)
    (ho : o.op = .call { callee := .builtin .append, args := #[s, x], argTypes := #[t, t] })
    (base : Nat) (e : TypeId) (i : TypeInfo) (z : Value) (bytes : Nat) (ht : P.underlying t = some (.slice e)) (hi : P.info? e = some i) (hz : i.zero = some z)
    (hsize : i.size = E.size) (hby : i.bytes = bytes) (hzs : z.cells.size = E.size)
    (v : Value) (l : List α) (hs : a.eval s = v) (hown : E.Own w base e v l)
    (p : Option Addr) (m c : Nat) (k : List α) (hx : a.eval x = .slice p m c) (hpl : Pl p c) (hmc : m ≤ c) (hr : E.RowK w v.ownBlock p m k)
    (h63 : l.length + m ≤ maxLen) (hbytes : (l.length + m) * bytes ≤ 140737488355328) (hbase : base ≤ w.heap.size)
    (h : ∀ v' w', E.Own w' base e v' (l ++ k) → w.grownBy w' v.ownBlock → (v'.ownBlock = v.ownBlock ∨ v'.ownBlock = some w.heap.size) → wpList P ops Q rest (a.put o.dst v') w') : wpList P ops Q (o :: rest) a w :=
  wpList_step fun K hK => by
    rw [if_pos hgd]
    obtain ⟨v', w', hrun, h2, h3, h4⟩ := run_append (E := E) (P := P) w t o.type e i z bytes base ht hi hz hsize hby hzs v l hown p m c k hpl hmc hr h63 hbytes hbase
    unfold Oper.wp execOp
    simp only [ho, resolve, invoke, builtin, Sem.run_bind, Sem.run_pure, Result.andThen_ok, List.map_toArray, List.map_cons, List.map_nil, hs, hx, hrun]
    exact hK _ _ (h v' w' h2 h3 h4)
end
/-- what hangs on no memory -/
def Plain (E : Lay α) : Prop := ∀ (w w' : World) (vs : List Value) (l : List α), E.All w vs l → E.All w' vs l
theorem plain_int (k : IntKind) : (Lay.int k).Plain := fun w w' vs l h => by
  obtain ⟨rfl, hw⟩ := h.ints
  exact Lay.all_ints w' l hw
/-- a row stays while another one is written -/
theorem Own.kept {E : Lay α} (hE : E.Plain) {w w' : World} {base : Nat} {e : TypeId} {v : Value} {l : List α} {row : Option Nat} (h : E.Own w base e v l) (hg : w.grownBy w' row) (hne : v.ownBlock ≠ row) : E.Own w' base e v l := by
  obtain ⟨vs, h1, h2⟩ := h
  exact ⟨vs, h1.kept hg (.inr hne), fun w2 _ => hE w w2 vs l h2.all⟩
/-- apart still, behind an append to the one -/
theorem apart_append {E : Lay α} {F : Lay β} {w : World} {base base2 : Nat} {e f : TypeId} {u v v' : Value} {l : List α} {m : List β} (hu : E.Own w base e u l) (hne : u.ownBlock ≠ v.ownBlock) (h : v'.ownBlock = v.ownBlock ∨ v'.ownBlock = some w.heap.size) : u.ownBlock ≠ v'.ownBlock := by
  rcases h with h | h
  · rw [h]; exact hne
  · rw [h]
    intro e
    have := (hu.lt _ e).2
    omega
theorem single_int {k : IntKind} {w : World} {row : Option Nat} {x : Int} (hx : (Lit.int k x).wf = true) : (Lay.int k).AllK w row [.int k x] [x] := fun _ _ => ⟨[.int k x], [], rfl, ⟨rfl, hx⟩, rfl⟩
end Lay
end Go.Proofs.Ytifbmkcfgpfefaa
