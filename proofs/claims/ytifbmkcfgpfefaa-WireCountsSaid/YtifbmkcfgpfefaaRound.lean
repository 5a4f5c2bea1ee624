/- A region in the round of a range over a function: walked as anywhere. -/
import Derived.Test.YtifbmkcfgpfefaaGrow
import Derived.RangeFuncNested
import Derived.RangeFuncBound
import Derived.RangeFuncCalls
import Derived.RangeFuncLeaves
import Derived.OrdersHeld
namespace Go.Proofs.Ytifbmkcfgpfefaa
open Go.RowKit
set_option linter.unusedVariables false
variable {P : Program} {ops : Array Oper} {Q : Exit → Act → World → Prop}

theorem rows_round {row : String} {args : Array Value} {w : World} {R : Value → World → Prop} {n l0 : Nat} (h : Rows P row args w R) : RowsIn (Fence.wide.inRound l0) n P row args w R := fun c cs _ => by
  obtain ⟨v, w', r, s⟩ := h c cs
  exact ⟨v, w', r, by rw [fenced_inRound]; exact stepsIn_wide.2 s⟩
theorem calls_round {f : FuncId} {args : Array Value} {w : World} {R : Ending → World → Prop} {n l0 : Nat} (h : Calls P f args w R) : CallsIn (Fence.wide.inRound l0) n P f args w R := CallsIn.inRound l0 (callsIn_wide.2 h)
theorem upon_round {o : Oper} {a : Act} {next next' : Act → World → Prop} {n l0 : Nat} (hno : ∀ a w, ¬ Q .outgrown a w) (hn : ∀ a w, next a w → next' a w) : ∀ (r : Result Next), o.upon P a next Q r → o.uponIn (Fence.wide.inRound l0) n P a next' Q r := by
  have hd : (Fence.wide.inRound l0).depth.isSome = true → 1 ≤ n := fun h => by simp [Fence.wide] at h
  intro r h
  cases r with
  | ok x w' =>
    cases x with
    | value v => exact hn _ _ h
    | skip => exact hn _ _ h
    | defer d => exact hn _ _ h
    | enter f args =>
      refine ⟨hd, (calls_round (n := n - 1) (l0 := l0) h).mono fun e w'' he => ?_⟩
      cases e with
      | returned v => exact hn _ _ he
      | panicked c => exact he
      | outgrown => exact he
    | row row args => exact ⟨hd, RowsIn.mono (rows_round (n := n - 1) (l0 := l0) h) fun v w'' hv => hn _ _ hv⟩
    | _ => exact absurd h (by simp [Oper.upon])
  | halt x w' =>
    cases x with
    | panic v => exact h
    | _ => exact absurd h (by simp [Oper.upon])
theorem ops_round {n l0 : Nat} (hnd : ∀ (i : Nat) (o : Oper), ops[i]? = some o → ∀ c, o.op ≠ .defer c) (hno : ∀ a w, ¬ Q .outgrown a w) : ∀ (l : List Nat) (a : Act) (w : World), wpOps P ops Q l a w → wpOpsIn (Fence.wide.inRound l0) n P ops Q l a w := by
  intro l
  induction l with
  | nil => intro a w h; exact h
  | cons i rest ih =>
    intro a w h
    simp only [wpOps] at h
    simp only [wpOpsIn]
    cases ho : ops[i]? with
    | none => simp only [ho] at h ⊢; exact ih a w h
    | some o =>
      simp only [ho] at h ⊢
      by_cases hw : Region.wanted o (yielded ops a.tmps) = true
      · simp only [hw, if_true] at h ⊢
        rcases h with h | ⟨_, ⟨a1, w1, hq⟩⟩
        · refine ⟨fun f _ => trivial, ?_⟩
          have e : (Fence.wide.inRound l0).round = some l0 := rfl
          rw [e, Oper.semAt_some l0 _ o (hnd i o ho)]
          exact upon_round hno ih _ h
        · exact absurd hq (hno _ _)
      · simp only [hw, if_false, Bool.false_eq_true] at h ⊢
        exact ⟨fun f _ => trivial, ih _ _ h⟩
/-- no 'defer' among them -/
def noDefer (l : List Oper) : Bool := l.all fun o => match o.op with | .defer _ => false | _ => true
theorem noDefer_spec {l : List Oper} (h : noDefer l = true) : ∀ (i : Nat) (o : Oper), l.toArray[i]? = some o → ∀ c, o.op ≠ .defer c := by
  intro i o ho c e
  have hm : o ∈ l := by
    have : l[i]? = some o := by simpa using ho
    exact List.mem_of_getElem? this
  have := List.all_eq_true.1 h o hm
  rw [e] at this
  cases this
/-- whichever order -/
theorem region_round {n l0 id : Nat} {l : List Oper} {a : Act} {w : World} (hm : P.follows .mixedOrders = true) (hd : noDefer l = true) (hno : ∀ a w, ¬ Q .outgrown a w)
    (h : wpAny P .any l.toArray Q l.length (Array.replicate l.length false) a w.drew) : (Code.region id l.toArray true).wpIn (Fence.wide.inRound l0) n P Q a w :=
  wpIn_region_draw fun t => by
    simp only [Region.schedule, hm, Bool.true_or, if_true]
    refine ops_round (noDefer_spec hd) hno _ _ _ ?_
    exact wpAny_sound (P := P) (ops := l.toArray) (Q := Q) (md := .any) l.length _ (Array.replicate l.length false) a w.drew h
/-- with facts that stay -/
theorem region_round_held {n l0 id : Nat} {l : List Oper} {a : Act} {w : World} (S : World → Prop) (hm : P.follows .mixedOrders = true) (hd : noDefer l = true) (hno : ∀ a w, ¬ Q .outgrown a w)
    (h : wpAnyH P .any l.toArray Q S l.length (Array.replicate l.length false) a w.drew) : (Code.region id l.toArray true).wpIn (Fence.wide.inRound l0) n P Q a w :=
  region_round hm hd hno (wpAny_of_held _ _ _ _ h)
/-- a region in the text's order, in a round: walked as anywhere -/
theorem region_round_list {n l0 id : Nat} {l : List Oper} {a : Act} {w : World} (hd : noDefer l = true) (hno : ∀ a w, ¬ Q .outgrown a w) (h : wpList P l.toArray Q l a w) : (Code.region id l.toArray false).wpIn (Fence.wide.inRound l0) n P Q a w := by
  refine wpIn_region (ops_round (noDefer_spec hd) hno _ _ _ ?_)
  rw [List.range_eq_range', ← Array.length_toList, wpOps_eq_wpList l 0 (by simp)]
  exact h
/-- one walk, in every world that has grown -/
theorem region_round_grown {n l0 id : Nat} {l : List Oper} {a : Act} {w0 w : World} (hx : Ext w0 w) (hm : P.follows .mixedOrders = true) (hd : noDefer l = true) (hno : ∀ a w, ¬ Q .outgrown a w) (hB : Region.lexB .any l.toArray = true)
    (h : wpQuiet P l.toArray (fun w' => ∃ g : Gr w0, w' = g.w) (fun a' => ∀ g : Gr w0, Q .normal a' g.w) l a) : (Code.region id l.toArray true).wpIn (Fence.wide.inRound l0) n P Q a w := by
  refine region_round hm hd hno ?_
  simp only [Region.lexB, Bool.and_eq_true] at hB
  refine wpAny_of_quiet (C := fun w' => ∃ g : Gr w0, w' = g.w) (Q := fun a' => ∀ g : Gr w0, Q .normal a' g.w) (fun _ w' ⟨g, hg⟩ h => hg ▸ h g) _ _ _ _ ⟨⟨w.drew, Ext.drew hx⟩, rfl⟩ ?_
  have := wpAnyQ_lex (C := fun w' => ∃ g : Gr w0, w' = g.w) (md := .any) hB.1 l 0 (Array.replicate l.length false) a (by simp) (by simpa using hB.2) (by simpa using h)
  simpa using this
end Go.Proofs.Ytifbmkcfgpfefaa
